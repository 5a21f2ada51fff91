import PyProof.Rows.All
import Wide.All
import OpenK.AllK
import Wide.FinOn
import PySem.Challenge.RW_beatless_k10_texts_that_are_none
import Lean
import PyProof.EqAt
import PyProof.EqKinds
import PyProof.TupleCall
import PyProof.ZipIter
import PyProof.WalksMore
import KE.KRevSl
import KE.KIntText
import KE.KRevIter
import PyProof.Draws
import PyProof.EnumFor
import PyProof.EnumStmt
import PyProof.Rows.StrFacts2
import PyProof.StrLawsTight
import PyProof.StrLawsChain
set_option Elab.async false
set_option linter.all false
set_option maxRecDepth 100000
namespace L2
open PySem PySem.Spec PyProof.Rows
abbrev Key:=Sum Int Str
def zem : Key→Value→Bool
  | .inl k,v=>Value.isInt k v
  | .inr x,v=>Value.isStrOf x v
def zrB (w : World) : Key→Int
  | .inl k=>hashInt k
  | .inr x=>hashStr w x
theorem zS : ∀ {k : Key} {v : Value},zem k v = true→(∃ i t,k = Sum.inl i∧v = Value.int i t)∨(∃ x t,k = Sum.inr x∧v = Value.str x t)
  | .inl i,v,h=>by
    obtain ⟨t,e⟩:=Value.isInt_shape (k:=i) (v:=v) h
    exact .inl ⟨i,t,rfl,e⟩
  | .inr x,v,h=>by
    obtain ⟨t,e⟩:=Value.isStrOf_shape (x:=x) (v:=v) h
    exact .inr ⟨x,t,rfl,e⟩
theorem zel (a b : Int) : decide ((Sum.inl a : Key) = Sum.inl b) = (a == b):=by
  by_cases e : a = b
  · subst e; simp
  · have h : ¬ (Sum.inl a : Key) = Sum.inl b:=fun q=>e (Sum.inl.inj q)
    rw [decide_eq_false h]
    exact (beq_eq_false_iff_ne.mpr e).symm
theorem zei (a b : Str) : decide ((Sum.inr a : Key) = Sum.inr b) = decide (a = b):=by
  by_cases e : a = b
  · subst e; simp
  · have h : ¬ (Sum.inr a : Key) = Sum.inr b:=fun q=>e (Sum.inr.inj q)
    rw [decide_eq_false h,decide_eq_false e]
theorem zek (a : Int) (b : Str) : decide ((Sum.inl a : Key) = Sum.inr b) = false:=decide_eq_false (fun q=>nomatch q)
theorem zej (a : Str) (b : Int) : decide ((Sum.inr a : Key) = Sum.inl b) = false:=decide_eq_false (fun q=>nomatch q)
def XR (prog : Program) (w : World) : PySem.KeyKind prog w Key where
  is:=zem
  hash:=zrB w
  inj:=fun v a b ha hb=>by
    rcases zS ha with ⟨i,t,rfl,rfl⟩ | ⟨x,t,rfl,rfl⟩
    · rcases zS hb with ⟨j,u,rfl,e⟩ | ⟨y,u,rfl,e⟩
      · injection e with e1 _; rw [e1]
      · exact nomatch e
    · rcases zS hb with ⟨j,u,rfl,e⟩ | ⟨y,u,rfl,e⟩
      · exact nomatch e
      · injection e with e1 _; rw [e1]
  byValue:=fun k v h=>by
    rcases zS h with ⟨i,t,rfl,rfl⟩ | ⟨x,t,rfl,rfl⟩ <;> rfl
  pyHash:=fun hv h=>by
    rcases zS hv with ⟨i,t,rfl,rfl⟩ | ⟨x,t,rfl,rfl⟩
    · exact wpAny_pyHash_int h
    · exact wpAny_pyHash_str h
  eqBool:=fun hu hv h=>by
    rcases zS hu with ⟨i,t,rfl,rfl⟩ | ⟨x,t,rfl,rfl⟩
    · rcases zS hv with ⟨j,u,rfl,rfl⟩ | ⟨y,u,rfl,rfl⟩
      · rw [zel] at h; exact wpAny_eqBool_int h
      · rw [zek] at h; exact SeqAt.EqAt.int_str i t y u _ _ _ _ h
    · rcases zS hv with ⟨j,u,rfl,rfl⟩ | ⟨y,u,rfl,rfl⟩
      · rw [zej] at h; exact SeqAt.EqAt.str_int x t j u _ _ _ _ h
      · rw [zei] at h; exact wpAny_eqBool_str h
  «strs»:=fun k x t v h=>by
    rcases zS h with ⟨i,u,rfl,e⟩ | ⟨y,u,rfl,e⟩
    · exact nomatch e
    · injection e with e1 _
      subst e1
      cases v <;> rfl
end L2
namespace L2
open PySem PySem.Spec PyProof.Rows
inductive V where
  | non | bl (b : Bool) | int (i : Int) | str (x : Str) | byt (b : Array UInt8) | flt (b : UInt64) | ref (a : Addr) | ty (n : String)
  deriving DecidableEq
def RelV : V→Value→Prop
  | .non,u=>u = Value.none
  | .bl b,u=>u = Value.bool b
  | .int i,u=>∃ t,u = Value.int i t
  | .str x,u=>∃ t,u = Value.str x t
  | .byt b,u=>∃ t,u = Value.bytes b t
  | .flt b,u=>∃ t,u = Value.float b t
  | .ref a,u=>u = Value.ref a
  | .ty n,u=>u = Value.type n
abbrev Vals : List V→List Value→Prop:=Paired RelV
theorem Vals.length {xs : List V} {us : List Value} (r : Vals xs us) : xs.length = us.length:=Paired.length r
theorem Vals.get : ∀ {xs : List V} {us : List Value} {i : Nat} {x : V},Vals xs us→xs[i]? = some x→∃ u,us[i]? = some u∧RelV x u
  | _,_,_,_,.nil,e=>by simp at e
  | _,_,0,_,.cons r _,e=>by simp at e; subst e; exact ⟨_,rfl,r⟩
  | _,_,i + 1,x,.cons _ t,e=>by
    obtain ⟨u,h1,h2⟩:=Vals.get (i:=i) (x:=x) t (by simpa using e)
    exact ⟨u,by simpa using h1,h2⟩
theorem Vals.set {x : V} {u : Value} (r : RelV x u) : ∀ {xs : List V} {us : List Value} (i : Nat),Vals xs us→Vals (xs.set i x) (us.set i u)
  | _,_,_,.nil=>.nil
  | _,_,0,.cons _ t=>.cons r t
  | _,_,i + 1,.cons q t=>.cons q (Vals.set r i t)
theorem Vals.append : ∀ {xs ys : List V} {us ws : List Value},Vals xs us→Vals ys ws→Vals (xs ++ ys) (us ++ ws)
  | _,_,_,_,.nil,s=>s
  | _,_,_,_,.cons r t,s=>.cons r (Vals.append t s)
theorem Vals.take : ∀ {xs : List V} {us : List Value} (n : Nat),Vals xs us→Vals (xs.take n) (us.take n)
  | _,_,0,_=>.nil
  | _,_,_ + 1,.nil=>.nil
  | _,_,n + 1,.cons r t=>.cons r (Vals.take n t)
theorem Vals.drop : ∀ {xs : List V} {us : List Value} (n : Nat),Vals xs us→Vals (xs.drop n) (us.drop n)
  | _,_,0,r=>r
  | _,_,_ + 1,.nil=>.nil
  | _,_,n + 1,.cons _ t=>Vals.drop n t
def RelO : Option V→Option Value→Prop
  | some v,some u=>RelV v u
  | none,none=>True
  | _,_=>False
def KV {κ : Type} : List (κ × V)→List (κ × Value)→Prop:=Paired fun (p : κ × V) (q : κ × Value)=>p.1 = q.1∧RelV p.2 q.2
def kV : Key→V
  | .inl i=>.int i
  | .inr x=>.str x
inductive HO where
  /-- a list -/
  | lst (xs : List V)
  /-- a tuple (never changes) -/
  | tup (xs : List V)
  /-- a dict whose keys are ints and texts; one whose keys are tuples of ints and texts (the empty one is both) -/
  | dK (kvs : List (Key × V)) | dT (kvs : List (List Key × V))
  /-- a set of ints: its members,its size -/
  | set (S : Int→Bool) (n : Nat)
  /-- an instance of the class at C,its dict at dx,its attributes -/
  | ins (C dx : Addr) (fs : List (Str × V))
  /-- the dict of the instance at x -/
  | own (x : Addr)
  /-- the dict of an exception -/
  | xd (fs : List (Str × V))
  /-- a bound method,f of x -/
  | met (f x : Addr)
  /-- a range object lo,lo + 1,.. below hi -/
  | rng (lo hi : Int)
  /-- a thing that is known to the object (the script; a dict while a loop walks it): read,never written while it is so -/
  | frz (o : Obj) (u : HO)
  /-- a code object's table -/
  | tbl (ps : Array Value)
  /-- any other thing,by what is true of its one object (a def of one's own: SetO a S n:=HO.ext fun h=>..) -/
  | ext (φ : Heap→Prop)
abbrev Hp:=Addr→Option HO
def upd (H : Hp) (a : Addr) (o : HO) : Hp:=fun b=>if b = a then some o else H b
theorem upd_same {H : Hp} {a : Addr} {o : HO} : upd H a o a = some o:=by unfold upd; rw [if_pos rfl]
theorem upd_ne {H : Hp} {a b : Addr} {o : HO} (h : b ≠ a) : upd H a o b = H b:=by unfold upd; rw [if_neg h]
theorem xu {H : Hp} {a : Addr} {o u : HO} : upd (upd H a o) a u = upd H a u:=by
  funext b; unfold upd; split <;> rfl
theorem zeb {H : Hp} {a b : Addr} {o u : HO} (h : H a = some o) (h' : H b = some u) (d : o ≠ u) : a ≠ b:=by
  intro e; subst e; rw [h] at h'; exact d (Option.some.inj h')
theorem ne_of_none {H : Hp} {a b : Addr} {o : HO} (h : H a = some o) (h' : H b = none) : a ≠ b:=by
  intro e; subst e; rw [h] at h'; cases h'
section
variable (P : Program) (w : World)
def ObjOk (H : Hp) (h : Heap) (a : Addr) : HO→Prop
  | .lst xs=>xs.length ≤ sizeLine∧∃ (its : List Value) (n : Nat),Vals xs its∧h.get? a = some { cls:=.type "list",data:=.seq its.toArray n }
  | .tup xs=>xs.length ≤ sizeLine∧∃ its : List Value,Vals xs its∧IsTup h a its.toArray
  | .dK kvs=>kvs.length ≤ sizeLine∧(a == sysModules) = false∧∃ vs,KV kvs vs∧h.DictOf (XR P w) a vs
  | .dT kvs=>kvs.length ≤ sizeLine∧(a == sysModules) = false∧∃ xs : List (List Key × Addr × Value),
      Paired (fun (p : List Key × V) (q : List Key × Addr × Value)=>p.1 = q.1∧H q.2.1 = some (.tup (p.1.map kV))∧RelV p.2 q.2.2) kvs xs ∧
      ∃ o es ep,h.get? a = some o∧o.ExactDict∧o.data = .dict es ep∧es.toList = xs.map (entryOfKey (tupleKind (XR P w)))∧(xs.map (·.1)).Nodup
  | .set S n=>h.SetOf (intKind P w) a S n
  | .ins C dx fs=>H dx = some (.own a)∧fs.length ≤ 1000∧dx ≠ a∧h.get? a = some (PySem.W.instObj C dx) ∧
      ∃ mA,h.Ns1 dx mA∧(∀ f,RelO (fs.lookup f) (mA f))∧PySem.Within mA (fs.map (·.1))
  | .own _=>∃ o,h.get? a = some o
  | .xd fs=>∃ mA,h.Ns1 a mA∧∀ f,RelO (fs.lookup f) (mA f)
  | .rng lo hi=>∃ t u v,h.get? a = some { cls:=.type "range",data:=.fields #[.int lo t,.int hi u,.int 1 v] }
  | .frz o u=>h.get? a = some o∧ObjOk H h a u
  | .tbl ps=>h.get? a = some { cls:=.none,data:=.fields ps }
  | .met f x=>h.get? a = some (PySem.W.methodObj (.ref f) (.ref x))
  | .ext φ=>φ h∧(∃ o,h.get? a = some o)∧∀ h1 h2 : Heap,φ h1→(∀ o,h1.get? a = some o→h2.get? a = some o)→φ h2
def HOk (H : Hp) (h : Heap) : Prop:=∀ a o,H a = some o→ObjOk P w H h a o
end
section
variable {P : Program} {w : World} {H H' : Hp} {h h' : Heap} {a : Addr} {o : HO}
theorem ObjOk.lt (x : ObjOk P w H h a o) : a < h.objs.size:=by
  cases o with
  | lst xs=>obtain ⟨_,_,_,_,e⟩:=x; exact Heap.lt_size e
  | tup xs=>obtain ⟨_,_,_,p⟩:=x; exact p.lt
  | dK kvs=>obtain ⟨_,_,_,_,o,_,_,e,_⟩:=x; exact Heap.lt_size e
  | dT kvs=>obtain ⟨_,_,_,_,o,_,_,e,_⟩:=x; exact Heap.lt_size e
  | set S n=>obtain ⟨o,_,_,_,e,_⟩:=x; exact Heap.lt_size e
  | ins C dx fs=>obtain ⟨_,_,_,e,_⟩:=x; exact Heap.lt_size e
  | own y=>obtain ⟨_,e⟩:=x; exact Heap.lt_size e
  | xd fs=>obtain ⟨_,⟨_,_,_,e,_⟩,_⟩:=x; exact Heap.lt_size e
  | rng lo hi=>obtain ⟨_,_,_,e⟩:=x; exact Heap.lt_size e
  | frz ob u=>obtain ⟨e,_⟩:=x; exact Heap.lt_size e
  | tbl ps=>exact Heap.lt_size (show h.get? a = some _ from x)
  | met f y=>exact Heap.lt_size (show h.get? a = some _ from x)
  | ext φ=>obtain ⟨_,⟨_,e⟩,_⟩:=x; exact Heap.lt_size e
theorem Paired.mapP {α β : Type} {F G : α→β→Prop} : ∀ {l₁ : List α} {l₂ : List β},Paired F l₁ l₂→(∀ a b,F a b→G a b)→Paired G l₁ l₂
  | _,_,.nil,_=>.nil
  | _,_,.cons r t,f=>.cons (f _ _ r) (Paired.mapP t f)
theorem ObjOk.stay (x : ObjOk P w H h a o) (k : ∀ b u,(b = a∨H b = some (.own a))→h.get? b = some u→h'.get? b = some u)
    (ho : ∀ b,H b = some (.own a)→H' b = some (.own a)) (ht : ∀ b xs,H b = some (.tup xs)→H' b = some (.tup xs)) : ObjOk P w H' h' a o:=by
  induction o with
  | lst xs=>obtain ⟨z,its,n,r,e⟩:=x; exact ⟨z,its,n,r,k _ _ (.inl rfl) e⟩
  | tup xs=>obtain ⟨z,its,r,ob,e,c⟩:=x; exact ⟨z,its,r,ob,k _ _ (.inl rfl) e,c⟩
  | dK kvs=>obtain ⟨z,y,vs,r,ob,es,ep,e,c⟩:=x; exact ⟨z,y,vs,r,ob,es,ep,k _ _ (.inl rfl) e,c⟩
  | dT kvs =>
    obtain ⟨z,y,xs,r,ob,es,ep,e,c⟩:=x
    exact ⟨z,y,xs,Paired.mapP r fun p q z=>⟨z.1,ht _ _ z.2.1,z.2.2⟩,ob,es,ep,k _ _ (.inl rfl) e,c⟩
  | set S n=>obtain ⟨ob,es,ep,t,e,c⟩:=x; exact ⟨ob,es,ep,t,k _ _ (.inl rfl) e,c⟩
  | ins C dx fs =>
    obtain ⟨d,z,ne,e,mA,⟨od,es,ep,e2,c⟩,r⟩:=x
    exact ⟨ho _ d,z,ne,k _ _ (.inl rfl) e,mA,⟨od,es,ep,k _ _ (.inr d) e2,c⟩,r⟩
  | own y=>obtain ⟨ob,e⟩:=x; exact ⟨ob,k _ _ (.inl rfl) e⟩
  | xd fs=>obtain ⟨mA,⟨od,es,ep,e,c⟩,r⟩:=x; exact ⟨mA,⟨od,es,ep,k _ _ (.inl rfl) e,c⟩,r⟩
  | rng lo hi=>obtain ⟨t,u,v,e⟩:=x; exact ⟨t,u,v,k _ _ (.inl rfl) e⟩
  | frz ob u ih=>obtain ⟨e,q⟩:=x; exact ⟨k _ _ (.inl rfl) e,ih q⟩
  | tbl ps =>
    have e : h.get? a = some { cls:=.none,data:=.fields ps }:=x
    show h'.get? a = some { cls:=.none,data:=.fields ps }
    exact k a _ (.inl rfl) e
  | met f y =>
    have e : h.get? a = some (PySem.W.methodObj (.ref f) (.ref y)):=x
    show h'.get? a = some (PySem.W.methodObj (.ref f) (.ref y))
    exact k a _ (.inl rfl) e
  | ext φ=>obtain ⟨p,⟨o,e⟩,st⟩:=x; exact ⟨st _ _ p fun o q=>k _ _ (.inl rfl) q,⟨o,k _ _ (.inl rfl) e⟩,st⟩
theorem HOk.lt (x : HOk P w H h) (e : H a = some o) : a < h.objs.size:=(x a o e).lt
theorem HOk.fresh (x : HOk P w H h) (e : h.objs.size ≤ a) : H a = none:=by
  cases q : H a with
  | none=>rfl
  | some u=>exact absurd (Nat.lt_of_lt_of_le (x.lt q) e) (Nat.lt_irrefl _)
theorem HOk.kept (x : HOk P w H h) (k : ∀ b u,h.get? b = some u→h'.get? b = some u) : HOk P w H h':=fun a o e =>
  (x a o e).stay (fun b u _ q=>k b u q) (fun _ q=>q) fun _ _ q=>q
theorem HOk.laid (x : HOk P w H h) (k : ∀ b u,h.get? b = some u→h'.get? b = some u) (hp : h.objs.size ≤ a) (new : ObjOk P w (upd H a o) h' a o) : HOk P w (upd H a o) h':=fun b u e=>by
  have hn:=x.fresh hp
  by_cases hb : b = a
  · subst hb; rw [upd_same] at e; cases e; exact new
  · rw [upd_ne hb] at e
    exact (x b u e).stay (fun c v _ q=>k c v q) (fun c q=>by rw [upd_ne (ne_of_none q hn)]; exact q) fun c xs q=>by rw [upd_ne (ne_of_none q hn)]; exact q
end
def Rd (H : Hp) (a : Addr) (u : HO) : Prop:=H a = some u∨∃ o,H a = some (.frz o u)
theorem Rd.ok {P : Program} {w : World} {H : Hp} {h : Heap} {a : Addr} {u : HO} (r : Rd H a u) (x : HOk P w H h) : ObjOk P w H h a u:=by
  rcases r with r | ⟨o,r⟩
  · exact x a u r
  · obtain ⟨_,q⟩:=x a _ r
    exact q
def Mut : Option HO→Prop
  | some (.lst _)=>True
  | some (.dK _)=>True
  | some (.dT _)=>True
  | some (.set _ _)=>True
  | some (.ins _ _ _)=>True
  | some (.ext _)=>True
  | _=>False
section
variable {P : Program} {w : World} {H : Hp} {h h' : Heap} {x e : Addr} {o' : HO}
theorem HOk.write (ok : HOk P w H h) (mu : Mut (H x)) (he : e = x∨H e = some (.own x)) (k : ∀ b u,b ≠ e→h.get? b = some u→h'.get? b = some u) (heo : ∃ u,h'.get? e = some u)
    (new : ObjOk P w (upd H x o') h' x o') : HOk P w (upd H x o') h':=fun b u q=>by
  have nown : ∀ c y,H c = some (.own y)→c ≠ x:=fun c y r z=>by subst z; rw [r] at mu; exact mu
  have ntup : ∀ c xs,H c = some (.tup xs)→c ≠ x:=fun c xs r z=>by subst z; rw [r] at mu; exact mu
  by_cases hb : b = x
  · subst hb; rw [upd_same] at q; cases q; exact new
  · rw [upd_ne hb] at q
    by_cases hbe : b = e
    · have q' : H b = some (.own x):=by
        rcases he with z | z
        · exact absurd (hbe.trans z) hb
        · rw [hbe]; exact z
      rw [q] at q'; cases q'
      obtain ⟨v,hv⟩:=heo
      exact ⟨v,by rw [hbe]; exact hv⟩
    · refine (ok b u q).stay (fun c v hc r=>k c v ?_ r) (fun c r=>by rw [upd_ne (nown c b r)]; exact r) fun c xs r=>by rw [upd_ne (ntup c xs r)]; exact r
      rcases hc with rfl | hc
      · exact hbe
      · rintro rfl
        rcases he with z | z
        · exact nown c b hc z
        · rw [hc] at z; cases z; exact hb rfl
end
structure Un (fs ex : List Addr) (H H' : Hp) (h h' : Heap) : Prop where
  keep : ∀ b o,h.get? b = some o→H b = none→b ∉ fs→b ∉ ex→h'.get? b = some o
  slot : ∀ b o,h.get? b = some o→H b = none→b ∈ fs→b ∉ ex→∃ sl,h'.get? b = some { o with slots:=sl }
  free : ∀ b o,h.get? b = some o→H b = none→b ∉ ex→H' b = none
  there : ∀ b o,h.get? b = some o→b ∉ ex→∃ o',h'.get? b = some o'
  tups : ∀ b xs,H b = some (.tup xs)→H' b = some (.tup xs)
  frzs : ∀ b o u,H b = some (.frz o u)→H' b = some (.frz o u)
  tbls : ∀ b ps,H b = some (.tbl ps)→∃ more,H' b = some (.tbl (ps ++ more))
section
variable {fs fs' ex ex' : List Addr} {H H1 H2 : Hp} {h h1 h2 h' : Heap} {a x e : Addr} {o : HO}
theorem Un.any (u : Un fs ex H H1 h h1) {b : Addr} {ob : Obj} (q : h.get? b = some ob) (n : H b = none) (hx : b ∉ ex) : ∃ sl,h1.get? b = some { ob with slots:=sl }:=by
  by_cases hb : b ∈ fs
  · exact u.slot b ob q n hb hx
  · exact ⟨ob.slots,u.keep b ob q n hb hx⟩
theorem Un.kept (k : ∀ b u,h.get? b = some u→h'.get? b = some u) : Un fs ex H H h h' :=
  ⟨fun b ob q _ _ _=>k b ob q,fun b ob q _ _ _=>⟨ob.slots,k b ob q⟩,fun _ _ _ n _=>n,fun b ob q _=>⟨ob,k b ob q⟩,fun _ _ q=>q,fun _ _ _ q=>q,fun _ ps q=>⟨#[],by rw [q]; simp⟩⟩
theorem Un.refl : Un fs ex H H h h:=Un.kept fun _ _ q=>q
theorem Un.laid (k : ∀ b u,h.get? b = some u→h'.get? b = some u) (hp : h.objs.size ≤ a) (hn : H a = none) : Un fs ex H (upd H a o) h h' where
  keep:=fun b u q _ _ _=>k b u q
  slot:=fun b u q _ _ _=>⟨u.slots,k b u q⟩
  free:=fun b u q n _=>by rw [upd_ne (Nat.ne_of_lt (Nat.lt_of_lt_of_le (Heap.lt_size q) hp))]; exact n
  there:=fun b u q _=>⟨u,k b u q⟩
  tups:=fun b xs q=>by rw [upd_ne (ne_of_none q hn)]; exact q
  frzs:=fun b u xs q=>by rw [upd_ne (ne_of_none q hn)]; exact q
  tbls:=fun b ps q=>⟨#[],by rw [upd_ne (ne_of_none q hn),q]; simp⟩
theorem Un.write (mu : Mut (H x)) (he : e = x∨H e = some (.own x)) (k : ∀ b u,b ≠ e→h.get? b = some u→h'.get? b = some u) (heo : ∃ u,h'.get? e = some u) : Un fs ex H (upd H x o) h h':=by
  have hx : ∀ b,H b = none→b ≠ x:=fun b n z=>by subst z; rw [n] at mu; exact mu
  have hb : ∀ b,H b = none→b ≠ e:=fun b n z=>by
    subst z
    rcases he with r | r
    · exact hx b n r
    · rw [n] at r; cases r
  have hm : ∀ b u,H b = some u→¬ Mut (some u)→b ≠ x:=fun b u q nm z=>by subst z; rw [q] at mu; exact nm mu
  refine ⟨fun b u q n _ _=>k b u (hb b n) q,fun b u q n _ _=>⟨u.slots,k b u (hb b n) q⟩,fun b u q n _=>by rw [upd_ne (hx b n)]; exact n,fun b u q _=>?_,
    fun b xs q=>by rw [upd_ne (hm b _ q fun z=>z)]; exact q,fun b u xs q=>by rw [upd_ne (hm b _ q fun z=>z)]; exact q,fun b ps q=>⟨#[],by rw [upd_ne (hm b _ q fun z=>z),q]; simp⟩⟩
  by_cases hbe : b = e
  · subst hbe; exact heo
  · exact ⟨u,k b u hbe q⟩
end
def trk (h : Heap) (H : Hp) : List Addr:=(List.range h.objs.size).filter fun a=>(H a).isSome
def VA (h : Heap) (H : Hp) : Heap:=PySem.W.hideAll h (trk h H)
theorem X4 (h : Heap) (H : Hp) : (VA h H).objs.size = h.objs.size:=PySem.W.hideAll_size _ _
theorem Vz {h : Heap} {H : Hp} {b : Addr} {o : Obj} (e : h.get? b = some o) (n : H b = none) : (VA h H).get? b = some o :=
  PySem.W.hideAll_get _ e fun hm=>by
    have q : (H b).isSome = true:=(List.mem_filter.mp hm).2
    rw [n] at q; simp at q
theorem zaj {h : Heap} {H : Hp} {b : Addr} {o : Obj} (e : (VA h H).get? b = some o) : h.get? b = some o∧H b = none:=by
  have e' : h.get? b = some o:=PySem.W.of_hideAll (trk h H) e
  refine ⟨e',?_⟩
  cases q : H b with
  | none=>rfl
  | some x =>
    have hm : b ∈ trk h H:=List.mem_filter.mpr ⟨List.mem_range.mpr (Heap.lt_size e'),by simp [q]⟩
    have z : (VA h H).get? b = none:=PySem.W.hideAll_none (trk h H) hm
    rw [z] at e; cases e
end L2
namespace L2
open PySem PySem.Spec PyProof.Rows
structure Mod (K : PySem.W.Frag) (mg : Str→Option Value) (base : Heap) : Prop where
  kin : K.In base
  glob : base.Ns mainGlobals mg
  blt : ∃ mb,base.Ns builtinsNs mb∧∀ x : Str,x ≠ "__name__" → mb x = bootBuiltins x
  nolimit : base.NoLimit
structure Cx where
  prog : Program
  w : World
  K : PySem.W.Frag
  mg : Str→Option Value
  base : Heap
  A : Around
  N : List Str
  s₀ : Shared
  H₀ : Hp
  env : Env
  outer : List Env
  stack : List Env
  ex : List Addr
  fn : Str→Bool
  calm : Bool
  pn : List (Addr × Obj)
  xe : Value→Shared→Prop
def frs (l : List Env) : List Addr:=l.filterMap (·.frame)
abbrev Cx.fs (X : Cx) : List Addr:=frs X.outer
def Vis (sc : Scope) (x : Str) : Prop:=sc.names.lookup x = some .local∨sc.names.lookup x = some .cell∨sc.names.lookup x = some .free
def Loc (sc : Scope) (x : Str) : Prop:=sc.names.lookup x = some .local∨sc.names.lookup x = some .cell
def zrH (env : Env) (h : Heap) (m : Str→Option Value) (x : Str) (u : Value) : Prop :=
  (env.kindOf x = some .local∧m x = some u)∨((env.kindOf x = some .cell∨env.kindOf x = some .free)∧∃ c,env.cells.lookup x = some c∧h.IsCell c (some u))
structure Cx.Ok (X : Cx) : Prop where
  mod : Mod X.K X.mg X.base
  kind : X.env.scope.kind = .function
  glob : X.env.globals = mainGlobals
  blt : X.env.builtins = builtinsNs
  above : X.s₀.heap.objs.size ≤ X.env.locals
  inj : ∀ x y c,X.env.cells.lookup x = some c→X.env.cells.lookup y = some c→x = y
  has : ∀ x,(X.env.kindOf x = some .cell∨X.env.kindOf x = some .free)→∃ c,X.env.cells.lookup x = some c
  cab : ∀ x c,X.fn x = true→X.env.cells.lookup x = some c→X.s₀.heap.objs.size ≤ c
  hd : X.calm = true→X.A.handled = none
  frames : X.A.frames = some X.stack
  stk : X.stack = X.outer∨(X.stack = X.env :: X.outer∧X.env.frame = some X.env.locals)
  exf : ∀ b ∈ X.ex,b ≠ X.env.locals∧∀ x c,X.env.cells.lookup x = some c→c ≠ b
  bs : ∀ b o,X.base.get? b = some o→X.s₀.heap.get? b = some o∧X.H₀ b = none
  bsz : X.base.objs.size ≤ X.s₀.heap.objs.size
  noex : ∀ b o,X.base.get? b = some o→b ∉ X.ex
  exfs : ∀ b ∈ X.ex,b ∉ X.fs
  funs : X.s₀.heap.FunFrames X.base X.outer
  frf : ∀ b ∈ X.fs,X.H₀ b = none
structure Inv (X : Cx) (pins : List (Addr × Obj)) (σ : List (Option V)) (H : Hp) (s : Shared) : Prop where
  ok : X.Ok
  os : s.os = X.s₀.os
  bare : AllBare s.gens
  base : Un X.fs X.ex X.H₀ H X.s₀.heap s.heap
  loc : ∃ m,s.heap.Ns X.env.locals m∧∀ (i : Nat) (x : Str) (v : V),X.N[i]? = some x→σ[i]? = some (some v)→Vis X.env.scope x→∃ u,RelV v u∧zrH X.env s.heap m x u
  cell : ∀ x c,X.env.cells.lookup x = some c→∃ v,s.heap.IsCell c v
  free : H X.env.locals = none
  freeC : ∀ x c,X.env.cells.lookup x = some c→H c = none
  pin : ∀ p ∈ X.pn ++ pins,s.heap.get? p.1 = some p.2∧H p.1 = none∧p.1 ≠ X.env.locals∧p.1 ∉ X.fs∧∀ v,p.2.data ≠ .cell v
  hok : HOk X.prog X.w H s.heap
  len : σ.length = X.N.length
section
variable {X : Cx} {pins : List (Addr × Obj)} {σ : List (Option V)} {H H' : Hp} {s : Shared} {h' : Heap}
theorem Cx.Ok.nofr (ok : X.Ok) {b : Addr} {o : Obj} (e : X.base.get? b = some o) : b ∉ X.fs:=fun hb=>by
  have:=(ok.funs.mem hb).1
  rw [e] at this; cases this
theorem Inv.bs (I : Inv X pins σ H s) : ∀ b o,X.base.get? b = some o→s.heap.get? b = some o∧H b = none:=fun b o e =>
  ⟨I.base.keep b o (I.ok.bs b o e).1 (I.ok.bs b o e).2 (I.ok.nofr e) (I.ok.noex b o e),I.base.free b o (I.ok.bs b o e).1 (I.ok.bs b o e).2 (I.ok.noex b o e)⟩
theorem Inv.bk (I : Inv X pins σ H s) : ∀ b o,X.base.get? b = some o→s.heap.get? b = some o:=fun b o e=>(I.bs b o e).1
theorem Inv.mod (I : Inv X pins σ H s) : Mod X.K X.mg X.base:=I.ok.mod
theorem Inv.kIn (I : Inv X pins σ H s) : X.K.In s.heap:=I.ok.mod.kin.keeps I.bk
theorem Inv.lt (I : Inv X pins σ H s) : X.env.locals < s.heap.objs.size:=let ⟨_,hn,_⟩:=I.loc; hn.lt
theorem Inv.sz (I : Inv X pins σ H s) : X.s₀.heap.objs.size ≤ s.heap.objs.size:=Nat.le_trans I.ok.above (Nat.le_of_lt I.lt)
theorem Inv.nofs (I : Inv X pins σ H s) {a : Addr} (h : s.heap.objs.size ≤ a) : a ∉ X.fs:=fun hb=>by
  obtain ⟨_,o,ho,_⟩:=I.ok.funs.mem hb
  exact absurd (Nat.lt_of_lt_of_le (Heap.lt_size ho) (Nat.le_trans I.sz h)) (Nat.lt_irrefl _)
theorem Inv.cne (I : Inv X pins σ H s) : ∀ x c,X.env.cells.lookup x = some c→c ≠ X.env.locals:=fun x c e z=>by
  obtain ⟨v,o,ho,hd⟩:=I.cell x c e
  obtain ⟨m,⟨o',es,ep,ho',hd',_⟩,_⟩:=I.loc
  rw [z,ho'] at ho; cases ho; rw [hd'] at hd; cases hd
theorem Inv.funs (I : Inv X pins σ H s) : s.heap.FunFrames X.base X.outer:=by
  have all : ∀ (l : List Env),(∀ b ∈ frs l,b ∈ X.fs)→X.s₀.heap.FunFrames X.base l→s.heap.FunFrames X.base l:=by
    intro l
    induction l with
    | nil=>intro _ _; trivial
    | cons env r ih =>
      intro hs hl
      obtain ⟨hk,⟨L,o,hf,hn,ho,hd⟩,hr⟩:=hl
      have hL : L ∈ X.fs:=hs L (by unfold frs; rw [List.filterMap_cons,hf]; exact List.mem_cons_self)
      obtain ⟨sl,e⟩:=I.base.slot L o ho (I.ok.frf L hL) hL fun z=>I.ok.exfs L z hL
      exact ⟨hk,⟨L,_,hf,hn,e,hd⟩,ih (fun b hb=>hs b (by unfold frs; rw [List.filterMap_cons,hf]; exact List.mem_cons_of_mem _ hb)) hr⟩
  exact all X.outer (fun _ hb=>hb) I.ok.funs
theorem Inv.stack (I : Inv X pins σ H s) : s.heap.FunFrames X.base X.stack:=by
  rcases I.ok.stk with e | ⟨e,hf⟩
  · rw [e]; exact I.funs
  · rw [e]
    obtain ⟨m,hn,_⟩:=I.loc
    refine .cons (by rw [I.ok.kind]; decide) hf hn ?_ I.funs
    exact Heap.get?_none_of_le (Nat.le_trans I.ok.bsz I.ok.above)
theorem Inv.stkSub (I : Inv X pins σ H s) : ∀ b ∈ frs X.stack,b ∈ X.env.locals :: X.fs:=fun b hb=>by
  rcases I.ok.stk with e | ⟨e,hf⟩
  · rw [e] at hb; exact List.mem_cons_of_mem _ hb
  · rw [e] at hb
    unfold frs at hb
    rw [List.filterMap_cons,hf] at hb
    exact hb
theorem Inv.stkFree (I : Inv X pins σ H s) : ∀ b ∈ frs X.stack,H b = none:=fun b hb=>by
  rcases List.mem_cons.mp (I.stkSub b hb) with e | hb
  · rw [e]; exact I.free
  · obtain ⟨_,o,ho,_⟩:=I.ok.funs.mem hb
    exact I.base.free b o ho (I.ok.frf b hb) fun z=>I.ok.exfs b z hb
theorem Inv.step {g' : Array GenState} {t' : Nat} {d' : Drawn} {ch : List Addr} (I : Inv X pins σ H s)
    (hch : ∀ b ∈ ch,(b ∈ X.ex∨X.s₀.heap.objs.size ≤ b)∧b ≠ X.env.locals∧(∀ x c,X.env.cells.lookup x = some c→c ≠ b)∧∀ p ∈ X.pn ++ pins,p.1 ≠ b)
    (keep : ∀ b o,b ≠ X.env.locals→b ∉ X.fs→b ∉ ch→s.heap.get? b = some o→H b = none→h'.get? b = some o)
    (slot : ∀ b o,b ≠ X.env.locals→b ∈ X.fs→b ∉ ch→s.heap.get? b = some o→H b = none→∃ sl,h'.get? b = some { o with slots:=sl }) (free : ∀ b o,b ∉ ch→s.heap.get? b = some o→H b = none→H' b = none)
    (there : ∀ b o,b ∉ ch→s.heap.get? b = some o→∃ o',h'.get? b = some o')
    (tups : ∀ b xs,H b = some (.tup xs)→H' b = some (.tup xs)) (frzs : ∀ b o u,H b = some (.frz o u)→H' b = some (.frz o u)) (tbls : ∀ b ps,H b = some (.tbl ps)→∃ more,H' b = some (.tbl (ps ++ more)))
    (ns : ∀ m,s.heap.Ns X.env.locals m→h'.Ns X.env.locals m) (hok : HOk X.prog X.w H' h') (hg : AllBare g') :
    Inv X pins σ H' { s with heap:=h',gens:=g',drawn:=d',toks:=t' }:=by
  have neL : ∀ b o,X.s₀.heap.get? b = some o→b ≠ X.env.locals:=fun b o e=>Nat.ne_of_lt (Nat.lt_of_lt_of_le (Heap.lt_size e) I.ok.above)
  have neC : ∀ b o,X.s₀.heap.get? b = some o→b ∉ X.ex→b ∉ ch:=fun b o e hx hb=>by
    rcases (hch b hb).1 with z | z
    · exact hx z
    · exact absurd (Nat.lt_of_lt_of_le (Heap.lt_size e) z) (Nat.lt_irrefl _)
  have cellK : ∀ x c,X.env.cells.lookup x = some c→∀ v,s.heap.IsCell c v→h'.IsCell c v:=fun x c e v ⟨o,ho,hd⟩=>by
    have nch : c ∉ ch:=fun z=>(hch c z).2.2.1 x c e rfl
    by_cases hc : c ∈ X.fs
    · obtain ⟨sl,q⟩:=slot c o (I.cne x c e) hc nch ho (I.freeC x c e)
      exact ⟨_,q,hd⟩
    · exact ⟨o,keep c o (I.cne x c e) hc nch ho (I.freeC x c e),hd⟩
  refine ⟨I.ok,I.os,hg,⟨fun b o e n hb hx=>?_,fun b o e n hb hx=>?_,fun b o e n hx=>?_,fun b o e hx=>?_,fun b xs e=>tups b xs (I.base.tups b xs e),fun b o xs e=>frzs b o xs (I.base.frzs b o xs e),fun b ps e=>?_⟩,?_,fun x c e=>?_,?_,fun x c e=>?_,fun p hp=>?_,hok,I.len⟩
  · exact keep b o (neL b o e) hb (neC b o e hx) (I.base.keep b o e n hb hx) (I.base.free b o e n hx)
  · obtain ⟨sl,e1⟩:=I.base.slot b o e n hb hx
    obtain ⟨sl',e2⟩:=slot b _ (neL b o e) hb (neC b o e hx) e1 (I.base.free b o e n hx)
    exact ⟨sl',e2⟩
  · obtain ⟨o',e1⟩:=I.base.there b o e hx
    exact free b o' (neC b o e hx) e1 (I.base.free b o e n hx)
  · obtain ⟨o',e1⟩:=I.base.there b o e hx
    exact there b o' (neC b o e hx) e1
  · obtain ⟨m1,e1⟩:=I.base.tbls b ps e
    obtain ⟨m2,e2⟩:=tbls b _ e1
    exact ⟨m1 ++ m2,by rw [e2,Array.append_assoc]⟩
  · obtain ⟨m,hn,hl⟩:=I.loc
    refine ⟨m,ns m hn,fun i x v e1 e2 e3=>?_⟩
    obtain ⟨u,r,l⟩:=hl i x v e1 e2 e3
    refine ⟨u,r,?_⟩
    rcases l with l | ⟨k,c,e,z⟩
    · exact .inl l
    · exact .inr ⟨k,c,e,cellK x c e _ z⟩
  · obtain ⟨v,z⟩:=I.cell x c e
    exact ⟨v,cellK x c e v z⟩
  · obtain ⟨m,⟨o,_,_,ho,_⟩,_⟩:=I.loc
    exact free _ o (fun z=>(hch _ z).2.1 rfl) ho I.free
  · obtain ⟨v,o,ho,hd⟩:=I.cell x c e
    exact free c o (fun z=>(hch c z).2.2.1 x c e rfl) ho (I.freeC x c e)
  · obtain ⟨e,n,ne,nf,d⟩:=I.pin p hp
    have nch : p.1 ∉ ch:=fun z=>(hch p.1 z).2.2.2 p hp rfl
    exact ⟨keep p.1 p.2 ne nf nch e n,free p.1 p.2 nch e n,ne,nf,d⟩
theorem Inv.un {t' : Nat} (I : Inv X pins σ H s) (u : Un X.fs [] H H' s.heap h') (hok : HOk X.prog X.w H' h') : Inv X pins σ H' { s with heap:=h',toks:=t' }:=by
  obtain ⟨m,⟨o,es,ep,ho,r⟩,_⟩:=id I.loc
  obtain ⟨sl,hL⟩:=u.any ho I.free (by simp)
  exact I.step (g':=s.gens) (d':=s.drawn) (ch:=[]) (fun _ z=>nomatch z) (fun b o _ hb _ e n=>u.keep b o e n hb (by simp)) (fun b o _ hb _ e n=>u.slot b o e n hb (by simp)) (fun b o _ e n=>u.free b o e n (by simp)) (fun b o _ e=>u.there b o e (by simp)) u.tups u.frzs u.tbls (fun m' hm=>by
    obtain ⟨o',es',ep',ho',r'⟩:=hm
    rw [ho] at ho'; cases ho'
    exact ⟨_,es',ep',hL,r'⟩) hok I.bare
theorem Inv.call {g' : Array GenState} {t' : Nat} {d' : Drawn} {ch : List Addr} (I : Inv X pins σ H s) (u : Un (frs X.stack) ch H H' s.heap h') (hok : HOk X.prog X.w H' h') (hg : AllBare g')
    (hch : ∀ b ∈ ch,(b ∈ X.ex∨X.s₀.heap.objs.size ≤ b)∧b ≠ X.env.locals∧(∀ x c,X.env.cells.lookup x = some c→c ≠ b)∧∀ p ∈ X.pn ++ pins,p.1 ≠ b) :
    Inv X pins σ H' { s with heap:=h',gens:=g',drawn:=d',toks:=t' }:=by
  obtain ⟨m,⟨o,es,ep,ho,r⟩,_⟩:=id I.loc
  obtain ⟨sl,hL⟩:=u.any ho I.free fun z=>(hch _ z).2.1 rfl
  exact I.step (ch:=ch) hch (fun b o hL hb hc e n=>u.keep b o e n (fun z=>(List.mem_cons.mp (I.stkSub b z)).elim hL hb) hc) (fun b o _ _ hc e n=>u.any e n hc) (fun b o hc e n=>u.free b o e n hc) (fun b o hc e=>u.there b o e hc) u.tups u.frzs u.tbls (fun m' hm=>by
    obtain ⟨o',es',ep',ho',r'⟩:=hm
    rw [ho] at ho'; cases ho'
    exact ⟨_,es',ep',hL,r'⟩) hok hg
theorem Inv.turned {t' : Nat} {it : Addr} (I : Inv X pins σ H s) (k : ∀ b o,b ≠ it→s.heap.get? b = some o→h'.get? b = some o) (hn : H it = none) (hL : it ≠ X.env.locals)
    (h1 : it ∈ X.ex∨X.s₀.heap.objs.size ≤ it) (h2 : ∀ x c,X.env.cells.lookup x = some c→c ≠ it) (h3 : ∀ p ∈ X.pn ++ pins,p.1 ≠ it) : Inv X pins σ H { s with heap:=h',toks:=t' }:=by
  have nit : ∀ b u,H b = some u→b ≠ it:=fun b u e z=>by rw [z,hn] at e; cases e
  refine I.step (g':=s.gens) (d':=s.drawn) (ch:=[it]) (fun b hb=>?_) (fun b o _ _ hc e _=>k b o (fun z=>hc (by simp [z])) e) (fun b o _ _ hc e _=>⟨o.slots,k b o (fun z=>hc (by simp [z])) e⟩) (fun _ _ _ _ n=>n)
    (fun b o hc e=>⟨o,k b o (fun z=>hc (by simp [z])) e⟩) (fun _ _ e=>e) (fun _ _ _ e=>e) (fun b ps e=>⟨#[],by rw [e]; simp⟩) (fun m hm=>?_) (fun b u e=>?_) I.bare
  · have e : b = it:=by simpa using hb
    subst e
    exact ⟨h1,hL,h2,h3⟩
  · obtain ⟨o,es,ep,ho,r⟩:=hm
    exact ⟨o,es,ep,k _ o (Ne.symm hL) ho,r⟩
  · refine (I.hok b u e).stay (fun c v hc q=>k c v ?_ q) (fun _ q=>q) fun _ _ q=>q
    rcases hc with z | z
    · rw [z]; exact nit b u e
    · exact nit c _ z
theorem Inv.tok (I : Inv X pins σ H s) (t : Nat) : Inv X pins σ H { s with toks:=t }:=I.un (h':=s.heap) (t':=t) Un.refl I.hok
theorem Inv.kept {t' : Nat} (I : Inv X pins σ H s) (k : ∀ b u,s.heap.get? b = some u→h'.get? b = some u) : Inv X pins σ H { s with heap:=h',toks:=t' }:=I.un (Un.kept k) (I.hok.kept k)
theorem Inv.laid {a : Addr} {o : HO} {t' : Nat} (I : Inv X pins σ H s) (k : ∀ b u,s.heap.get? b = some u→h'.get? b = some u) (hp : s.heap.objs.size ≤ a) (new : ObjOk X.prog X.w (upd H a o) h' a o) :
    Inv X pins σ (upd H a o) { s with heap:=h',toks:=t' }:=I.un (Un.laid k hp (I.hok.fresh hp)) (I.hok.laid k hp new)
theorem Inv.write {x e : Addr} {o : HO} {t' : Nat} (I : Inv X pins σ H s) (mu : Mut (H x)) (he : e = x∨H e = some (.own x)) (k : ∀ b u,b ≠ e→s.heap.get? b = some u→h'.get? b = some u) (heo : ∃ u,h'.get? e = some u)
    (new : ObjOk X.prog X.w (upd H x o) h' x o) : Inv X pins σ (upd H x o) { s with heap:=h',toks:=t' }:=I.un (Un.write mu he k heo) (I.hok.write mu he k heo new)
theorem Inv.pins_of {pins' : List (Addr × Obj)} (I : Inv X pins σ H s) (h : ∀ p ∈ pins',s.heap.get? p.1 = some p.2∧H p.1 = none∧p.1 ≠ X.env.locals∧p.1 ∉ X.fs∧∀ v,p.2.data ≠ .cell v) : Inv X pins' σ H s :=
  ⟨I.ok,I.os,I.bare,I.base,I.loc,I.cell,I.free,I.freeC,fun p hp=>(List.mem_append.mp hp).elim (fun z=>I.pin p (List.mem_append_left _ z)) (h p),I.hok,I.len⟩
theorem nodup_ix {N : List Str} (hN : N.Nodup) {i j : Nat} {x : Str} (a : N[i]? = some x) (b : N[j]? = some x) : i = j:=by
  obtain ⟨h1,e1⟩:=List.getElem?_eq_some_iff.mp a
  obtain ⟨h2,e2⟩:=List.getElem?_eq_some_iff.mp b
  exact (List.getElem_inj hN).mp (e1.trans e2.symm)
theorem uA {M : Model} {A : Around} {E : Value→Shared→Prop} {i : Nat} {x : Str} {v : V} {u : Value} {Q : Unit→Shared→Prop} (I : Inv X pins σ H s) (hN : X.N.Nodup) (hi : X.N[i]? = some x) (hx : Loc X.env.scope x) (r : RelV v u)
    (h : ∀ s',Inv X pins (σ.set i (some v)) H s'→(∃ a,Heap.SameBut a s.heap s'.heap∧(a = X.env.locals∨X.env.cells.lookup x = some a))→Q () s') (hf : X.fn x = true∨X.env.scope.names.lookup x = some .local:=by first | exact .inl rfl | exact .inr rfl | assumption) : wpAny M A (storeName X.env x u) Q E s:=by
  obtain ⟨m,hn,hl⟩:=id I.loc
  have hcls : (X.env.scope.kind == .class || (X.env.scope.kind == .module && X.env.locals != X.env.globals)) = false:=by rw [I.ok.kind]; rfl
  have hiσ : i < σ.length:=by rw [I.len]; exact (List.getElem?_eq_some_iff.mp hi).1
  have cne:=I.cne
  have tracked : ∀ {a : Addr} {h' : Heap},(∃ o,s.heap.get? a = some o∧H a = none)→Heap.SameBut a s.heap h'→HOk X.prog X.w H h':=fun {a h'} ha hs b ob e=>by
    obtain ⟨_,_,hfree⟩:=ha
    refine (I.hok b ob e).stay (fun c w' hc q=>(hs.2 c ?_).trans q) (fun _ q=>q) fun _ _ q=>q
    rintro rfl
    rcases hc with rfl | hc
    · rw [hfree] at e; cases e
    · rw [hfree] at hc; cases hc
  rcases hx with hk | hk
  · refine wpAny_storeName_local hk hn (fun h' hn' hs=>?_) hcls
    obtain ⟨oL,_,_,hoL,_⟩:=id hn
    refine h _ ⟨I.ok,I.os,I.bare,⟨fun b o e n hb hx=>?_,fun b o e n hb hx=>?_,I.base.free,fun b o e hx=>?_,I.base.tups,I.base.frzs,I.base.tbls⟩,⟨_,hn',fun j y v' e1 e2 e3=>?_⟩,fun y c e=>?_,I.free,I.freeC,fun p hp=>?_,tracked ⟨oL,hoL,I.free⟩ hs,by simpa using I.len⟩ ⟨_,hs,.inl rfl⟩
    · exact (hs.2 b (Nat.ne_of_lt (Nat.lt_of_lt_of_le (Heap.lt_size e) I.ok.above))).trans (I.base.keep b o e n hb hx)
    · obtain ⟨sl,e1⟩:=I.base.slot b o e n hb hx
      exact ⟨sl,(hs.2 b (Nat.ne_of_lt (Nat.lt_of_lt_of_le (Heap.lt_size e) I.ok.above))).trans e1⟩
    · obtain ⟨o',e1⟩:=I.base.there b o e hx
      exact ⟨o',(hs.2 b (Nat.ne_of_lt (Nat.lt_of_lt_of_le (Heap.lt_size e) I.ok.above))).trans e1⟩
    · by_cases hj : j = i
      · subst hj
        rw [hi] at e1; cases e1
        rw [List.getElem?_set_self hiσ] at e2
        cases e2
        exact ⟨u,r,.inl ⟨hk,by simp⟩⟩
      · rw [List.getElem?_set_ne (Ne.symm hj)] at e2
        obtain ⟨u',r',q⟩:=hl j y v' e1 e2 e3
        refine ⟨u',r',?_⟩
        rcases q with ⟨k,e⟩ | ⟨k,c,e,z⟩
        · refine .inl ⟨k,?_⟩
          have : y ≠ x:=fun e=>hj (nodup_ix hN e1 (e ▸ hi))
          simp [this,e]
        · exact .inr ⟨k,c,e,z.sameBut hs (cne y c e)⟩
    · obtain ⟨w',z⟩:=I.cell y c e
      exact ⟨w',z.sameBut hs (cne y c e)⟩
    · obtain ⟨e,n,ne,nf,d⟩:=I.pin p hp
      exact ⟨(hs.2 p.1 ne).trans e,n,ne,nf,d⟩
  · have hfn : X.fn x = true:=by
      rcases hf with z | z
      · exact z
      · rw [z] at hk; cases hk
    obtain ⟨c,hc⟩:=I.ok.has x (.inl hk)
    obtain ⟨w',z⟩:=I.cell x c hc
    refine wpAny_storeName_cell I.ok.kind hk hc z (fun h' hc' hs=>?_)
    obtain ⟨oc,hoc,hocd⟩:=id z
    refine h { s with heap:=h' } ⟨I.ok,I.os,I.bare,⟨fun b o e n hb hx=>?_,fun b o e n hb hx=>?_,I.base.free,fun b o e hx=>?_,I.base.tups,I.base.frzs,I.base.tbls⟩,⟨m,hn.sameBut hs (Ne.symm (cne x c hc)),fun j y v' e1 e2 e3=>?_⟩,fun y c' e=>?_,I.free,I.freeC,fun p hp=>?_,tracked ⟨oc,hoc,I.freeC x c hc⟩ hs,by simpa using I.len⟩ ⟨c,hs,.inr hc⟩
    · exact (hs.2 b (Nat.ne_of_lt (Nat.lt_of_lt_of_le (Heap.lt_size e) (I.ok.cab x c hfn hc)))).trans (I.base.keep b o e n hb hx)
    · obtain ⟨sl,e1⟩:=I.base.slot b o e n hb hx
      exact ⟨sl,(hs.2 b (Nat.ne_of_lt (Nat.lt_of_lt_of_le (Heap.lt_size e) (I.ok.cab x c hfn hc)))).trans e1⟩
    · obtain ⟨o',e1⟩:=I.base.there b o e hx
      exact ⟨o',(hs.2 b (Nat.ne_of_lt (Nat.lt_of_lt_of_le (Heap.lt_size e) (I.ok.cab x c hfn hc)))).trans e1⟩
    · by_cases hj : j = i
      · subst hj
        rw [hi] at e1; cases e1
        rw [List.getElem?_set_self hiσ] at e2
        cases e2
        exact ⟨u,r,.inr ⟨.inl hk,c,hc,hc'⟩⟩
      · rw [List.getElem?_set_ne (Ne.symm hj)] at e2
        obtain ⟨u',r',q⟩:=hl j y v' e1 e2 e3
        refine ⟨u',r',?_⟩
        rcases q with q | ⟨k,c',e,z'⟩
        · exact .inl q
        · refine .inr ⟨k,c',e,z'.sameBut hs ?_⟩
          rintro rfl
          exact hj (nodup_ix hN e1 (I.ok.inj _ _ _ e hc ▸ hi))
    · by_cases hcc : c' = c
      · subst hcc; exact ⟨_,hc'⟩
      · obtain ⟨w2,z2⟩:=I.cell y c' e
        exact ⟨w2,z2.sameBut hs hcc⟩
    · obtain ⟨e,n,ne,nf,d⟩:=I.pin p hp
      refine ⟨(hs.2 p.1 ?_).trans e,n,ne,nf,d⟩
      intro q
      rw [q,hoc] at e
      have q' : oc = p.2:=Option.some.inj e
      exact d w' (by rw [← q']; exact hocd)
theorem store_ok {M : Model} {A : Around} {E : Value→Shared→Prop} {i : Nat} {x : Str} {v : V} {u : Value} {Q : Unit→Shared→Prop} (I : Inv X pins σ H s) (hN : X.N.Nodup) (hi : X.N[i]? = some x) (hx : Loc X.env.scope x) (r : RelV v u)
    (h : ∀ s',Inv X pins (σ.set i (some v)) H s'→Q () s') (hf : X.fn x = true∨X.env.scope.names.lookup x = some .local:=by first | exact .inl rfl | exact .inr rfl | assumption) : wpAny M A (storeName X.env x u) Q E s :=
  uA I hN hi hx r (fun s' I' _=>h s' I') hf
theorem Inv.call' {s' : Shared} {ch : List Addr} (I : Inv X pins σ H s) (ho : s'.os = s.os) (u : Un (frs X.stack) ch H H' s.heap s'.heap) (hok : HOk X.prog X.w H' s'.heap) (hg : AllBare s'.gens)
    (hch : ∀ b ∈ ch,(b ∈ X.ex∨X.s₀.heap.objs.size ≤ b)∧b ≠ X.env.locals∧(∀ x c,X.env.cells.lookup x = some c→c ≠ b)∧∀ p ∈ X.pn ++ pins,p.1 ≠ b) : Inv X pins σ H' s':=by
  obtain ⟨h',g',d',t',o'⟩:=s'
  have e : o' = s.os:=ho
  subst e
  exact I.call (g':=g') (t':=t') (d':=d') u hok hg hch
end
abbrev XK:=Value→Option Addr→Hp→Prop
abbrev St:=List (Option V)
abbrev VK:=V→Hp→Prop
abbrev TE:=St→Hp→VK→Prop
abbrev TT:=St→Hp→(Bool→Hp→Prop)→Prop
abbrev TA:=St→Hp→(List V→Hp→Prop)→Prop
structure Ends where
  nx : St→Hp→Prop
  rt : VK
  bk : St→Hp→Prop:=fun _ _=>False
  ct : St→Hp→Prop:=fun _ _=>False
abbrev TS:=Ends→St→Hp→Prop
def EP (X : Cx) (pins : List (Addr × Obj)) (σ : St) (Q : VK) (u : Value) (s' : Shared) : Prop:=∃ v H',Inv X pins σ H' s'∧RelV v u∧Q v H'
def TP (X : Cx) (pins : List (Addr × Obj)) (σ : St) (Q : Bool→Hp→Prop) (b : Bool) (s' : Shared) : Prop:=∃ H',Inv X pins σ H' s'∧Q b H'
def AP (X : Cx) (pins : List (Addr × Obj)) (σ : St) (Q : List V→Hp→Prop) (us : List Value) (s' : Shared) : Prop:=∃ vs H',Inv X pins σ H' s'∧Vals vs us∧Q vs H'
def SP (X : Cx) (pins : List (Addr × Obj)) (D : Ends) (f : Flow) (s' : Shared) : Prop :=
  match f with
  | .next=>∃ σ' H',Inv X pins σ' H' s'∧D.nx σ' H'
  | .brk=>∃ σ' H',Inv X pins σ' H' s'∧D.bk σ' H'
  | .cont=>∃ σ' H',Inv X pins σ' H' s'∧D.ct σ' H'
  | .ret u=>∃ v σ' H',Inv X pins σ' H' s'∧RelV v u∧D.rt v H'
def PE (X : Cx) (e : Expr) (t : TE) : Prop :=
  ∀ (pins : List (Addr × Obj)) (s : Shared) (σ : St) (H : Hp) (Q : VK),Inv X pins σ H s→t σ H Q→wpAny (model X.prog X.w) X.A (eval e X.env) (EP X pins σ Q) X.xe s
def PT (X : Cx) (e : Expr) (t : TT) : Prop :=
  ∀ (pins : List (Addr × Obj)) (s : Shared) (σ : St) (H : Hp) (Q : Bool→Hp→Prop),Inv X pins σ H s→t σ H Q→wpAny (model X.prog X.w) X.A (isTrue e X.env (eval e X.env)) (TP X pins σ Q) X.xe s
def PW (X : Cx) (e : Expr) (t : TT) : Prop :=
  ∀ (whole : Sem Value) (pins : List (Addr × Obj)) (s : Shared) (σ : St) (H : Hp) (Q : Bool→Hp→Prop),Inv X pins σ H s→t σ H Q→wpAny (model X.prog X.w) X.A (isTrue e X.env whole) (TP X pins σ Q) X.xe s
theorem PW.pt {X : Cx} {e : Expr} {t : TT} (h : PW X e t) : PT X e t:=h _
def PA (X : Cx) (es : List Expr) (t : TA) : Prop :=
  ∀ (pos : Pos) (pins : List (Addr × Obj)) (s : Shared) (σ : St) (H : Hp) (Q : List V→Hp→Prop),Inv X pins σ H s→t σ H Q→wpAny (model X.prog X.w) X.A (spliced (backTo pos (starEach es X.env))) (AP X pins σ Q) X.xe s
def PS (X : Cx) (st : Stmt) (t : TS) : Prop :=
  ∀ (pins : List (Addr × Obj)) (s : Shared) (σ : St) (H : Hp) (D : Ends),Inv X pins σ H s→t D σ H→wpAny (model X.prog X.w) X.A (exec st X.env) (SP X pins D) X.xe s
def PSs (X : Cx) (st : List Stmt) (t : TS) : Prop :=
  ∀ (pins : List (Addr × Obj)) (s : Shared) (σ : St) (H : Hp) (D : Ends),Inv X pins σ H s→t D σ H→wpAny (model X.prog X.w) X.A (execs st X.env) (SP X pins D) X.xe s
theorem thn {α : Type} {t : Sem α} {Q Q' : α→Shared→Prop} {M : Model} {A : Around} {E : Value→Shared→Prop} {s : Shared} (h : wpAny M A t Q E s) (hQ : ∀ a s,Q a s→Q' a s) : wpAny M A t Q' E s:=wpAny_mono h hQ fun _ _ x=>x
end L2
namespace L2
open PySem PySem.Spec PyProof.Rows
section
variable {X : Cx}
theorem bin {a b : Expr} {ta tb : TE} (ha : PE X a ta) (hb : PE X b tb) {pins : List (Addr × Obj)} {s : Shared} {σ : St} {H : Hp} {R : V→V→Hp→Prop} (I : Inv X pins σ H s) (h : ta σ H fun x H1=>tb σ H1 fun y H2=>R x y H2)
    {α : Type} {Q : α→Shared→Prop} {f : Value→Value→Sem α}
    (hf : ∀ v u s2 x y H2,Inv X pins σ H2 s2→RelV x v→RelV y u→R x y H2→wpAny (model X.prog X.w) X.A (f v u) Q X.xe s2) :
    wpAny (model X.prog X.w) X.A (eval a X.env) (fun v s₁=>wpAny (model X.prog X.w) X.A (eval b X.env) (fun u s₂=>wpAny (model X.prog X.w) X.A (f v u) Q X.xe s₂) X.xe s₁) X.xe s:=by
  refine thn (ha pins s σ H _ I h) fun v s1 ⟨x,H1,I1,r1,q1⟩=>?_
  refine thn (hb pins s1 σ H1 _ I1 q1) fun u s2 ⟨y,H2,I2,r2,q2⟩=>?_
  exact hf v u s2 x y H2 I2 r1 r2 q2
def WO (i : Nat) : TE:=fun σ H Q=>∃ v,σ[i]? = some (some v)∧Q v H
def tC (v : V) : TE:=fun _ H Q=>Q v H
theorem zdS {i : Nat} {x : Str} {pos : Pos} (hN : X.N[i]? = some x) (hv : Vis X.env.scope x) (hd : (x == ("__debug__" : Str)) = false:=by decide) (hcd : (x == ("__classdict__" : Str)) = false:=by decide) : PE X (.Name x pos) (WO i):=by
  intro pins s σ H Q I h
  obtain ⟨v,e,h⟩:=h
  obtain ⟨m,hn,hl⟩:=I.loc
  obtain ⟨u,r,l⟩:=hl i x v hN e hv
  have fin : EP X pins σ Q u s:=⟨v,H,I,r,h⟩
  rcases l with ⟨hk,hm⟩ | ⟨hk,c,hc,hcell⟩
  · exact wpAny_Name (wpAny_loadName_local I.ok.kind hk hn hm fin) hd
  · rcases hk with hk | hk
    · exact wpAny_Name (wpAny_loadName_cell I.ok.kind hk hc hcell fin) hd
    · exact wpAny_Name (wpAny_loadName_free I.ok.kind hk hc hcell fin hcd) hd
theorem zdX {i j pos} : PE X (.Constant (.int i) j pos) (tC (.int i)):=fun _ _ _ H _ I h=>wpAny_Constant_int ⟨.int i,H,I.tok _,⟨_,rfl⟩,h⟩
theorem zjm {b j pos} : PE X (.Constant (.bool b) j pos) (tC (.bl b)):=fun _ _ _ H _ I h=>Constant_bool ⟨.bl b,H,I,rfl,h⟩
theorem zdW {j pos} : PE X (.Constant .none j pos) (tC .non):=fun _ _ _ H _ I h=>Constant_none ⟨.non,H,I,rfl,h⟩
theorem uR {x j pos} : PE X (.Constant (.str x) j pos) (tC (.str x)):=fun _ _ _ H _ I h=>Calls.Constant_str ⟨.str x,H,I.tok _,⟨_,rfl⟩,h⟩
def Gl (X : Cx) (x : Str) : Prop:=X.env.kindOf x = some .globalImplicit
theorem ld_glob {E : Value→Shared→Prop} {pins : List (Addr × Obj)} {s : Shared} {σ : St} {H : Hp} {x : Str} {u : Value} {pos : Pos} {Q : Value→Shared→Prop} (I : Inv X pins σ H s) (hg : Gl X x) (hm : X.mg x = some u) (h : Q u s)
    (hd : (x == ("__debug__" : Str)) = false:=by decide) : wpAny (model X.prog X.w) X.A (eval (.Name x pos) X.env) Q E s :=
  Calls.Name_function_global I.ok.kind hg (Calls.loadGlobal_global (by rw [I.ok.glob]; exact I.mod.glob.keeps I.bk) hm h) hd
theorem ld_blt {E : Value→Shared→Prop} {pins : List (Addr × Obj)} {s : Shared} {σ : St} {H : Hp} {x : Str} {u : Value} {pos : Pos} {Q : Value→Shared→Prop} (I : Inv X pins σ H s) (hg : Gl X x) (hm : X.mg x = none) (hv : bootBuiltins x = some u) (h : Q u s)
    (hn : x ≠ "__name__" := by decide) (hd : (x == ("__debug__" : Str)) = false:=by decide) : wpAny (model X.prog X.w) X.A (eval (.Name x pos) X.env) Q E s:=by
  obtain ⟨mb,h1,h2⟩:=I.mod.blt
  exact Calls.Name_function_global I.ok.kind hg (Calls.loadGlobal_builtin (by rw [I.ok.glob]; exact I.mod.glob.keeps I.bk) hm (by rw [I.ok.blt]; exact h1.keeps I.bk) ((h2 x hn).trans hv) h) hd
theorem xw {x : Str} {v : V} {u : Value} {pos : Pos} (hg : Gl X x) (hm : X.mg x = some u) (r : RelV v u) (hd : (x == ("__debug__" : Str)) = false:=by decide) : PE X (.Name x pos) (tC v) :=
  fun _ _ _ H _ I h=>ld_glob I hg hm ⟨v,H,I,r,h⟩ hd
theorem zaa {x : Str} {v : V} {u : Value} {pos : Pos} (hg : Gl X x) (hm : X.mg x = none) (hv : bootBuiltins x = some u) (r : RelV v u) (hn : x ≠ "__name__" := by decide) (hd : (x == ("__debug__" : Str)) = false:=by decide) : PE X (.Name x pos) (tC v) :=
  fun _ _ _ H _ I h=>ld_blt I hg hm hv ⟨v,H,I,r,h⟩ hn hd
variable {a b : Expr} {ta tb : TE} {pos : Pos}
def PC (X : Cx) (op : CmpOp) (a b : Expr) (t : TE) : Prop :=
  ∀ (pins : List (Addr × Obj)) (s : Shared) (σ : St) (H : Hp) (Q : VK),Inv X pins σ H s→t σ H Q →
    wpAny (model X.prog X.w) X.A (eval a X.env) (fun v s₁=>wpAny (model X.prog X.w) X.A (eval b X.env) (fun u s₂=>wpAny (model X.prog X.w) X.A (compareOp op v u) (EP X pins σ Q) X.xe s₂) X.xe s₁) X.xe s
def tB (t : TE) : TT:=fun σ H Q=>t σ H fun x H1=>∃ c,x = .bl c∧Q c H1
theorem zo8 {op : CmpOp} {t : TE} (h : PC X op a b t) (h1 : behindInMarks op b = false:=by first | exact nobehind _ (by decide) (by decide) | rfl) : PT X (.Compare a [op] [b] pos) (tB t):=by
  intro pins s σ H Q I hw
  refine wpAny_isTrue_Compare1 (thn (h pins s σ H _ I hw) fun v s1 h1=>thn h1 fun u s2 h2=>thn h2 fun c s3 ⟨x,H1,I1,r1,q1⟩=>?_) h1
  obtain ⟨d,rfl,q⟩:=q1
  cases r1
  exact wpAny_truthy_bool ⟨H1,I1,q⟩
theorem ZW {e : Expr} {t : TE} (h : PE X e t) (he : ∀ whole,isTrue e X.env whole = (do let v ← whole; standAt e.pos; holding [v] (truthy v)):=by intro _; rfl) : PT X e (tB t):=by
  intro pins s σ H Q I hw
  refine isTrue_plain (thn (h pins s σ H _ I hw) fun v s1 ⟨x,H1,I1,r1,q1⟩=>?_) (he _)
  obtain ⟨d,rfl,q⟩:=q1
  cases r1
  exact wpAny_truthy_bool ⟨H1,I1,q⟩
variable {tA tB' : TT} {rest : List Expr}
def tOr (t u : TT) : TT:=fun σ H Q=>t σ H fun c H1=>if c = true then Q true H1 else u σ H1 Q
def zjG (t : TT) : TT:=fun σ H Q=>t σ H fun c H1=>Q (!c) H1
theorem zdE (ha : PT X a tA) : PW X (.BoolOp .Or [a] pos) tA:=by
  intro wh pins s σ H Q I h
  refine isTrue_or (thn (ha pins s σ H Q I h) fun c s1 e=>?_)
  cases c with
  | false=>exact isTrue_or_nil e
  | true=>exact e
theorem zjc (ha : PT X a tA) (hb : PW X (.BoolOp .Or (b :: rest) pos) tB') : PW X (.BoolOp .Or (a :: b :: rest) pos) (tOr tA tB'):=by
  intro wh pins s σ H Q I h
  refine isTrue_or (thn (ha pins s σ H _ I h) fun c s1 ⟨H1,I1,q1⟩=>?_)
  cases c with
  | true=>exact ⟨H1,I1,q1⟩
  | false=>exact hb wh pins s1 σ H1 Q I1 q1
theorem ZX (ha : PT X a tA) : PT X (.UnaryOp .Not a pos) (zjG tA):=by
  intro pins s σ H Q I h
  exact isTrue_not (ha pins s σ H (fun c H1=>Q (!c) H1) I h)
def tAndV (ta tb : TE) : TE:=fun σ H Q=>ta σ H fun x H1=>∃ c,x = .bl c∧if c = true then tb σ H1 Q else Q (.bl false) H1
def zjF (ta tb : TE) : TE:=fun σ H Q=>ta σ H fun x H1=>∃ c,x = .bl c∧if c = true then Q (.bl true) H1 else tb σ H1 Q
def zcf (ta : TE) : TE:=fun σ H Q=>ta σ H fun x H1=>∃ c,x = .bl c∧Q (.bl (!c)) H1
theorem zdU {op} {t : TE} (h : PE X a t) : PE X (.BoolOp op [a] pos) t:=fun pins s σ H Q I hw=>BoolOp_one (h pins s σ H Q I hw)
theorem zd3 (ha : PE X a ta) (hb : PE X (.BoolOp .And (b :: rest) pos) tb) : PE X (.BoolOp .And (a :: b :: rest) pos) (tAndV ta tb):=by
  intro pins s σ H Q I h
  refine BoolOp_and (thn (ha pins s σ H _ I h) fun v s1 ⟨x,H1,I1,r1,q1⟩=>?_)
  obtain ⟨c,rfl,q1⟩:=q1
  cases r1
  refine wpAny_truthy_bool ?_
  cases c with
  | true=>exact hb pins s1 σ H1 Q I1 q1
  | false=>exact ⟨.bl false,H1,I1,rfl,q1⟩
theorem zjh (ha : PE X a ta) (hb : PE X (.BoolOp .Or (b :: rest) pos) tb) : PE X (.BoolOp .Or (a :: b :: rest) pos) (zjF ta tb):=by
  intro pins s σ H Q I h
  refine BoolOp_or (thn (ha pins s σ H _ I h) fun v s1 ⟨x,H1,I1,r1,q1⟩=>?_)
  obtain ⟨c,rfl,q1⟩:=q1
  cases r1
  refine wpAny_truthy_bool ?_
  cases c with
  | false=>exact hb pins s1 σ H1 Q I1 q1
  | true=>exact ⟨.bl true,H1,I1,rfl,q1⟩
theorem zdV (ha : PE X a ta) : PE X (.UnaryOp .Not a pos) (zcf ta):=by
  intro pins s σ H Q I h
  refine UnaryOp_ (thn (ha pins s σ H _ I h) fun v s1 ⟨x,H1,I1,r1,q1⟩=>?_)
  obtain ⟨c,rfl,q1⟩:=q1
  cases r1
  exact not_of (wpAny_truthy_bool ⟨.bl (!c),H1,I1,rfl,q1⟩)
def tIf (t : TT) (ta tb : TE) : TE:=fun σ H Q=>t σ H fun c H1=>if c = true then ta σ H1 Q else tb σ H1 Q
theorem W4 {c : Expr} (hc : PT X c tA) (ha : PE X a ta) (hb : PE X b tb) : PE X (.IfExp c a b pos) (tIf tA ta tb):=by
  intro pins s σ H Q I h
  refine wpAny_IfExp (thn (hc pins s σ H _ I h) fun d s1 ⟨H1,I1,q1⟩=>?_)
  cases d with
  | true=>exact ha pins s1 σ H1 Q I1 q1
  | false=>exact hb pins s1 σ H1 Q I1 q1
end
end L2
namespace L2
open PySem PySem.Spec PyProof.Rows
def SqL (K : PySem.W.Frag) (H : Hp) (a : Addr) (xs : List V) : Prop :=
  Rd H a (.lst xs) ∨
    ∃ (o : Obj) (its : Array Value) (n : Nat),K.lookup a = some o∧o.cls = .type "list" ∧ o.dict = none∧o.data = .seq its n∧its.size ≤ sizeLine∧Vals xs its.toList
def SqT (K : PySem.W.Frag) (H : Hp) (a : Addr) (xs : List V) : Prop :=
  Rd H a (.tup xs) ∨
    ∃ (o : Obj) (its : Array Value) (n : Nat),K.lookup a = some o∧o.cls = .type "tuple" ∧ o.data = .seq its n∧its.size ≤ sizeLine∧Vals xs its.toList
def zrD : Value→Option V
  | .none=>some .non
  | .bool b=>some (.bl b)
  | .int i _=>some (.int i)
  | .str x _=>some (.str x)
  | .bytes b _=>some (.byt b)
  | .float b _=>some (.flt b)
  | .ref a=>some (.ref a)
  | .type n=>some (.ty n)
  | _=>none
theorem RelV.abs {x : V} {u : Value} (r : RelV x u) : zrD u = some x:=by
  cases x with
  | non=>cases r; rfl
  | bl _=>cases r; rfl
  | int _=>obtain ⟨t,rfl⟩:=r; rfl
  | str _=>obtain ⟨t,rfl⟩:=r; rfl
  | byt _=>obtain ⟨t,rfl⟩:=r; rfl
  | flt _=>obtain ⟨t,rfl⟩:=r; rfl
  | ref _=>cases r; rfl
  | ty _=>cases r; rfl
theorem RelV.inj {x y : V} {u : Value} (r : RelV x u) (q : RelV y u) : x = y:=Option.some.inj (r.abs.symm.trans q.abs)
theorem Vals.inj : ∀ {xs ys : List V} {us : List Value},Vals xs us→Vals ys us→xs = ys
  | _,_,_,.nil,.nil=>rfl
  | _,_,_,.cons r t,.cons r' t'=>by rw [r.inj r',Vals.inj t t']
section
variable {X : Cx} {pins : List (Addr × Obj)} {σ : St} {H : Hp} {s : Shared} {a : Addr} {xs ys : List V}
theorem SqL.of {K : PySem.W.Frag} (h : H a = some (.lst xs)) : SqL K H a xs:=.inl (.inl h)
theorem SqT.of {K : PySem.W.Frag} (h : H a = some (.tup xs)) : SqT K H a xs:=.inl (.inl h)
theorem Inv.list (I : Inv X pins σ H s) (h : SqL X.K H a xs) : ∃ its : List Value,Vals xs its∧PlainL s.heap a its.toArray∧xs.length ≤ sizeLine:=by
  rcases h with h | ⟨o,its,n,hk,hc,hd,hs,hz,r⟩
  · obtain ⟨z,its,n,r,e⟩:=h.ok I.hok
    exact ⟨its,r,⟨_,n,e,rfl,rfl,rfl⟩,z⟩
  · refine ⟨its.toList,r,⟨o,n,I.kIn a o hk,hc,hd,by simpa using hs⟩,?_⟩
    have e:=r.length
    simp only [Array.length_toList] at e
    omega
theorem Inv.tuple (I : Inv X pins σ H s) (h : SqT X.K H a xs) : ∃ its : List Value,Vals xs its∧IsTup s.heap a its.toArray∧xs.length ≤ sizeLine:=by
  rcases h with h | ⟨o,its,n,hk,hc,hs,hz,r⟩
  · obtain ⟨z,its,r,p⟩:=h.ok I.hok
    exact ⟨its,r,p,z⟩
  · refine ⟨its.toList,r,⟨o,I.kIn a o hk,hc,n,by simpa using hs⟩,?_⟩
    have e:=r.length
    simp only [Array.length_toList] at e
    omega
theorem Inv.list_inj (I : Inv X pins σ H s) (h : SqL X.K H a xs) (h' : SqL X.K H a ys) : xs = ys:=by
  obtain ⟨its,r,⟨o,n,e,_,_,d⟩,_⟩:=I.list h
  obtain ⟨its',r',⟨o',n',e',_,_,d'⟩,_⟩:=I.list h'
  rw [e] at e'; cases e'
  rw [d] at d'
  injection d' with d1 _
  have : its = its':=by simpa using congrArg Array.toList d1
  subst this
  exact r.inj r'
theorem Inv.tuple_inj (I : Inv X pins σ H s) (h : SqT X.K H a xs) (h' : SqT X.K H a ys) : xs = ys:=by
  obtain ⟨its,r,⟨o,e,_,n,d⟩,_⟩:=I.tuple h
  obtain ⟨its',r',⟨o',e',_,n',d'⟩,_⟩:=I.tuple h'
  rw [e] at e'; cases e'
  rw [d] at d'
  injection d' with d1 _
  have : its = its':=by simpa using congrArg Array.toList d1
  subst this
  exact r.inj r'
end
abbrev Cx.wish (X : Cx) (E : Value→Shared→Prop) : Cx:={ X with xe:=E }
abbrev Cx.nox (X : Cx) : Cx:=X.wish fun _ _=>False
theorem Cx.Ok.wish {X : Cx} (ok : X.Ok) (E : Value→Shared→Prop) : (X.wish E).Ok :=
  ⟨ok.mod,ok.kind,ok.glob,ok.blt,ok.above,ok.inj,ok.has,ok.cab,ok.hd,ok.frames,ok.stk,ok.exf,ok.bs,ok.bsz,ok.noex,ok.exfs,ok.funs,ok.frf⟩
theorem Cx.Ok.unwish {X : Cx} {E : Value→Shared→Prop} (ok : (X.wish E).Ok) : X.Ok :=
  ⟨ok.mod,ok.kind,ok.glob,ok.blt,ok.above,ok.inj,ok.has,ok.cab,ok.hd,ok.frames,ok.stk,ok.exf,ok.bs,ok.bsz,ok.noex,ok.exfs,ok.funs,ok.frf⟩
section
variable {X : Cx} {pins : List (Addr × Obj)} {σ : St} {H : Hp} {s : Shared} {E : Value→Shared→Prop}
theorem Inv.wish (I : Inv X pins σ H s) (E : Value→Shared→Prop) : Inv (X.wish E) pins σ H s:=⟨I.ok.wish E,I.os,I.bare,I.base,I.loc,I.cell,I.free,I.freeC,I.pin,I.hok,I.len⟩
theorem Inv.unwish (I : Inv (X.wish E) pins σ H s) : Inv X pins σ H s:=⟨I.ok.unwish,I.os,I.bare,I.base,I.loc,I.cell,I.free,I.freeC,I.pin,I.hok,I.len⟩
theorem SP.unwish {D : Ends} {f : Flow} {s' : Shared} (h : SP (X.wish E) pins D f s') : SP X pins D f s':=by
  cases f with
  | next=>obtain ⟨σ',H',I,q⟩:=h; exact ⟨σ',H',I.unwish,q⟩
  | brk=>obtain ⟨σ',H',I,q⟩:=h; exact ⟨σ',H',I.unwish,q⟩
  | cont=>obtain ⟨σ',H',I,q⟩:=h; exact ⟨σ',H',I.unwish,q⟩
  | ret u=>obtain ⟨v,σ',H',I,r,q⟩:=h; exact ⟨v,σ',H',I.unwish,r,q⟩
theorem PSs.nox {st : List Stmt} {t : TS} (h : PSs X.nox st t) : PSs X st t:=fun pins s σ H D I hw =>
  wpAny_mono (h pins s σ H D (I.wish _) hw) (fun _ _ q=>q.unwish) fun _ _ z=>False.elim z
end
section
variable {X : Cx} {st : Stmt} {rest : List Stmt} {t u : TS} {e : Expr} {te : TE} {pos : Pos}
def WP : TS:=fun D σ H=>D.nx σ H
def zaJ (t u : TS) : TS:=fun D σ H=>t { D with nx:=u D } σ H
theorem va : PSs X [] WP:=fun _ _ σ H _ I h=>wpAny_execs_nil ⟨σ,H,I,h⟩
theorem xj (h1 : PS X st t) (h2 : PSs X rest u) : PSs X (st :: rest) (zaJ t u):=by
  intro pins s σ H D I h
  refine wpAny_execs_cons (thn (h1 pins s σ H { D with nx:=u D } I h) fun f s1 q=>?_)
  cases f with
  | next =>
    obtain ⟨σ',H',I',q⟩:=q
    exact h2 pins s1 σ' H' D I' q
  | ret v=>exact q
  | brk=>exact q
  | cont=>exact q
theorem x9 (h1 : PS X st t) : PSs X [st] t:=by
  intro pins s σ H D I h
  refine wpAny_execs_cons (thn (h1 pins s σ H D I h) fun f s1 q=>?_)
  cases f with
  | next=>exact wpAny_execs_nil q
  | ret v=>exact q
  | brk=>exact q
  | cont=>exact q
theorem Inv.quiet {pins : List (Addr × Obj)} {σ : St} {H : Hp} {s : Shared} (I : Inv X pins σ H s) : interactive X.env = false:=by simp [interactive,I.ok.kind]
def WQ (te : TE) : TS:=fun D σ H=>te σ H fun _ H1=>D.nx σ H1
theorem U1 (he : PE X e te) (hs : swapsWith e none pos.line X.env = pure false:=by rfl) : PS X (.Expr e pos) (WQ te):=by
  intro pins s σ H D I h
  exact wpAny_Expr_any (thn (he pins s σ H _ I h) fun v s1 ⟨x,H1,I1,r1,q1⟩=>⟨σ,H1,I1,q1⟩) I.quiet hs
def zjE (te : TE) : TS:=fun D σ H=>te σ H D.rt
theorem V7 (he : PE X e te) : PS X (.Return (some e) pos) (zjE te):=by
  intro pins s σ H D I h
  exact wpAny_Return_some (thn (he pins s σ H _ I h) fun v s1 ⟨x,H1,I1,r1,q1⟩=>⟨x,σ,H1,I1,r1,q1⟩)
def zeO (c : TT) (t u : TS) : TS:=fun D σ H=>c σ H fun b H1=>if b = true then t D σ H1 else u D σ H1
theorem Xm {c : Expr} {a b : List Stmt} {tc : TT} (hc : PT X c tc) (ha : PSs X a t) (hb : PSs X b u) : PS X (.If c a b pos) (zeO tc t u):=by
  intro pins s σ H D I h
  refine wpAny_If (thn (hc pins s σ H _ I h) fun d s1 ⟨H1,I1,q1⟩=>?_)
  cases d with
  | true=>exact ha pins s1 σ H1 D I1 q1
  | false=>exact hb pins s1 σ H1 D I1 q1
end
abbrev TG:=V→St→Hp→(St→Hp→Prop)→Prop
abbrev TGs:=List V→St→Hp→(St→Hp→Prop)→Prop
def PG (X : Cx) (target : Expr) (t : TG) : Prop :=
  ∀ (pins : List (Addr × Obj)) (s : Shared) (σ : St) (H : Hp) (v : V) (u : Value) (Q : St→Hp→Prop),Inv X pins σ H s→RelV v u→t v σ H Q →
    wpAny (model X.prog X.w) X.A (assign target X.env u) (fun _ s'=>∃ σ' H',Inv X pins σ' H' s'∧Q σ' H') X.xe s
def PGs (X : Cx) (ts : List Expr) (t : TGs) : Prop :=
  ∀ (pins : List (Addr × Obj)) (s : Shared) (σ : St) (H : Hp) (vs : List V) (us : List Value) (Q : St→Hp→Prop),Inv X pins σ H s→Vals vs us→t vs σ H Q →
    wpAny (model X.prog X.w) X.A (assignInOrder ((assignEach ts X.env).map (·.2)) us) (fun _ s'=>∃ σ' H',Inv X pins σ' H' s'∧Q σ' H') X.xe s
abbrev ziw:=V→V→V→Hp→(Hp→Prop)→Prop
def zjz (X : Cx) (t : ziw) : Prop :=
  ∀ (pins : List (Addr × Obj)) (s : Shared) (σ : St) (H : Hp) (o i v : V) (ov iv u : Value) (Q : Hp→Prop),Inv X pins σ H s→RelV o ov→RelV i iv→RelV v u→t o i v H Q →
    wpAny (model X.prog X.w) X.A (setItem ov iv u) (fun _ s'=>∃ H',Inv X pins σ H' s'∧Q H') X.xe s
section
variable {X : Cx} {pos : Pos}
def vz (i : Nat) : TG:=fun v σ H Q=>Q (σ.set i (some v)) H
theorem Xu {i : Nat} {x : Str} (hN : X.N.Nodup) (hi : X.N[i]? = some x) (hx : Loc X.env.scope x) (hf : X.fn x = true∨X.env.scope.names.lookup x = some .local:=by first | exact .inl rfl | exact .inr rfl | assumption) : PG X (.Name x pos) (vz i):=by
  intro pins s σ H v u Q I r h
  exact wpAny_assign_Name (store_ok I hN hi hx r (fun s' I'=>⟨_,H,I',h⟩) hf)
def gNil : TGs:=fun vs σ H Q=>vs = []∧Q σ H
def zez (t : TG) (u : TGs) : TGs:=fun vs σ H Q=>∃ v r,vs = v :: r∧t v σ H fun σ' H'=>u r σ' H' Q
theorem U4 : PGs X [] gNil:=by
  intro pins s σ H vs us Q I r h
  obtain ⟨e,h⟩:=h
  subst e
  cases r
  exact assignInOrder_nil ⟨σ,H,I,h⟩
theorem W1 {e : Expr} {es : List Expr} {t : TG} {u : TGs} (h1 : PG X e t) (h2 : PGs X es u)
    (hs : (assignEach (e :: es) X.env).map (·.2) = assign e X.env :: (assignEach es X.env).map (·.2):=by rfl) : PGs X (e :: es) (zez t u):=by
  intro pins s σ H vs us Q I r h
  obtain ⟨v,vr,e1,h⟩:=h
  subst e1
  cases r with
  | cons r rr =>
    rw [hs]
    refine assignInOrder_cons (thn (h1 pins s σ H _ _ _ I r h) fun _ s1 ⟨σ1,H1,I1,q1⟩=>?_)
    exact h2 pins s1 σ1 H1 _ _ Q I1 rr q1
def zqD (K : PySem.W.Frag) (n : Nat) (t : TGs) : TG:=fun v σ H Q=>∃ a xs,v = .ref a∧SqT K H a xs∧xs.length = n∧t xs σ H Q
theorem zdQ {es : List Expr} {k : Nat} {t : TGs} {n : Nat} (hc : X.calm = true) (h : PGs X es t)
    (hn : (assignEach es X.env).length = n:=by rfl) (hst : (assignEach es X.env).findIdx? (·.1) = none:=by rfl) : PG X (.Tuple es k pos) (zqD X.K n t):=by
  intro pins s σ H v u Q I r hw
  obtain ⟨a,xs,e1,hq,hl,hw⟩:=hw
  subst e1
  cases r
  obtain ⟨its,rv,ht,hz⟩:=I.tuple hq
  refine assign_Tuple_tuple (I.ok.hd hc) ht (by simp [hn,← hl,rv.length]) hst fun h' hx=>?_
  have I1 : Inv X pins σ H { s with heap:=h' }:=I.kept (t':=s.toks) fun b o e=>hx b o (Nat.ne_of_lt (Heap.lt_size e)) e
  exact h pins _ σ H xs _ Q I1 (by simpa using rv) hw
def zqE (to ti : TE) (t : ziw) : TG:=fun v σ H Q=>to σ H fun o H1=>ti σ H1 fun i H2=>t o i v H2 fun H3=>Q σ H3
theorem zdR {o i : Expr} {to ti : TE} {t : ziw} (ho : PE X o to) (hi : PE X i ti) (hs : zjz X t)
    (ha : ∀ v,assign (.Subscript o i pos) X.env v = (do
      let ov ← holding [v] (eval o X.env)
      let iv ← holding [v,ov] (eval i X.env)
      standAt pos
      holding [v,ov,iv] (setItem ov iv v)
      release [v,ov,iv] []):=by intro _; rfl) : PG X (.Subscript o i pos) (zqE to ti t):=by
  intro pins s σ H v u Q I r h
  rw [ha]
  refine wpAny_bind (wpAny_holding (thn (ho pins s σ H _ I h) fun ov s1 ⟨x,H1,I1,r1,q1⟩=>?_))
  refine wpAny_bind (wpAny_holding (thn (hi pins s1 σ H1 _ I1 q1) fun iv s2 ⟨y,H2,I2,r2,q2⟩=>?_))
  refine wpAny_bind (wpAny_standAt (wpAny_bind (wpAny_holding (thn (hs pins s2 σ H2 x y v ov iv u _ I2 r1 r2 r q2) fun _ s3 ⟨H3,I3,q3⟩=>?_))))
  exact wpAny_release ⟨σ,H3,I3,q3⟩
def WS (te : TE) (g : TG) : TS:=fun D σ H=>te σ H fun x H1=>g x σ H1 D.nx
theorem zdH {tg e : Expr} {te : TE} {g : TG} (he : PE X e te) (hg : PG X tg g) (hs : swapsWithSole [tg] e pos.line X.env = pure false:=by rfl) (hw : swappedStores [tg] e X.env = pure none:=by rfl)
    (h1 : (assignEach [tg] X.env).map (·.2) = [assign tg X.env]:=by rfl) : PS X (.Assign [tg] e pos) (WS te g):=by
  intro pins s σ H D I h
  refine wpAny_Assign_stores (thn (he pins s σ H _ I h) fun v s1 ⟨x,H1,I1,r1,q1⟩=>?_) hs hw
  rw [h1]
  exact thn (hg pins s1 σ H1 x v _ I1 r1 q1) fun _ s2 q=>q
theorem zdF {i : Nat} {x : Str} {e : Expr} {te : TE} {pos' : Pos} (hN : X.N.Nodup) (hi : X.N[i]? = some x) (hx : Loc X.env.scope x) (he : PE X e te) (hs : swapsWith e (some (.Name x pos')) pos.line X.env = pure false:=by rfl) (hf : X.fn x = true∨X.env.scope.names.lookup x = some .local:=by first | exact .inl rfl | exact .inr rfl | assumption) :
    PS X (.Assign [.Name x pos'] e pos) (WS te (vz i)):=by
  intro pins s σ H D I h
  refine wpAny_Assign_Name (thn (he pins s σ H _ I h) fun v s1 ⟨y,H1,I1,r1,q1⟩=>?_) hs
  exact store_ok I1 hN hi hx r1 (fun s2 I2=>⟨_,H1,I2,q1⟩) hf
end
section
variable {X : Cx} {pos : Pos}
end
structure It where
  go : Nat→Hp→Prop
  yld : Nat→Hp→V→Hp→Prop
  stop : Nat→Hp→Prop
def FpOk (X : Cx) (pins : List (Addr × Obj)) (H : Hp) (b : Addr) : Prop :=
  H b = none∧b ≠ X.env.locals∧b ∉ X.fs∧(b ∈ X.ex∨X.s₀.heap.objs.size ≤ b)∧(∀ x c,X.env.cells.lookup x = some c→c ≠ b)∧∀ p ∈ X.pn ++ pins,p.1 ≠ b
theorem Inv.fpOk {X : Cx} {pins : List (Addr × Obj)} {σ : St} {H H' : Hp} {s : Shared} {b : Addr} (I : Inv X pins σ H s) (hb : s.heap.objs.size ≤ b) (hn : H' b = none) : FpOk X pins H' b:=by
  refine ⟨hn,Nat.ne_of_gt (Nat.lt_of_lt_of_le I.lt hb),I.nofs hb,.inr (Nat.le_trans I.sz hb),fun x c e z=>?_,fun p hp z=>?_⟩
  · obtain ⟨v,q⟩:=I.cell x c e
    exact absurd (Nat.lt_of_lt_of_le q.lt (by rw [z]; exact hb)) (Nat.lt_irrefl _)
  · exact absurd (Nat.lt_of_lt_of_le (Heap.lt_size (I.pin p hp).1) (by rw [z]; exact hb)) (Nat.lt_irrefl _)
structure Turn (P : Program) (w : World) (K : PySem.W.Frag) (tg : Expr) (J : It) (fp : List Addr) (it : Addr) (tn : Nat→Heap→Prop) : Prop where
  mem : it ∈ fp
  obj : ∀ i h,tn i h→∀ b ∈ fp,∃ o,h.get? b = some o∧∀ v,o.data ≠ .cell v
  keep : ∀ i h h',tn i h→(∀ b ∈ fp,∀ o,h.get? b = some o→h'.get? b = some o)→tn i h'
  item : ∀ (X : Cx),X.prog = P→X.w = w→X.K = K→X.calm = true→∀ (i : Nat) (pins : List (Addr × Obj)) (s : Shared) (σ : St) (H : Hp) (E : Value→Shared→Prop),Inv X pins σ H s→(∀ b ∈ fp,FpOk X pins H b)→tn i s.heap→J.go i H →
    wpAny (model P w) X.A (pyNext (.ref it)) (fun r s1=>∃ u,r = some u ∧
      wpAny (model P w) X.A (letOwnedTupleGo tg (.ref it) u) (fun _ s2=>∃ x H',Inv X pins σ H' s2∧RelV x u∧J.yld i H x H'∧tn (i + 1) s2.heap∧∀ b ∈ fp,H' b = none) E s1) E s
  done : ∀ (X : Cx),X.prog = P→X.w = w→X.K = K→X.calm = true→∀ (i : Nat) (pins : List (Addr × Obj)) (s : Shared) (σ : St) (H : Hp) (E : Value→Shared→Prop),Inv X pins σ H s→(∀ b ∈ fp,FpOk X pins H b)→tn i s.heap→J.stop i H →
    wpAny (model P w) X.A (pyNext (.ref it)) (fun r s1=>r = none∧Inv X pins σ H s1) E s
  self : ∀ (A : Around) (i : Nat) (s : Shared) (Q : Value→Shared→Prop) (E : Value→Shared→Prop),tn i s.heap→Q (.ref it) s→wpAny (model P w) A (pyIter (.ref it)) Q E s
abbrev TI:=St→Hp→(It→Hp→Prop)→Prop
def PIE (X : Cx) (pins : List (Addr × Obj)) (σ : St) (tg : Expr) (R : It→Hp→Prop) (itv : Value) (s2 : Shared) : Prop :=
  ∃ (it : Addr) (fp : List Addr) (tn : Nat→Heap→Prop) (J : It) (H' : Hp),itv = .ref it∧Inv X pins σ H' s2∧Turn X.prog X.w X.K tg J fp it tn∧tn 0 s2.heap∧(∀ b ∈ fp,FpOk X pins H' b)∧R J H'
def PI (X : Cx) (tg iter : Expr) (wi : TI) : Prop :=
  ∀ (pins : List (Addr × Obj)) (s : Shared) (σ : St) (H : Hp) (R : It→Hp→Prop),Inv X pins σ H s→wi σ H R →
    wpAny (model X.prog X.w) X.A (eval iter X.env) (fun v s1=>wpAny (model X.prog X.w) X.A (pyIter v) (PIE X pins σ tg R) X.xe s1) X.xe s
theorem X7 {M : Model} {A : Around} {E : Value→Shared→Prop} {s : Shared} {tg : Expr} {it : Addr} {u : Value} {o : Obj} {n : String} {vs : Array Value} {Q : Unit→Shared→Prop} (ho : s.heap.get? it = some o) (hc : o.cls = .type n) (hd : o.data = .fields vs)
    (hn : ["enumerate", "zip", "dict_itemiterator", "dict_reverseitemiterator", "odict_iterator", "itertools.zip_longest", "itertools.pairwise"].contains n = false) (hQ : Q () s) : wpAny M A (letOwnedTupleGo tg (.ref it) u) Q E s:=by
  unfold letOwnedTupleGo
  cases tg <;> first
    | exact wpAny_pure hQ
    | (cases u <;> first
        | exact wpAny_pure hQ
        | (refine wpAny_bind (wpAny_load ho ?_)
           rw [hc,hd]
           show wpAny M A (if (["enumerate", "zip", "dict_itemiterator", "dict_reverseitemiterator", "odict_iterator", "itertools.zip_longest", "itertools.pairwise"].contains n && vs[0]? == some (rawInt _)) = true then _ else _) Q E s
           rw [if_neg (by intro h; rw [hn,Bool.false_and] at h; cases h)]
           exact wpAny_pure hQ))
def Itl (K : PySem.W.Frag) (a : Addr) : It :=
  ⟨fun i H=>∃ xs x,SqL K H a xs∧xs[i]? = some x,fun i H x H'=>H' = H∧∀ xs,SqL K H a xs→xs[i]? = some x,fun i H=>∃ xs,SqL K H a xs∧xs.length ≤ i⟩
def Itt (K : PySem.W.Frag) (a : Addr) : It :=
  ⟨fun i H=>∃ xs x,SqT K H a xs∧xs[i]? = some x,fun i H x H'=>H' = H∧∀ xs,SqT K H a xs→xs[i]? = some x,fun i H=>∃ xs,SqT K H a xs∧xs.length ≤ i⟩
def Itr (lo : Int) (n : Nat) : It:=⟨fun i _=>i < n,fun i H x H'=>H' = H∧x = .int (lo + i),fun i _=>n ≤ i⟩
theorem YV {P : Program} {w : World} {K : PySem.W.Frag} {tg : Expr} (a it : Addr) : Turn P w K tg (Itl K a) [it] it (fun i h=>h.IsListIter it a i) where
  mem:=by simp
  obj:=fun i h st b hb=>by
    have e : b = it:=by simpa using hb
    subst e
    obtain ⟨o,e,c,d⟩:=st
    exact ⟨o,e,fun v z=>by rw [d] at z; cases z⟩
  keep:=fun i h h' st k=>st.at fun o e=>k it (by simp) o e
  item:=by
    intro X hP hw hK hc i pins s σ H E I hf st hg
    subst hP hw hK
    obtain ⟨xs,x,hq,hx⟩:=hg
    obtain ⟨its,rv,p,hz⟩:=I.list hq
    obtain ⟨u,hu,ru⟩:=rv.get hx
    obtain ⟨f0,f1,f2,f3,f4,f5⟩:=hf it (by simp)
    refine wpAny_pyNext_list_item st p.isList (x:=u) (by simpa using hu) fun h' st' sb=>?_
    have I1 : Inv X pins σ H { s with heap:=h' }:=I.turned (t':=s.toks) (fun b o hb e=>(sb.2 b hb).trans e) f0 f1 f3 f4 f5
    obtain ⟨o,e,c,d⟩:=id st'
    exact ⟨u,rfl,X7 (s:={ s with heap:=h' }) e c d (by decide) ⟨x,H,I1,ru,⟨rfl,fun ys hy=>by rw [I.list_inj hy hq]; exact hx⟩,st',fun b hb=>(hf b hb).1⟩⟩
  done:=by
    intro X hP hw hK hc i pins s σ H E I hf st hg
    subst hP hw hK
    obtain ⟨xs,hq,hx⟩:=hg
    obtain ⟨its,rv,p,hz⟩:=I.list hq
    obtain ⟨f0,f1,f2,f3,f4,f5⟩:=hf it (by simp)
    have hl:=rv.length
    exact wpAny_pyNext_list_end (I.ok.hd hc) st p.isList (by simp; omega) fun h' eb=>⟨rfl,I.turned (t':=s.toks) (fun b o hb e=>eb b o hb e) f0 f1 f3 f4 f5⟩
  self:=fun _ _ _ _ _ st h=>wpAny_pyIter_listiter st h
theorem Yp {P : Program} {w : World} {K : PySem.W.Frag} {tg : Expr} (a it : Addr) : Turn P w K tg (Itt K a) [it] it (fun i h=>h.IsTupleIter it a i) where
  mem:=by simp
  obj:=fun i h st b hb=>by
    have e : b = it:=by simpa using hb
    subst e
    obtain ⟨o,e,c,d⟩:=st
    exact ⟨o,e,fun v z=>by rw [d] at z; cases z⟩
  keep:=fun i h h' st k=>st.at fun o e=>k it (by simp) o e
  item:=by
    intro X hP hw hK hc i pins s σ H E I hf st hg
    subst hP hw hK
    obtain ⟨xs,x,hq,hx⟩:=hg
    obtain ⟨its,rv,p,hz⟩:=I.tuple hq
    obtain ⟨u,hu,ru⟩:=rv.get hx
    obtain ⟨f0,f1,f2,f3,f4,f5⟩:=hf it (by simp)
    refine wpAny_pyNext_tuple_item st (show s.heap.IsTuple a its.toArray from p) (x:=u) (by simpa using hu) fun h' st' sb=>?_
    have I1 : Inv X pins σ H { s with heap:=h' }:=I.turned (t':=s.toks) (fun b o hb e=>(sb.2 b hb).trans e) f0 f1 f3 f4 f5
    obtain ⟨o,e,c,d⟩:=id st'
    exact ⟨u,rfl,X7 (s:={ s with heap:=h' }) e c d (by decide) ⟨x,H,I1,ru,⟨rfl,fun ys hy=>by rw [I.tuple_inj hy hq]; exact hx⟩,st',fun b hb=>(hf b hb).1⟩⟩
  done:=by
    intro X hP hw hK hc i pins s σ H E I hf st hg
    subst hP hw hK
    obtain ⟨xs,hq,hx⟩:=hg
    obtain ⟨its,rv,p,hz⟩:=I.tuple hq
    obtain ⟨f0,f1,f2,f3,f4,f5⟩:=hf it (by simp)
    have hl:=rv.length
    exact wpAny_pyNext_tuple_end (I.ok.hd hc) st (show s.heap.IsTuple a its.toArray from p) (by simp; omega) fun h' eb=>⟨rfl,I.turned (t':=s.toks) (fun b o hb e=>eb b o hb e) f0 f1 f3 f4 f5⟩
  self:=fun _ _ _ _ _ st h=>wpAny_pyIter_tupleiter st h
theorem Yq {P : Program} {w : World} {K : PySem.W.Frag} {tg : Expr} (it : Addr) (lo : Int) (n : Nat) : Turn P w K tg (Itr lo n) [it] it (fun i h=>IsRangeIter h it (lo + (i : Nat) * 1) ((n : Int) - (i : Nat)) 1) where
  mem:=by simp
  obj:=fun i h st b hb=>by
    have e : b = it:=by simpa using hb
    subst e
    exact ⟨_,st,fun v z=>by
      have z' : Data.fields _ = Data.cell v:=z
      cases z'⟩
  keep:=fun i h h' st k=>k it (by simp) _ st
  item:=by
    intro X hP hw hK hc i pins s σ H E I hf st hg
    subst hP hw hK
    obtain ⟨f0,f1,f2,f3,f4,f5⟩:=hf it (by simp)
    have W:=Walks.range (prog:=X.prog) (w:=X.w) (I.ok.hd hc) it lo 1 n
    refine W.item i s _ _ hg st fun v h' tk hv st' kk=>?_
    obtain ⟨t,rfl⟩:=hv
    have I1 : Inv X pins σ H { s with heap:=h',toks:=tk }:=I.turned (fun b o hb e=>kk b o (by simpa using hb) e) f0 f1 f3 f4 f5
    refine ⟨_,rfl,X7 (s:={ s with heap:=h',toks:=tk }) (n := "range_iterator") st' rfl rfl (by decide) ⟨.int (lo + i),H,I1,⟨t,?_⟩,⟨rfl,rfl⟩,st',fun b hb=>(hf b hb).1⟩⟩
    rw [Int.mul_one]
  done:=by
    intro X hP hw hK hc i pins s σ H E I hf st hg
    subst hP hw hK
    obtain ⟨f0,f1,f2,f3,f4,f5⟩:=hf it (by simp)
    exact wpAny_pyNext_range_end (I.ok.hd hc) st (by have : n ≤ i:=hg; omega) fun h' eb=>⟨rfl,I.turned (t':=s.toks) (fun b o hb e=>eb b o hb e) f0 f1 f3 f4 f5⟩
  self:=fun _ _ _ _ _ st h=>wpAny_pyIter_rangeiter st h
end L2
namespace L2
open PySem PySem.Spec PyProof.Rows
section
variable {X : Cx} {tg : Expr}
def zeu (K : PySem.W.Frag) (tl : TE) : TI:=fun σ H R=>tl σ H fun x H1=>∃ a,x = .ref a∧(∃ xs,SqL K H1 a xs)∧R (Itl K a) H1
def zqz (K : PySem.W.Frag) (tl : TE) : TI:=fun σ H R=>tl σ H fun x H1=>∃ a,x = .ref a∧(∃ xs,SqT K H1 a xs)∧R (Itt K a) H1
theorem Xs {l : Expr} {tl : TE} (hl : PE X l tl) : PI X tg l (zeu X.K tl):=by
  intro pins s σ H R I h
  refine thn (hl pins s σ H _ I h) fun v s1 ⟨x,H1,I1,r1,q1⟩=>?_
  obtain ⟨a,e,⟨xs,hq⟩,q⟩:=q1
  subst e
  cases r1
  obtain ⟨its,rv,p,hz⟩:=I1.list hq
  refine wpAny_pyIter_list p.isList ?_
  refine ⟨s1.heap.objs.size,[s1.heap.objs.size],_,_,H1,rfl,I1.kept (t':=s1.toks) fun b o e=>Heap.get?_push_of_some _ e,YV a _,⟨_,Heap.get?_push_size _ rfl,rfl,rfl⟩,fun b hb=>?_,q⟩
  have e : b = s1.heap.objs.size:=by simpa using hb
  subst e
  exact I1.fpOk (Nat.le_refl _) (I1.hok.fresh (Nat.le_refl _))
theorem zdO {l : Expr} {tl : TE} (hl : PE X l tl) : PI X tg l (zqz X.K tl):=by
  intro pins s σ H R I h
  refine thn (hl pins s σ H _ I h) fun v s1 ⟨x,H1,I1,r1,q1⟩=>?_
  obtain ⟨a,e,⟨xs,hq⟩,q⟩:=q1
  subst e
  cases r1
  obtain ⟨its,rv,p,hz⟩:=I1.tuple hq
  refine wpAny_pyIter_tuple (show s1.heap.IsTuple a its.toArray from p) ?_
  refine ⟨s1.heap.objs.size,[s1.heap.objs.size],_,_,H1,rfl,I1.kept (t':=s1.toks) fun b o e=>Heap.get?_push_of_some _ e,Yp a _,⟨_,Heap.get?_push_size _ rfl,rfl,rfl⟩,fun b hb=>?_,q⟩
  have e : b = s1.heap.objs.size:=by simpa using hb
  subst e
  exact I1.fpOk (Nat.le_refl _) (I1.hok.fresh (Nat.le_refl _))
theorem ZV {pins : List (Addr × Obj)} {σ : St} {H : Hp} {s : Shared} {R : It→Hp→Prop} {E : Value→Shared→Prop} {lo hi : Int} {t u v : Tok} {tk : Nat} (I : Inv X pins σ H s) (h1 : -(2 ^ 62) ≤ lo) (h2 : lo < 2 ^ 62) (h3 : -(2 ^ 62) ≤ hi) (h4 : hi < 2 ^ 62)
    (q : R (Itr lo (hi - lo).toNat) H) : wpAny (model X.prog X.w) X.A (pyIter (.ref s.heap.objs.size)) (PIE X pins σ tg R) E { s with heap:=s.heap.push { cls:=.type "range",data:=.fields #[.int lo t,.int hi u,.int 1 v] },toks:=tk }:=by
  refine wpAny_pyIter_range (IsRange.new ..) (small_one h1 h2 h3 h4) ?_
  have I1 : Inv X pins σ H { s with heap:=s.heap.push { cls:=.type "range",data:=.fields #[.int lo t,.int hi u,.int 1 v] },toks:=tk }:=I.kept fun b o e=>Heap.get?_push_of_some _ e
  refine ⟨(s.heap.push { cls:=.type "range",data:=.fields #[.int lo t,.int hi u,.int 1 v] }).objs.size,[(s.heap.push { cls:=.type "range",data:=.fields #[.int lo t,.int hi u,.int 1 v] }).objs.size],_,_,H,rfl,
    I1.kept (t':=tk) fun b o e=>Heap.get?_push_of_some _ e,Yq _ lo (hi - lo).toNat,?_,fun b hb=>?_,q⟩
  · have e1 : lo + ((0 : Nat) : Int) * 1 = lo:=by simp
    have e2 : (((hi - lo).toNat : Nat) : Int) - ((0 : Nat) : Int) = Builtin.Range.rangeSize lo hi 1:=by rw [rangeSize_one]; split <;> omega
    show IsRangeIter _ _ (lo + ((0 : Nat) : Int) * 1) ((((hi - lo).toNat : Nat) : Int) - ((0 : Nat) : Int)) 1
    rw [e1,e2]
    exact Heap.get?_push_size _ rfl
  · have e : b = (s.heap.push { cls:=.type "range",data:=.fields #[.int lo t,.int hi u,.int 1 v] }).objs.size:=by simpa using hb
    subst e
    exact I1.fpOk (Nat.le_refl _) (I1.hok.fresh (Nat.le_refl _))
def zet (ta : TA) : TI:=fun σ H R=>ta σ H fun vs H1=>∃ j : Int,vs = [.int j]∧-(2 ^ 62) ≤ j∧j < 2 ^ 62∧R (Itr 0 j.toNat) H1
def zes (ta : TA) : TI:=fun σ H R=>ta σ H fun vs H1=>∃ i j : Int,vs = [.int i,.int j]∧(-(2 ^ 62) ≤ i∧i < 2 ^ 62∧-(2 ^ 62) ≤ j∧j < 2 ^ 62)∧R (Itr i (j - i).toNat) H1
theorem Xr {a : Expr} {ta : TA} {p pos : Pos} (hg : Gl X "range") (hm : X.mg "range" = none) (ha : PA X [a] ta) (hs : starEach [a] X.env = [(false,eval a X.env)]:=by rfl) : PI X tg (.Call (.Name "range" p) [a] [] pos) (zet ta):=by
  intro pins s σ H R I h
  refine Call_ (ld_blt I hg hm boot_range (PyProof.Rows.callWith_type1 (thn (ha pos pins s σ H _ I h) fun us s1 ⟨vs,H1,I1,r1,q1⟩=>?_) hs rfl))
  obtain ⟨j,e,q1,q2,q⟩:=q1
  subst e
  cases r1 with
  | cons r rr =>
    cases rr
    obtain ⟨t,rfl⟩:=r
    exact call_range_1 (ZV I1 (by omega) (by omega) q1 q2 (by simpa using q))
theorem Xq {a b : Expr} {ta : TA} {p pos : Pos} (hg : Gl X "range") (hm : X.mg "range" = none) (ha : PA X [a,b] ta) (hs : starEach [a,b] X.env = [(false,eval a X.env),(false,eval b X.env)]:=by rfl) (hs2 : starEach [b] X.env = [(false,eval b X.env)]:=by rfl) :
    PI X tg (.Call (.Name "range" p) [a,b] [] pos) (zes ta):=by
  intro pins s σ H R I h
  refine Call_ (ld_blt I hg hm boot_range (PyProof.Rows.callWith_type1 (thn (ha pos pins s σ H _ I h) fun us s1 ⟨vs,H1,I1,r1,q1⟩=>?_) (by rw [hs,hs2]) (by rw [hs2]; rfl)))
  obtain ⟨i,j,e,⟨q1,q2,q3,q4⟩,q⟩:=q1
  subst e
  cases r1 with
  | cons r rr =>
    cases rr with
    | cons r' rr =>
      cases rr
      obtain ⟨t,rfl⟩:=r
      obtain ⟨t',rfl⟩:=r'
      exact call_range_2 (ZV I1 q1 q2 q3 q4 q)
def zjH (wi : TI) (g : TG) (tb : TS) : TS:=fun D σ H=>wi σ H fun J H1=>∃ W : Nat→Nat→St→Hp→Prop,(∃ m,W 0 m σ H1)∧∀ i m σ H,W i m σ H →
  (J.stop i H∧D.nx σ H)∨(J.go i H∧∃ N : St→Hp→Prop,(∀ σ' H',N σ' H'→∃ m',m' < m∧W (i + 1) m' σ' H')∧∀ x H',J.yld i H x H'→g x σ H' fun σ2 H2=>tb { D with nx:=N,ct:=N,bk:=D.nx } σ2 H2)
def uQ (fp : List Addr) (h : Heap) : List (Addr × Obj):=fp.filterMap fun b=>(h.get? b).map fun o=>(b,o)
theorem xR {fp : List Addr} {h : Heap} {b : Addr} {o : Obj} (hb : b ∈ fp) (e : h.get? b = some o) : (b,o) ∈ uQ fp h:=List.mem_filterMap.mpr ⟨b,hb,by rw [e]; rfl⟩
theorem XH {fp : List Addr} {h : Heap} {p : Addr × Obj} (hp : p ∈ uQ fp h) : p.1 ∈ fp∧h.get? p.1 = some p.2:=by
  obtain ⟨b,hb,e⟩:=List.mem_filterMap.mp hp
  cases q : h.get? b with
  | none=>rw [q] at e; cases e
  | some o =>
    rw [q] at e
    have e' : (b,o) = p:=Option.some.inj e
    subst e'
    exact ⟨hb,q⟩
theorem Inv.pinned {pins : List (Addr × Obj)} {σ : St} {H : Hp} {s : Shared} {fp : List Addr} (I : Inv X pins σ H s) (hf : ∀ b ∈ fp,FpOk X pins H b) (ho : ∀ b ∈ fp,∃ o,s.heap.get? b = some o∧∀ v,o.data ≠ .cell v) : Inv X (pins ++ uQ fp s.heap) σ H s :=
  I.pins_of fun p hp=>(List.mem_append.mp hp).elim (fun z=>I.pin p (List.mem_append_right _ z)) fun z=>by
    obtain ⟨hb,e⟩:=XH z
    obtain ⟨f0,f1,f2,_⟩:=hf p.1 hb
    obtain ⟨o,e',d⟩:=ho p.1 hb
    rw [e] at e'; cases e'
    exact ⟨e,f0,f1,f2,d⟩
theorem Inv.unpinned {pins pl : List (Addr × Obj)} {σ : St} {H : Hp} {s : Shared} (I : Inv X (pins ++ pl) σ H s) : Inv X pins σ H s:=I.pins_of fun p hp=>I.pin p (List.mem_append_right _ (List.mem_append_left _ hp))
theorem zdG {iter : Expr} {body : List Stmt} {wi : TI} {g : TG} {tb : TS} {pos : Pos} (hp : PassesOwn (model X.prog X.w) X.A X.env X.xe) (hc : X.calm = true) (hi : PI X tg iter wi) (hg : PG X tg g) (hb : PSs X body tb)
    (hs : ∀ x,foldedSetIterable iter X.env x = pure x:=by intro _; rfl) : PS X (.For tg iter body [] pos) (zjH wi g tb):=by
  intro pins s σ H D I h
  refine wpAny_For (thn (hi pins s σ H _ I h) fun v s1 h1=>thn h1 fun itv s2 h2=>?_) hs
  obtain ⟨it,fp,tn,J,H2,e,I2,T,st2,f2,W,⟨m0,w0⟩,turn⟩:=h2
  subst e
  -- what stays true of the iterator's objects through the loop
  have stat : ∀ {H' : Hp},(∀ b ∈ fp,H' b = none)→∀ b ∈ fp,FpOk X pins H' b:=fun hn b hb=>⟨hn b hb,(f2 b hb).2⟩
  refine codeAny_forLoop_any (fun n s'=>∃ i σ' H',Inv X pins σ' H' s'∧tn i s'.heap∧(∀ b ∈ fp,H' b = none)∧W i n σ' H') ?_ m0 ⟨0,σ,H2,I2,st2,fun b hb=>(f2 b hb).1,w0⟩
  rintro n s3 ⟨i,σ3,H3,I3,st3,fr3,w3⟩
  rcases turn i n σ3 H3 w3 with ⟨stop,qn⟩ | ⟨go,N,hN,step⟩
  · refine wpAny_passesOwn hp (thn (T.done X rfl rfl rfl hc i pins s3 σ3 H3 X.xe I3 (stat fr3) st3 stop) fun r s4 ⟨hr,I4⟩=>?_)
    subst hr
    exact wpAny_execs_nil ⟨σ3,H3,I4,qn⟩
  · refine wpAny_passesOwn hp (thn (T.item X rfl rfl rfl hc i pins s3 σ3 H3 X.xe I3 (stat fr3) st3 go) fun r s4 ⟨u,hr,h4⟩=>?_)
    subst hr
    refine wpAny_passesOwn hp (thn h4 fun _ s5 ⟨x,H5,I5,r5,y5,st5,fr5⟩=>?_)
    have I5':=I5.pinned (stat fr5) (T.obj _ _ st5)
    refine wpAny_passesOwn hp (thn (hg _ s5 σ3 H5 x u _ I5' r5 (step x H5 y5)) fun _ s6 ⟨σ6,H6,I6,q6⟩=>?_)
    refine wpAny_passesOwn hp (thn (hb _ s6 σ6 H6 _ I6 q6) fun f s7 q7=>?_)
    have again : ∀ {σ7 : St} {H7 : Hp},Inv X (pins ++ uQ fp s5.heap) σ7 H7 s7→N σ7 H7→∃ m,m < n∧∃ i σ' H',Inv X pins σ' H' s7∧tn i s7.heap∧(∀ b ∈ fp,H' b = none)∧W i m σ' H':=fun {σ7 H7} I7 n7=>by
      obtain ⟨m',hm,w7⟩:=hN σ7 H7 n7
      refine ⟨m',hm,i + 1,σ7,H7,I7.unpinned,T.keep _ _ _ st5 fun b hb o e=>(I7.pin (b,o) (List.mem_append_right _ (List.mem_append_right _ (xR hb e)))).1,fun b hb=>?_,w7⟩
      obtain ⟨o,e,d⟩:=T.obj _ _ st5 b hb
      exact (I7.pin (b,o) (List.mem_append_right _ (List.mem_append_right _ (xR hb e)))).2.1
    cases f with
    | next=>obtain ⟨σ7,H7,I7,n7⟩:=q7; exact again I7 n7
    | cont=>obtain ⟨σ7,H7,I7,n7⟩:=q7; exact again I7 n7
    | brk=>obtain ⟨σ7,H7,I7,q7⟩:=q7; exact ⟨σ7,H7,I7.unpinned,q7⟩
    | ret v=>obtain ⟨x7,σ7,H7,I7,r7,q7⟩:=q7; exact ⟨x7,σ7,H7,I7.unpinned,r7,q7⟩
end
theorem Yd {K : PySem.W.Frag} {a : Addr} {xs : List V} {g : TG} {tb : TS} {D : Ends} {σ : St} {H : Hp} (Pv : Nat→St→Hp→Prop) (h0 : Pv 0 σ H) (hl : ∀ i σ H,i ≤ xs.length→Pv i σ H→SqL K H a xs)
    (hs : ∀ i x σ H,xs[i]? = some x→Pv i σ H→g x σ H fun σ2 H2=>tb { D with nx:=Pv (i + 1),ct:=Pv (i + 1),bk:=D.nx } σ2 H2) (hd : ∀ σ H,Pv xs.length σ H→D.nx σ H) :
    ∃ W : Nat→Nat→St→Hp→Prop,(∃ m,W 0 m σ H)∧∀ i m σ H,W i m σ H →
      ((Itl K a).stop i H∧D.nx σ H)∨((Itl K a).go i H∧∃ N : St→Hp→Prop,(∀ σ' H',N σ' H'→∃ m',m' < m∧W (i + 1) m' σ' H')∧∀ x H',(Itl K a).yld i H x H'→g x σ H' fun σ2 H2=>tb { D with nx:=N,ct:=N,bk:=D.nx } σ2 H2):=by
  refine ⟨fun i m σ H=>m = xs.length - i∧i ≤ xs.length∧Pv i σ H,⟨xs.length,by simp,Nat.zero_le _,h0⟩,?_⟩
  rintro i m σ H ⟨rfl,hi,p⟩
  have q:=hl i σ H hi p
  by_cases hlt : i < xs.length
  · refine .inr ⟨⟨xs,xs[i],q,by simp [hlt]⟩,Pv (i + 1),fun σ' H' p'=>⟨xs.length - (i + 1),by omega,rfl,hlt,p'⟩,fun x H' y=>?_⟩
    obtain ⟨e,y⟩:=y
    subst e
    exact hs i x σ _ (y xs q) p
  · have e : i = xs.length:=by omega
    subst e
    exact .inl ⟨⟨xs,q,Nat.le_refl _⟩,hd σ H p⟩
theorem Wa {lo : Int} {n : Nat} {g : TG} {tb : TS} {D : Ends} {σ : St} {H : Hp} (Pv : Nat→St→Hp→Prop) (h0 : Pv 0 σ H)
    (hs : ∀ i σ H,i < n→Pv i σ H→g (.int (lo + i)) σ H fun σ2 H2=>tb { D with nx:=Pv (i + 1),ct:=Pv (i + 1),bk:=D.nx } σ2 H2) (hd : ∀ σ H,Pv n σ H→D.nx σ H) :
    ∃ W : Nat→Nat→St→Hp→Prop,(∃ m,W 0 m σ H)∧∀ i m σ H,W i m σ H →
      ((Itr lo n).stop i H∧D.nx σ H)∨((Itr lo n).go i H∧∃ N : St→Hp→Prop,(∀ σ' H',N σ' H'→∃ m',m' < m∧W (i + 1) m' σ' H')∧∀ x H',(Itr lo n).yld i H x H'→g x σ H' fun σ2 H2=>tb { D with nx:=N,ct:=N,bk:=D.nx } σ2 H2):=by
  refine ⟨fun i m σ H=>m = n - i∧i ≤ n∧Pv i σ H,⟨n,by simp,Nat.zero_le _,h0⟩,?_⟩
  rintro i m σ H ⟨rfl,hi,p⟩
  by_cases hlt : i < n
  · refine .inr ⟨hlt,Pv (i + 1),fun σ' H' p'=>⟨n - (i + 1),by omega,rfl,hlt,p'⟩,fun x H' y=>?_⟩
    obtain ⟨e,y⟩:=y
    subst e y
    exact hs i σ _ hlt p
  · have e : i = n:=by omega
    subst e
    exact .inl ⟨Nat.le_refl _,hd σ H p⟩
end L2
namespace L2
open PySem PySem.Spec PyProof.Rows
abbrev R2:=V→V→Hp→VK→Prop
def OpR (X : Cx) (f : Value→Value→Sem Value) (r : R2) : Prop :=
  ∀ (pins : List (Addr × Obj)) (s : Shared) (σ : St) (H : Hp) (x y : V) (v u : Value) (Q : VK),Inv X pins σ H s→RelV x v→RelV y u→r x y H Q →
    wpAny (model X.prog X.w) X.A (f v u) (EP X pins σ Q) X.xe s
def xU (X : Cx) (f : Value) (r : List V→Hp→VK→Prop) : Prop :=
  ∀ (pins : List (Addr × Obj)) (s : Shared) (σ : St) (H : Hp) (xs : List V) (us : List Value) (Q : VK),Inv X pins σ H s→Vals xs us→r xs H Q →
    wpAny (model X.prog X.w) X.A (call f us) (EP X pins σ Q) X.xe s
def tOp (r : R2) (ta tb : TE) : TE:=fun σ H Q=>ta σ H fun x H1=>tb σ H1 fun y H2=>r x y H2 Q
def rI (C : Int→Int→Prop) (g : Int→Int→V) : R2:=fun x y H Q=>∃ i j,x = .int i∧y = .int j∧C i j∧Q (g i j) H
def rI0 (g : Int→Int→V) : R2:=fun x y H Q=>∃ i j,x = .int i∧y = .int j∧Q (g i j) H
section
variable {X : Cx} {a b c : Expr} {ta tb tc : TE} {pos : Pos}
theorem binT (ha : PE X a ta) (hb : PE X b tb) {pins : List (Addr × Obj)} {s : Shared} {σ : St} {H : Hp} {R : V→V→Hp→Prop} (I : Inv X pins σ H s)
    (h : ta σ H fun x H1=>tb σ H1 fun y H2=>R x y H2) {Q : Value→Shared→Prop} {f : Value→Value→Sem Value}
    (hf : ∀ v u s2 x y H2,Inv X pins σ H2 s2→RelV x v→RelV y u→R x y H2→wpAny (model X.prog X.w) X.A (f v u) Q X.xe s2) :
    wpAny (model X.prog X.w) X.A (eval a X.env) (fun v s₁=>wpAny (model X.prog X.w) X.A (eval b X.env) (fun u s₂=>wpAny (model X.prog X.w) X.A (f v u) Q X.xe s₂) X.xe s₁) X.xe s:=by
  refine thn (ha pins s σ H _ I h) fun v s1 ⟨x,H1,I1,r1,q1⟩=>?_
  refine thn (hb pins s1 σ H1 _ I1 q1) fun u s2 ⟨y,H2,I2,r2,q2⟩=>?_
  exact hf v u s2 x y H2 I2 r1 r2 q2
theorem zji {op : Operator} {r : R2} (ho : OpR X (binaryOp op) r) (ha : PE X a ta) (hb : PE X b tb) : PE X (.BinOp a op b pos) (tOp r ta tb):=by
  intro pins s σ H Q I h
  exact wpAny_BinOp (binT ha hb I h fun v u s2 x y H2 I2 rx ry q=>ho pins s2 σ H2 x y v u Q I2 rx ry q)
theorem opI {f : Value→Value→Sem Value} {C : Int→Int→Prop} {g : Int→Int→Int}
    (rule : ∀ (i j : Int) (t u : Tok) (s : Shared) (Q : Value→Shared→Prop) (E : Value→Shared→Prop),C i j→Q (.int (g i j) s.toks) { s with toks:=s.toks + 1 }→wpAny (model X.prog X.w) X.A (f (.int i t) (.int j u)) Q E s) :
    OpR X f (rI C fun i j=>.int (g i j)):=by
  intro pins s σ H x y v u Q I rx ry h
  obtain ⟨i,j,rfl,rfl,hc,q⟩:=h
  obtain ⟨t,rfl⟩:=rx
  obtain ⟨t',rfl⟩:=ry
  exact rule i j t t' s _ _ hc ⟨.int (g i j),H,I.tok _,⟨_,rfl⟩,q⟩
theorem zpb {f : Value→Value→Sem Value} {g : Int→Int→Int}
    (rule : ∀ (i j : Int) (t u : Tok) (s : Shared) (Q : Value→Shared→Prop) (E : Value→Shared→Prop),Q (.int (g i j) s.toks) { s with toks:=s.toks + 1 }→wpAny (model X.prog X.w) X.A (f (.int i t) (.int j u)) Q E s) :
    OpR X f (rI0 fun i j=>.int (g i j)):=by
  intro pins s σ H x y v u Q I rx ry h
  obtain ⟨i,j,rfl,rfl,q⟩:=h
  obtain ⟨t,rfl⟩:=rx
  obtain ⟨t',rfl⟩:=ry
  exact rule i j t t' s _ _ ⟨.int (g i j),H,I.tok _,⟨_,rfl⟩,q⟩
theorem zeR {f : Value→Value→Sem Value} {g : Int→Int→Bool}
    (rule : ∀ (i j : Int) (t u : Tok) (s : Shared) (Q : Value→Shared→Prop) (E : Value→Shared→Prop),Q (.bool (g i j)) s→wpAny (model X.prog X.w) X.A (f (.int i t) (.int j u)) Q E s) :
    OpR X f (rI0 fun i j=>.bl (g i j)):=by
  intro pins s σ H x y v u Q I rx ry h
  obtain ⟨i,j,rfl,rfl,q⟩:=h
  obtain ⟨t,rfl⟩:=rx
  obtain ⟨t',rfl⟩:=ry
  exact rule i j t t' s _ _ ⟨.bl (g i j),H,I,rfl,q⟩
def zrJ (i j : Int) : Prop:=0 ≤ j∧j ≤ 1000000∧i.natAbs < 2 ^ 64
def CMul (i j : Int) : Prop:=(-(2 ^ 64) < i∧i < 2 ^ 64)∨(-(2 ^ 64) < j∧j < 2 ^ 64)
theorem CMul.ok {i j : Int} (h : CMul i j) : IntMulOk i j:=by
  rcases h with ⟨h1,h2⟩ | ⟨h1,h2⟩
  · exact .of_left (intBits_le_64 h1 h2)
  · exact .of_right (intBits_le_64 h1 h2)
theorem xB : OpR X (binaryOp .Add) (rI0 fun i j=>.int (i + j)):=zpb fun _ _ _ _ _ _ _ q=>add_int q
theorem wm : OpR X (binaryOp .Sub) (rI0 fun i j=>.int (i - j)):=zpb fun _ _ _ _ _ _ _ q=>sub_int q
theorem vD : OpR X (binaryOp .Mult) (rI CMul fun i j=>.int (i * j)):=opI fun _ _ _ _ _ _ _ hc q=>mul_int q hc.ok
theorem xI : OpR X (binaryOp .Mod) (rI (fun _ j=>0 < j) fun i j=>.int (i % j)):=opI fun i j _ _ _ _ _ hc q=>by
  have h1 : (0 : Int) < j:=hc
  exact mod_int' (by omega) (by rw [Int.fmod_eq_emod_of_nonneg i (by omega)]; exact q)
theorem uU : OpR X (binaryOp .Pow) (rI zrJ fun i j=>.int (i ^ j.toNat)):=opI fun _ _ _ _ _ _ _ hc q=>pow_int_small hc.1 hc.2.1 hc.2.2 q
end
def zi6 : V→V→Bool
  | .non,.non=>true | .non,.int _=>true | .int _,.non=>true | .non,.bl _=>true | .bl _,.non=>true | .non,.str _=>true | .str _,.non=>true
  | .int _,.int _=>true | .bl _,.bl _=>true | .str _,.str _=>true | .byt _,.byt _=>true
  | .int _,.str _=>true | .str _,.int _=>true | .bl _,.str _=>true | .str _,.bl _=>true
  | _,_=>false
def rEq : R2:=fun x y H Q=>zi6 x y = true∧Q (.bl (decide (x = y))) H
def rNe : R2:=fun x y H Q=>zi6 x y = true∧Q (.bl (!decide (x = y))) H
theorem Wg {i j : Int} : decide (V.int i = V.int j) = (i == j):=by
  rw [Bool.eq_iff_iff]
  simp
theorem Ut {i j : Bool} : decide (V.bl i = V.bl j) = (i == j):=by
  rw [Bool.eq_iff_iff]
  simp
theorem xA {i j : Str} : decide (V.str i = V.str j) = (i == j):=by
  rw [Bool.eq_iff_iff]
  simp
theorem Wh {i j : Array UInt8} : decide (V.byt i = V.byt j) = (i.toList == j.toList):=by
  rw [Bool.eq_iff_iff]
  cases i
  cases j
  simp
section
variable {X : Cx} {a b c : Expr} {ta tb tc : TE} {pos : Pos}
theorem zI {pins : List (Addr × Obj)} {σ : St} {H : Hp} {s : Shared} {Q : VK} {k k' : Bool} (I : Inv X pins σ H s) (q : Q (.bl k) H) (e : k = k') : EP X pins σ Q (.bool k') s:=by
  subst e
  exact ⟨.bl k,H,I,rfl,q⟩
theorem wa : OpR X (compareOp .Eq) rEq:=by
  intro pins s σ H x y v u Q I rx ry h
  obtain ⟨hs,q⟩:=h
  cases x with
  | non =>
    cases rx
    cases y with
    | non=>cases ry; exact PySem.EqNone.eq_none_none (zI I q (by simp))
    | bl j=>cases ry; exact PySem.EqNone.eq_none_bool (zI I q (by simp))
    | int j=>obtain ⟨t',rfl⟩:=ry; exact PySem.EqNone.eq_none_int (zI I q (by simp))
    | str j=>obtain ⟨t',rfl⟩:=ry; exact PySem.EqNone.eq_none_str (zI I q (by simp))
    | _=>exact absurd (show false = true from hs) Bool.false_ne_true
  | bl i =>
    cases rx
    cases y with
    | non=>cases ry; exact PySem.EqNone.eq_bool_none (zI I q (by simp))
    | bl j=>cases ry; exact eq_bool (zI I q Ut)
    | str j=>obtain ⟨t',rfl⟩:=ry; exact PySem.EqMixed.eq_bool_str (zI I q (by simp))
    | _=>exact absurd (show false = true from hs) Bool.false_ne_true
  | int i =>
    obtain ⟨t,rfl⟩:=rx
    cases y with
    | non=>cases ry; exact PySem.EqNone.eq_int_none (zI I q (by simp))
    | int j=>obtain ⟨t',rfl⟩:=ry; exact eq_int (zI I q Wg)
    | str j=>obtain ⟨t',rfl⟩:=ry; exact PySem.EqMixed.eq_int_str (zI I q (by simp))
    | _=>exact absurd (show false = true from hs) Bool.false_ne_true
  | str i =>
    obtain ⟨t,rfl⟩:=rx
    cases y with
    | non=>cases ry; exact PySem.EqNone.eq_str_none (zI I q (by simp))
    | bl j=>cases ry; exact PySem.EqMixed.eq_str_bool (zI I q (by simp))
    | int j=>obtain ⟨t',rfl⟩:=ry; exact PySem.EqMixed.eq_str_int (zI I q (by simp))
    | str j=>obtain ⟨t',rfl⟩:=ry; exact eq_str (zI I q xA)
    | _=>exact absurd (show false = true from hs) Bool.false_ne_true
  | byt i =>
    obtain ⟨t,rfl⟩:=rx
    cases y with
    | byt j=>obtain ⟨t',rfl⟩:=ry; exact PySem.W.eq_bytes (zI I q Wh)
    | _=>exact absurd (show false = true from hs) Bool.false_ne_true
  | _=>cases y <;> exact absurd (show false = true from hs) Bool.false_ne_true
theorem vc : OpR X (compareOp .NotEq) rNe:=by
  intro pins s σ H x y v u Q I rx ry h
  obtain ⟨hs,q⟩:=h
  cases x with
  | non =>
    cases rx
    cases y with
    | non=>cases ry; exact PySem.EqNone.ne_none_none (zI I q (by simp))
    | bl j=>cases ry; exact PySem.EqNone.ne_none_bool (zI I q (by simp))
    | int j=>obtain ⟨t',rfl⟩:=ry; exact PySem.EqNone.ne_none_int (zI I q (by simp))
    | str j=>obtain ⟨t',rfl⟩:=ry; exact PySem.EqNone.ne_none_str (zI I q (by simp))
    | _=>exact absurd (show false = true from hs) Bool.false_ne_true
  | bl i =>
    cases rx
    cases y with
    | non=>cases ry; exact PySem.EqNone.ne_bool_none (zI I q (by simp))
    | bl j=>cases ry; exact ne_bool (zI I q (congrArg not Ut))
    | str j=>obtain ⟨t',rfl⟩:=ry; exact PySem.EqMixed.ne_bool_str (zI I q (by simp))
    | _=>exact absurd (show false = true from hs) Bool.false_ne_true
  | int i =>
    obtain ⟨t,rfl⟩:=rx
    cases y with
    | non=>cases ry; exact PySem.EqNone.ne_int_none (zI I q (by simp))
    | int j=>obtain ⟨t',rfl⟩:=ry; exact ne_int (zI I q (congrArg not Wg))
    | str j=>obtain ⟨t',rfl⟩:=ry; exact PySem.EqMixed.ne_int_str (zI I q (by simp))
    | _=>exact absurd (show false = true from hs) Bool.false_ne_true
  | str i =>
    obtain ⟨t,rfl⟩:=rx
    cases y with
    | non=>cases ry; exact PySem.EqNone.ne_str_none (zI I q (by simp))
    | bl j=>cases ry; exact PySem.EqMixed.ne_str_bool (zI I q (by simp))
    | int j=>obtain ⟨t',rfl⟩:=ry; exact PySem.EqMixed.ne_str_int (zI I q (by simp))
    | str j=>obtain ⟨t',rfl⟩:=ry; exact ne_str (zI I q (congrArg not xA))
    | _=>exact absurd (show false = true from hs) Bool.false_ne_true
  | byt i =>
    obtain ⟨t,rfl⟩:=rx
    cases y with
    | byt j=>obtain ⟨t',rfl⟩:=ry; exact PySem.W.ne_bytes (zI I q (congrArg not Wh))
    | _=>exact absurd (show false = true from hs) Bool.false_ne_true
  | _=>cases y <;> exact absurd (show false = true from hs) Bool.false_ne_true
theorem uV : OpR X (compareOp .Lt) (rI0 fun i j=>.bl (decide (i < j))):=zeR fun _ _ _ _ _ _ _ q=>lt_int q
theorem zjo : OpR X (compareOp .LtE) (rI0 fun i j=>.bl (decide (i ≤ j))):=zeR fun _ _ _ _ _ _ _ q=>le_int q
theorem W7 : OpR X (compareOp .Gt) (rI0 fun i j=>.bl (decide (j < i))):=zeR fun _ _ _ _ _ _ _ q=>gt_int q
theorem zd5 : OpR X (compareOp .GtE) (rI0 fun i j=>.bl (decide (j ≤ i))):=zeR fun _ _ _ _ _ _ _ q=>ge_int q
theorem XB : OpR X (compareOp .Is) (fun x y H Q=>y = .non∧Q (.bl (decide (x = .non))) H):=by
  intro pins s σ H x y v u Q I rx ry h
  obtain ⟨rfl,q⟩:=h
  cases ry
  refine is_none_gen (zI I q ?_)
  cases x <;> first
    | (cases rx; rfl)
    | (obtain ⟨t,rfl⟩:=rx; rfl)
theorem zab : OpR X (compareOp .IsNot) (fun x y H Q=>y = .non∧Q (.bl (!decide (x = .non))) H):=by
  intro pins s σ H x y v u Q I rx ry h
  obtain ⟨rfl,q⟩:=h
  cases ry
  refine isnot_none_gen (zI I q ?_)
  cases x <;> first
    | (cases rx; rfl)
    | (obtain ⟨t,rfl⟩:=rx; rfl)
theorem zD (b : Expr) {op : CmpOp} (h : op ≠ .In:=by decide) (h2 : op ≠ .NotIn:=by decide) : behindInMarks op b = false:=by
  have e1 : (op == CmpOp.In) = false:=by cases op <;> first | rfl | exact absurd rfl h
  have e2 : (op == CmpOp.NotIn) = false:=by cases op <;> first | rfl | exact absurd rfl h2
  cases b <;> simp [behindInMarks,e1,e2]
theorem U8 {op : CmpOp} {r : R2} (ho : OpR X (compareOp op) r) (ha : PE X a ta) (hb : PE X b tb) (hm : behindInMarks op b = false) : PE X (.Compare a [op] [b] pos) (tOp r ta tb):=by
  intro pins s σ H Q I h
  exact wpAny_Compare1 (binT ha hb I h fun v u s2 x y H2 I2 rx ry q=>ho pins s2 σ H2 x y v u Q I2 rx ry q) hm
def UE (t : TE) : TT:=fun σ H Q=>t σ H fun x H'=>∃ k,x = .bl k∧Q k H'
theorem Xk {op : CmpOp} {r : R2} (ho : OpR X (compareOp op) r) (ha : PE X a ta) (hb : PE X b tb) (hm : behindInMarks op b = false) : PT X (.Compare a [op] [b] pos) (UE (tOp r ta tb)):=by
  intro pins s σ H Q I h
  refine wpAny_isTrue_Compare1 (thn (ha pins s σ H _ I h) fun v s1 ⟨x,H1,I1,r1,q1⟩=>thn (hb pins s1 σ H1 _ I1 q1) fun u s2 ⟨y,H2,I2,r2,q2⟩ =>
    thn (ho pins s2 σ H2 x y v u _ I2 r1 r2 q2) fun c s3 ⟨z,H3,I3,r3,k,e,q3⟩=>?_) hm
  subst e
  cases r3
  exact wpAny_truthy_bool ⟨H3,I3,q3⟩
theorem Z5 : (sizeLine : Nat) < 2 ^ 63:=by rw [sizeLine_eq]; decide
theorem Yy : OpR X (binaryOp .Add) (fun x y H Q=>∃ i j,x = .str i∧y = .str j∧i.length + j.length ≤ sizeLine∧Q (.str (i ++ j)) H):=by
  intro pins s σ H x y v u Q I rx ry h
  obtain ⟨i,j,rfl,rfl,hz,q⟩:=h
  obtain ⟨t,rfl⟩:=rx
  obtain ⟨t',rfl⟩:=ry
  exact add_str (fun t' tk=>⟨.str (i ++ j),H,I.tok _,⟨_,rfl⟩,q⟩) hz
theorem Yo {x : V} {us : List Value} (r : Vals [x] us) : ∃ u,us = [u]∧RelV x u:=by
  cases r with
  | cons r1 r2=>cases r2; exact ⟨_,rfl,r1⟩
theorem zcb {x y : V} {us : List Value} (r : Vals [x,y] us) : ∃ u w',us = [u,w']∧RelV x u∧RelV y w':=by
  cases r with
  | cons r1 r2 =>
    cases r2 with
    | cons r3 r4=>cases r4; exact ⟨_,_,rfl,r1,r3⟩
theorem VO : xU X (.builtin "abs") (fun xs H Q=>∃ i,xs = [.int i]∧Q (.int (if i < 0 then -i else i)) H):=by
  intro pins s σ H xs us Q I r h
  obtain ⟨i,rfl,q⟩:=h
  obtain ⟨u,rfl,t,rfl⟩:=Yo r
  exact call_abs_int fun u tk=>⟨.int (if i < 0 then -i else i),H,I.tok _,⟨_,rfl⟩,q⟩
theorem Wo (hc : X.calm = true) : xU X (.builtin "max") (fun xs H Q=>∃ i j,xs = [.int i,.int j]∧Q (.int (if j > i then j else i)) H):=by
  intro pins s σ H xs us Q I r h
  obtain ⟨i,j,rfl,q⟩:=h
  obtain ⟨u,w',rfl,⟨t,rfl⟩,⟨t',rfl⟩⟩:=zcb r
  refine max_two_ints (I.ok.hd hc) fun h' tk k=>⟨_,H,I.kept k,?_,q⟩
  by_cases hj : j > i
  · rw [if_pos hj,if_pos hj]; exact ⟨_,rfl⟩
  · rw [if_neg hj,if_neg hj]; exact ⟨_,rfl⟩
theorem Zf (hc : X.calm = true) : xU X (.builtin "min") (fun xs H Q=>∃ i j,xs = [.int i,.int j]∧Q (.int (if j < i then j else i)) H):=by
  intro pins s σ H xs us Q I r h
  obtain ⟨i,j,rfl,q⟩:=h
  obtain ⟨u,w',rfl,⟨t,rfl⟩,⟨t',rfl⟩⟩:=zcb r
  refine min_two_ints (I.ok.hd hc) fun h' tk k=>⟨_,H,I.kept k,?_,q⟩
  by_cases hj : j < i
  · rw [if_pos hj,if_pos hj]; exact ⟨_,rfl⟩
  · rw [if_neg hj,if_neg hj]; exact ⟨_,rfl⟩
theorem Zg : xU X (.type "int") (fun xs H Q=>(∃ i,xs = [.int i]∧Q (.int i) H)∨∃ k,xs = [.bl k]∧Q (.int (if k then 1 else 0)) H):=by
  intro pins s σ H xs us Q I r h
  rcases h with ⟨i,rfl,q⟩ | ⟨k,rfl,q⟩
  · obtain ⟨u,rfl,t,rfl⟩:=Yo r
    exact call_int_int ⟨.int i,H,I,⟨_,rfl⟩,q⟩
  · obtain ⟨u,rfl,r1⟩:=Yo r
    cases r1
    exact call_int_bool ⟨.int (if k then 1 else 0),H,I.tok _,⟨_,rfl⟩,q⟩
theorem wA : xU X (.type "str") (fun xs H Q=>∃ i,xs = [.int i]∧i.natAbs.log2 < 1920∧Q (.str (toString i)) H):=by
  intro pins s σ H xs us Q I r h
  obtain ⟨i,rfl,hz,q⟩:=h
  obtain ⟨u,rfl,t,rfl⟩:=Yo r
  exact PySem.P.str_of_int hz ⟨.str _,H,I.tok _,⟨_,rfl⟩,q⟩
end
end L2
namespace L2
open PySem PySem.Spec PyProof.Rows
structure ObjM (h : Heap) (x dx C : Addr) (mA : Str→Option Value) : Prop where
  obj : h.get? x = some (PySem.W.instObj C dx)
  ns : h.Ns1 dx mA
  ne : dx ≠ x
theorem u6 {h : Heap} {dx : Addr} {mA : Str→Option Value} (n : h.Ns1 dx mA) : ∃ od,h.get? dx = some od∧∀ name,PySem.W.lookIn name od = some (mA name):=by
  obtain ⟨o,es,ep,ho,hd,hk,_,hm⟩:=n
  refine ⟨o,ho,fun name=>?_⟩
  have e:=hm name
  unfold nsFind findBy at e
  rw [← Array.find?_toList] at e
  unfold PySem.W.lookIn
  rw [hd]
  dsimp only
  split
  · rename_i y q
    rw [q] at e
    exact congrArg some e
  · rename_i q
    rw [q] at e
    have a : es.toList.any (·.refKey) = false:=by
      rw [List.any_eq_false]
      intro y hy
      obtain ⟨z,t,hkey⟩:=hk y (Array.mem_toList_iff.mp hy)
      simp [DictEntry.refKey,hkey]
    have a' : ¬ es.toList.any (·.refKey) = true:=by rw [a]; exact Bool.false_ne_true
    rw [if_neg a']
    exact congrArg some e
theorem ObjM.look {h : Heap} {x dx C : Addr} {mA : Str→Option Value} (I : ObjM h x dx C mA) : ∃ od,PySem.W.InstAt h x (PySem.W.instObj C dx) C (some od)∧∀ name,PySem.W.lookIn name od = some (mA name) :=
  let ⟨od,ho,hl⟩:=u6 I.ns
  ⟨od,⟨I.obj,rfl,rfl,ho⟩,hl⟩
section
variable {prog : Program} {w : World} {A : Around} {E : Value→Shared→Prop} {s : Shared} {K : PySem.W.Frag} {x dx C f : Addr} {mA : Str→Option Value} {name : Str} {v : Value}
theorem zas {expr : Bool} {Q : Value→Shared→Prop} (X : K.In s.heap) (I : ObjM s.heap x dx C mA) (hg : PySem.W.plainGet K C name = true) (hh : PySem.W.hasDictIn K C = true)
    (ha : PySem.W.findIn K (.ref C) name = some none) (hv : mA name = some v) (hv' : PySem.W.handedIn v = true) (h : Q v { s with toks:=s.toks + 1 }) :
    wpAny (model prog w) A (getAttr (.ref x) name expr) Q E s:=by
  obtain ⟨od,J,hl⟩:=I.look
  exact PySem.W.get_value X J (PySem.W.plainGet_of hg).1 (PySem.W.findObj_own hh ha rfl (by rw [hl,hv])) hv' h
theorem VE {pl : Sem Bool} {Q : Value × List Value→Shared→Prop} (X : K.In s.heap) (I : ObjM s.heap x dx C mA) (hg : PySem.W.plainGet K C name = true)
    (hf : PySem.W.findIn K (.ref C) name = some (some (.ref f))) (ht : PySem.W.isFn K (.ref f) = true) (hv : mA name = none) (h : Q (.ref f,[.ref x]) s) :
    wpAny (model prog w) A (getMethod (.ref x) name pl) Q E s:=by
  obtain ⟨od,J,hl⟩:=I.look
  exact PySem.W.method_fn X J (PySem.W.plainGet_of hg).1 (PySem.W.plainGet_of hg).2 hf (beq_iff_eq.mp ht) (by show (PySem.W.lookIn name od).map (·.isSome) = some false; rw [hl,hv]; rfl) h
theorem UM {ns : List Str} {Q : Unit→Shared→Prop} (X : K.In s.heap) (I : ObjM s.heap x dx C mA)
    (hs : PySem.W.findIn K (.ref C) "__setattr__" = some (some (.builtin "object.__setattr__"))) (hp : PySem.W.plainOver K C = true) (ht : PySem.W.takerIn K C name = some none) (hh : PySem.W.hasDictIn K C = true)
    (hw : PySem.Within mA ns) (hsz : ns.length ≤ sizeLine)
    (h : ∀ h',ObjM h' x dx C (fun y=>if y = name then some v else mA y)→Heap.SameBut dx s.heap h'→Q () { s with heap:=h',toks:=s.toks + 2 }) :
    wpAny (model prog w) A (setAttr (.ref x) name v) Q E s:=by
  obtain ⟨od,J,hl⟩:=I.look
  refine PySem.W.set_plain X J hs (PySem.W.osa_open (s:={ s with toks:=s.toks + 1 }) (r:=none) X J hp ht fun b=>?_)
  obtain ⟨cd,hc,hd'⟩:=PySem.W.any_some hh
  have hx : s.heap.get? x = some ⟨.ref C,some dx,.plain,#[]⟩:=I.obj
  refine wpAny_bind (wpAny_pure (wpAny_bind (wpAny_bind (wpAny_loadPart hx (wpAny_bind (PySem.W.Looks.here (s:={ s with toks:=s.toks + 1 }) (PySem.W.looks_clsIn X hc) ?_))))))
  rw [hd']
  refine wpAny_pure (a:=some dx) (wpAny_bind (wpAny_pure (wpAny_bind ?_)))
  refine wpAny_nsSet1 (s:={ s with toks:=s.toks + 1 }) I.ns fun h' hn2 hs2=>?_
  obtain ⟨oD,esD,epD,hoD,hdD,hcD⟩:=hn2.count (PySem.Within.cons name v hw)
  refine wpAny_bind (wpAny_lookBehind hoD (by rw [hdD]; exact pastItsLine_dict (Nat.le_trans hcD (by rw [List.length_cons]; omega))) ?_)
  exact wpAny_pure (h _ ⟨(hs2.2 _ (Ne.symm I.ne)).trans I.obj,hn2,I.ne⟩ hs2)
theorem Vq {R : Result→Shared→Prop} {vs : List Value} {kw : List (Str × Value)} (X : K.In s.heap) (hm : PySem.W.makesIn K C = true)
    (hi : PySem.W.findIn K (.ref C) "__init__" = some (some (.ref f))) (hf : PySem.W.typeIn K (.ref f) = some (.type "function"))
    (h : codeAny (model prog w) (A.under (.builtin "type.__call__" ⟨.ref C :: vs,kw⟩)) (.call (.ref f) ⟨.ref (s.heap.objs.size + 1) :: vs,kw⟩) (PySem.W.InitBack (s.heap.objs.size + 1) R)
      { s with heap:=(s.heap.push PySem.W.emptyDict).push (PySem.W.instObj C s.heap.objs.size) }) :
    codeAny (model prog w) A (.call (.ref C) ⟨vs,kw⟩) R s:=by
  obtain ⟨hh,g,d,t,os⟩:=s
  exact PySem.W.make_core (PySem.W.makes_of X hm) (PySem.W.looks_findIn X hi) (fun self=>PySem.W.bind_fn X self hf) (.inl rfl) h
end
def Zk (f : Str) (v : V) : List (Str × V)→List (Str × V)
  | []=>[(f,v)]
  | (g,x) :: r=>if g = f then (g,v) :: r else (g,x) :: Zk f v r
theorem vk (f g : Str) (v : V) : ∀ fs : List (Str × V),(Zk f v fs).lookup g = if g = f then some v else fs.lookup g
  | []=>by
    show List.lookup g [(f,v)] = _
    by_cases h : g = f
    · have hb : (g == f) = true:=beq_iff_eq.mpr h
      simp only [List.lookup,hb,if_pos h]
    · have hb : (g == f) = false:=beq_eq_false_iff_ne.mpr h
      simp only [List.lookup,hb,if_neg h]
  | (k,x) :: r=>by
    have ih:=vk f g v r
    rw [show Zk f v ((k,x) :: r) = (if k = f then (k,v) :: r else (k,x) :: Zk f v r) from rfl]
    by_cases hk : k = f
    · rw [if_pos hk]
      by_cases h : g = k
      · have hb : (g == k) = true:=beq_iff_eq.mpr h
        simp only [List.lookup,hb,if_pos (h.trans hk)]
      · have hb : (g == k) = false:=beq_eq_false_iff_ne.mpr h
        simp only [List.lookup,hb,if_neg (fun e : g = f=>h (e.trans hk.symm))]
    · rw [if_neg hk]
      by_cases h : g = k
      · have hb : (g == k) = true:=beq_iff_eq.mpr h
        simp only [List.lookup,hb,if_neg (fun e : g = f=>hk (h.symm.trans e))]
      · have hb : (g == k) = false:=beq_eq_false_iff_ne.mpr h
        simp only [List.lookup,hb]
        exact ih
theorem vo (f : Str) (v : V) : ∀ fs : List (Str × V),f ∈ (Zk f v fs).map (·.1)∧∀ g,g ∈ fs.map (·.1)→g ∈ (Zk f v fs).map (·.1)
  | []=>⟨by simp [Zk],fun g h=>by simp at h⟩
  | (k,x) :: r=>by
    obtain ⟨i1,i2⟩:=vo f v r
    rw [show Zk f v ((k,x) :: r) = (if k = f then (k,v) :: r else (k,x) :: Zk f v r) from rfl]
    by_cases hk : k = f
    · rw [if_pos hk]
      subst hk
      exact ⟨by simp,fun g h=>by simpa using h⟩
    · rw [if_neg hk]
      refine ⟨?_,fun g h=>?_⟩
      · rw [List.map_cons]
        exact List.mem_cons_of_mem _ i1
      · rw [List.map_cons] at h ⊢
        rcases List.mem_cons.mp h with e | e
        · exact List.mem_cons.mpr (.inl e)
        · exact List.mem_cons_of_mem _ (i2 g e)
theorem vm (f : Str) (v : V) : ∀ fs : List (Str × V),(Zk f v fs).length ≤ fs.length + 1
  | []=>by simp [Zk]
  | (k,x) :: r=>by
    have ih:=vm f v r
    rw [show Zk f v ((k,x) :: r) = (if k = f then (k,v) :: r else (k,x) :: Zk f v r) from rfl]
    by_cases hk : k = f
    · rw [if_pos hk,List.length_cons,List.length_cons]; omega
    · rw [if_neg hk,List.length_cons,List.length_cons]; omega
theorem RelO.some_of {v : V} {o : Option Value} (r : RelO (some v) o) : ∃ u,o = some u∧RelV v u:=by
  cases o with
  | none=>exact (show False from r).elim
  | some u=>exact ⟨u,rfl,r⟩
theorem RelO.none_of {o : Option Value} (r : RelO none o) : o = none:=by
  cases o with
  | none=>rfl
  | some u=>exact (show False from r).elim
theorem Za {v : V} {u : Value} (r : RelV v u) : PySem.W.handedIn u = true:=by
  cases v with
  | non=>cases (show u = Value.none from r); rfl
  | bl b=>cases (show u = Value.bool b from r); rfl
  | int i=>obtain ⟨t,e⟩:=(show ∃ t,u = Value.int i t from r); cases e; rfl
  | str x=>obtain ⟨t,e⟩:=(show ∃ t,u = Value.str x t from r); cases e; rfl
  | byt b=>obtain ⟨t,e⟩:=(show ∃ t,u = Value.bytes b t from r); cases e; rfl
  | flt b=>obtain ⟨t,e⟩:=(show ∃ t,u = Value.float b t from r); cases e; rfl
  | ref a=>cases (show u = Value.ref a from r); rfl
  | ty n=>cases (show u = Value.type n from r); rfl
section
variable {P : Program} {w : World} {H H' : Hp} {h h' : Heap} {a C dx : Addr} {fs fs' : List (Str × V)}
theorem ua (hok : HOk P w H h) (e : H a = some (.ins C dx fs)) : ∃ mA,ObjM h a dx C mA∧(∀ f,RelO (fs.lookup f) (mA f))∧PySem.Within mA (fs.map (·.1))∧fs.length ≤ 1000∧H dx = some (.own a):=by
  obtain ⟨d,z,ne,ob,mA,n,r,q⟩:=(show ObjOk P w H h a (.ins C dx fs) from hok a _ e)
  exact ⟨mA,⟨ob,n,ne⟩,r,q,z,d⟩
end
structure Cls (K : PySem.W.Frag) (C : Addr) : Prop where
  pg : PySem.W.plainGet K C Str.empty = true
  hd : PySem.W.hasDictIn K C = true
  po : PySem.W.plainOver K C = true
  sa : PySem.W.findIn K (.ref C) "__setattr__" = some (some (.builtin "object.__setattr__"))
theorem Cls.get {K : PySem.W.Frag} {C : Addr} (c : Cls K C) (f : Str) : PySem.W.plainGet K C f = true:=c.pg
def NoAttr (K : PySem.W.Frag) (C : Addr) (f : Str) : Prop:=PySem.W.findIn K (.ref C) f = some none
theorem NoAttr.taker {K : PySem.W.Frag} {C : Addr} {f : Str} (n : NoAttr K C f) : PySem.W.takerIn K C f = some none:=by
  unfold PySem.W.takerIn
  rw [show PySem.W.findIn K (.ref C) f = some none from n]
  rfl
structure Meth (K : PySem.W.Frag) (C : Addr) (m : Str) (f : Addr) : Prop where
  at_ : PySem.W.findIn K (.ref C) m = some (some (.ref f))
  fn : PySem.W.isFn K (.ref f) = true
  kp : PySem.W.keepIn K (.ref f) = true
section
variable {X : Cx} {pins : List (Addr × Obj)} {σ : St} {H : Hp} {s : Shared} {a C dx : Addr} {fs : List (Str × V)} {f : Str} {v : V} {A : Around} {E : Value→Shared→Prop}
theorem YF {b : Bool} {Q : Value→Shared→Prop} (I : Inv X pins σ H s) (e : H a = some (.ins C dx fs)) (c : Cls X.K C) (n : NoAttr X.K C f) (l : fs.lookup f = some v)
    (h : ∀ u s',Inv X pins σ H s'→RelV v u→Q u s') : wpAny (model X.prog X.w) A (getAttr (.ref a) f b) Q E s:=by
  obtain ⟨mA,O,r,_,_,_⟩:=ua I.hok e
  obtain ⟨u,hu,ru⟩:=RelO.some_of (v:=v) (o:=mA f) (by rw [← l]; exact r f)
  exact zas I.kIn O (c.get f) c.hd n hu (Za ru) (h u _ (I.tok _) ru)
theorem xS {m : Str} {g : Addr} {pl : Sem Bool} {Q : Value × List Value→Shared→Prop} (I : Inv X pins σ H s) (e : H a = some (.ins C dx fs)) (c : Cls X.K C) (k : Meth X.K C m g) (l : fs.lookup m = none)
    (h : Q (.ref g,[.ref a]) s) : wpAny (model X.prog X.w) A (getMethod (.ref a) m pl) Q E s:=by
  obtain ⟨mA,O,r,_,_,_⟩:=ua I.hok e
  have hn : mA m = none:=RelO.none_of (by rw [← l]; exact r m)
  exact VE I.kIn O (c.get m) k.at_ k.fn hn h
theorem Ys {y : V} {u : Value} {Q : Unit→Shared→Prop} (I : Inv X pins σ H s) (e : H a = some (.ins C dx fs)) (c : Cls X.K C) (n : NoAttr X.K C f) (hl : fs.length < 1000) (ry : RelV y u)
    (h : ∀ s',Inv X pins σ (upd H a (.ins C dx (Zk f y fs))) s'→Q () s') : wpAny (model X.prog X.w) A (setAttr (.ref a) f u) Q E s:=by
  obtain ⟨mA,O,r,wi,_,ho⟩:=ua I.hok e
  have hz : (fs.map (·.1)).length ≤ sizeLine:=by rw [List.length_map,sizeLine_eq]; omega
  refine UM I.kIn O c.sa c.po n.taker c.hd wi hz fun h' O' sb=>h _ ?_
  have hd : ∃ o,h'.get? dx = some o:=let ⟨o,_,_,e',_⟩:=O'.ns; ⟨o,e'⟩
  refine I.write (x:=a) (e:=dx) (by rw [e]; exact True.intro) (.inr ho) (fun b q hb z=>(sb.2 b hb).trans z) hd ?_
  refine ⟨by rw [upd_ne O.ne]; exact ho,?_,O.ne,O'.obj,_,O'.ns,fun g=>?_,fun g hg=>?_⟩
  · have:=vm f y fs; omega
  · show RelO ((Zk f y fs).lookup g) (if g = f then some u else mA g)
    rw [vk]
    by_cases q : g = f
    · rw [if_pos q,if_pos q]; exact ry
    · rw [if_neg q,if_neg q]; exact r g
  · by_cases q : g = f
    · rw [q]; exact (vo f y fs).1
    · refine (vo f y fs).2 g (wi g fun z=>hg ?_)
      show (if g = f then some u else mA g) = none
      rw [if_neg q]; exact z
theorem Inv.made (I : Inv X pins σ H s) : Inv X pins σ (upd (upd H s.heap.objs.size (.own (s.heap.objs.size + 1))) (s.heap.objs.size + 1) (.ins C s.heap.objs.size []))
    { s with heap:=(s.heap.push PySem.W.emptyDict).push (PySem.W.instObj C s.heap.objs.size) }:=by
  have e1 : (s.heap.push PySem.W.emptyDict).get? s.heap.objs.size = some PySem.W.emptyDict:=Heap.get?_push_size s.heap rfl
  have e2 : ((s.heap.push PySem.W.emptyDict).push (PySem.W.instObj C s.heap.objs.size)).get? (s.heap.objs.size + 1) = some (PySem.W.instObj C s.heap.objs.size):=by
    have:=Heap.get?_push_size (s.heap.push PySem.W.emptyDict) (o:=PySem.W.instObj C s.heap.objs.size) rfl
    rwa [Heap.size_push] at this
  have e3 : (s.heap.push PySem.W.emptyDict).Ns s.heap.objs.size (fun _=>none):=⟨PySem.W.emptyDict,#[],_,e1,rfl,(fun e he=>absurd he (by simp)),fun _=>rfl⟩
  have I1:=I.laid (a:=s.heap.objs.size) (o:=.own (s.heap.objs.size + 1)) (h':=s.heap.push PySem.W.emptyDict) (t':=s.toks) (fun b u q=>Heap.get?_push_of_some _ q) (Nat.le_refl _) ⟨_,e1⟩
  refine I1.laid (a:=s.heap.objs.size + 1) (o:=.ins C s.heap.objs.size []) (t':=s.toks) (fun b u q=>Heap.get?_push_of_some _ q) (Nat.le_of_eq (Heap.size_push _ _)) ?_
  have ne : s.heap.objs.size ≠ s.heap.objs.size + 1:=Nat.ne_of_lt (Nat.lt_succ_self _)
  refine ⟨by rw [upd_ne ne,upd_same],Nat.zero_le _,ne,e2,fun _=>none,(Heap.Ns1.of_empty e3).at fun o q=>Heap.get?_push_of_some _ q,fun _=>True.intro,fun y hy=>absurd rfl hy⟩
theorem attr_of {prog : Program} {w : World} {env : Env} {e : Expr} {f : Str} {pos : Pos} {s : Shared} {Q : Value→Shared→Prop} (hb : attributeBase e f env (eval e env) = eval e env)
    (h : wpAny (model prog w) A (eval e env) (fun o s₁=>wpAny (model prog w) A (getAttr o f true) Q E s₁) E s) : wpAny (model prog w) A (eval (.Attribute e f pos) env) Q E s :=
  Attribute_any_ h (by rw [arm_eval_Attribute,hb])
end
def zjI (K : PySem.W.Frag) (ta : TE) (f : Str) : TE:=fun σ H Q=>ta σ H fun x H1=>∃ a C dx fs v,x = .ref a∧H1 a = some (.ins C dx fs)∧Cls K C∧NoAttr K C f∧fs.lookup f = some v∧Q v H1
def zo4 (K : PySem.W.Frag) (ta tv : TE) (f : Str) : TS:=fun D σ H=>tv σ H fun y H1=>ta σ H1 fun x H2=>∃ a C dx fs,x = .ref a∧H2 a = some (.ins C dx fs)∧Cls K C∧NoAttr K C f∧fs.length < 1000 ∧
  D.nx σ (upd H2 a (.ins C dx (Zk f y fs)))
section
variable {X : Cx} {o e value : Expr} {f : Str} {pos pos' tpos : Pos} {ta tv : TE}
theorem zdY (he : PE X e ta) (hb : attributeBase e f X.env (eval e X.env) = eval e X.env) : PE X (.Attribute e f pos) (zjI X.K ta f):=by
  intro pins s σ H Q I h
  refine attr_of hb (thn (he pins s σ H _ I h) fun u s1 ⟨x,H1,I1,rx,a,C,dx,fs,v,ex,ea,c,n,l,q⟩=>?_)
  subst ex
  obtain rfl : u = Value.ref a:=rx
  exact YF I1 ea c n l fun u' s2 I2 ru=>⟨v,H1,I2,ru,q⟩
theorem uN (ha : PE X o ta) (hv : PE X value tv) (hs : swapsWith value (some (.Attribute o f pos')) pos.line X.env = pure false) : PS X (.Assign [.Attribute o f pos'] value pos) (zo4 X.K ta tv f):=by
  intro pins s σ H D I h
  refine plainObj_wpAny_Assign_Attribute (thn (hv pins s σ H _ I h) fun u s1 ⟨y,H1,I1,ry,q⟩=>thn (ha pins s1 σ H1 _ I1 q) fun ov s2 ⟨x,H2,I2,rx,a,C,dx,fs,ex,ea,c,n,l,q2⟩=>?_) hs
  subst ex
  obtain rfl : ov = Value.ref a:=rx
  exact Ys I2 ea c n l ry fun s3 I3=>⟨σ,_,I3,q2⟩
theorem zan {pl : Sem Bool} {m : Str} {apos : Pos} {args : List Expr} {pins : List (Addr × Obj)} {s : Shared} {σ : St} {H : Hp} {Q : Value→Shared→Prop} {te : TE} (he : PE X e te) (I : Inv X pins σ H s)
    (h : te σ H fun x H1=>∃ a C dx fs g,x = .ref a∧H1 a = some (.ins C dx fs)∧Cls X.K C∧Meth X.K C m g∧fs.lookup m = none ∧
      ∀ s1,Inv X pins σ H1 s1→wpAny (model X.prog X.w) X.A (callWith pos (.ref g) [.ref a] (backTo pos (starEach args X.env)) (backToKw pos (keywordEach [] X.env))) Q X.xe s1)
    (ht : eval (.Call (.Attribute e m apos) args [] pos) X.env = (do
      let ov ← eval e X.env
      standAt apos.atName
      let (f,first) ← holding [ov] (getMethod ov m pl)
      callWith pos f first (backTo pos (starEach args X.env)) (backToKw pos (keywordEach [] X.env)))) :
    wpAny (model X.prog X.w) X.A (eval (.Call (.Attribute e m apos) args [] pos) X.env) Q X.xe s:=by
  refine PySem.W.methodCall_KW (pl:=pl) (thn (he pins s σ H _ I h) fun u s1 ⟨x,H1,I1,rx,a,C,dx,fs,g,ex,ea,c,k,l,q⟩=>?_) ht
  subst ex
  obtain rfl : u = Value.ref a:=rx
  exact xS I1 ea c k l (q s1 I1)
end
section
variable {X : Cx} {pins : List (Addr × Obj)} {σ : St} {H : Hp} {s : Shared} {A : Around} {E : Value→Shared→Prop} {Q : Value→Shared→Prop} {c : Value} {b : Bool}
inductive TyOf (K : PySem.W.Frag) (H : Hp) : V→Value→Prop where
  | non : TyOf K H .non (.type "NoneType")
  | bl (x : Bool) : TyOf K H (.bl x) (.type "bool")
  | int (i : Int) : TyOf K H (.int i) (.type "int")
  | str (x : Str) : TyOf K H (.str x) (.type "str")
  | flt (x : UInt64) : TyOf K H (.flt x) (.type "float")
  | lst {a : Addr} {xs : List V} (e : H a = some (.lst xs)) : TyOf K H (.ref a) (.type "list")
  | frz {a : Addr} {o : Obj} {xs : List V} (e : H a = some (.frz o (.lst xs))) : TyOf K H (.ref a) (.type "list")
  | tup {a : Addr} {xs : List V} (e : H a = some (.tup xs)) : TyOf K H (.ref a) (.type "tuple")
  | dK {a : Addr} {kvs : List (Key × V)} (e : H a = some (.dK kvs)) : TyOf K H (.ref a) (.type "dict")
  | dT {a : Addr} {kvs : List (List Key × V)} (e : H a = some (.dT kvs)) : TyOf K H (.ref a) (.type "dict")
  | ins {a C dx : Addr} {fs : List (Str × V)} (e : H a = some (.ins C dx fs)) (cl : Cls K C) (ha : PySem.W.findIn K (.ref C) "__class__" = some (some (.builtin "object.__class__")))
      (hn : PySem.W.specialIn K (.builtin "object.__class__") "__get__" = some (some (.builtin "getset_descriptor.__get__"))) (htk : PySem.W.takesIn K (.builtin "object.__class__") = some true)
      (hm : PySem.W.mroIn K C (.type "object") = some true) : TyOf K H (.ref a) (.ref C)
theorem XZ {x : V} {u t : Value} (I : Inv X pins σ H s) (rx : RelV x u) (ty : TyOf X.K H x t) (e : PySem.W.kitOne X.K t c = some b) (h : ∀ tk,Q (.bool b) { s with toks:=tk }) :
    wpAny (model X.prog X.w) A (call (.builtin "isinstance") [u,c]) Q E s:=by
  cases ty with
  | non=>cases (show u = Value.none from rx); exact PySem.W.kia_one PySem.W.kitx_none I.kIn True.intro e (fun z=>nomatch z) h
  | bl y=>cases (show u = Value.bool y from rx); exact PySem.W.kia_one PySem.W.kitx_bool I.kIn True.intro e (fun z=>nomatch z) h
  | int i=>obtain ⟨t,q⟩:=(show ∃ t,u = Value.int i t from rx); cases q; exact PySem.W.kia_one PySem.W.kitx_int I.kIn True.intro e (fun z=>nomatch z) h
  | str y=>obtain ⟨t,q⟩:=(show ∃ t,u = Value.str y t from rx); cases q; exact PySem.W.kia_one PySem.W.kitx_str I.kIn True.intro e (fun z=>nomatch z) h
  | flt y=>obtain ⟨t,q⟩:=(show ∃ t,u = Value.float y t from rx); cases q; exact PySem.W.kia_one PySem.W.kitx_float I.kIn True.intro e (fun z=>nomatch z) h
  | @lst a xs ea =>
    cases (show u = Value.ref a from rx)
    obtain ⟨_,_,n,_,h1⟩:=(show ObjOk X.prog X.w H s.heap a (.lst xs) from I.hok a _ ea)
    exact PySem.W.kia_one PySem.W.kitx_list I.kIn ⟨_,h1,rfl⟩ e (fun z=>nomatch z) h
  | @frz a ob xs ea =>
    cases (show u = Value.ref a from rx)
    obtain ⟨_,_,_,n,_,h1⟩:=(show ObjOk X.prog X.w H s.heap a (.frz ob (.lst xs)) from I.hok a _ ea)
    exact PySem.W.kia_one PySem.W.kitx_list I.kIn ⟨_,h1,rfl⟩ e (fun z=>nomatch z) h
  | @tup a xs ea =>
    cases (show u = Value.ref a from rx)
    obtain ⟨_,_,_,p⟩:=(show ObjOk X.prog X.w H s.heap a (.tup xs) from I.hok a _ ea)
    obtain ⟨o,h1,h2,_⟩:=p
    exact PySem.W.kia_one PySem.W.kitx_tuple I.kIn ⟨o,h1,h2⟩ e (fun z=>nomatch z) h
  | @dK a kvs ea =>
    cases (show u = Value.ref a from rx)
    obtain ⟨_,_,vs,_,p⟩:=(show ObjOk X.prog X.w H s.heap a (.dK kvs) from I.hok a _ ea)
    obtain ⟨o,es,ep,h1,h2,_⟩:=p
    exact PySem.W.kia_one PySem.W.kitx_dict I.kIn ⟨o,h1,h2.1⟩ e (fun z=>nomatch z) h
  | @dT a kvs ea =>
    cases (show u = Value.ref a from rx)
    obtain ⟨_,_,xs,_,o,es,ep,h1,h2,_⟩:=(show ObjOk X.prog X.w H s.heap a (.dT kvs) from I.hok a _ ea)
    exact PySem.W.kia_one PySem.W.kitx_dict I.kIn ⟨o,h1,h2.1⟩ e (fun z=>nomatch z) h
  | @ins a C dx fs ea cl ha hn htk hm =>
    cases (show u = Value.ref a from rx)
    obtain ⟨mA,O,_⟩:=ua I.hok ea
    obtain ⟨od,J,_⟩:=O.look
    exact PySem.W.kia_one (PySem.W.kitx_own (cl.get _) cl.hd ha hn htk hm) I.kIn J e (fun z=>nomatch z) h
end
end L2
namespace L2
open PySem PySem.Spec PyProof.Rows
structure Room (k : Nat) (A : Around) : Prop where
  hd : A.handled = none
  dp : A.depth + 3 * k + 5 < recursionLimit
  un : A.units + 16 * k + 200 < cLine
theorem Room.mono {j k : Nat} {A : Around} (r : Room k A) (h : j ≤ k) : Room j A:=⟨r.hd,by have:=r.dp; omega,by have:=r.un; omega⟩
theorem Room.deeper {k : Nat} {A : Around} (r : Room (k + 1) A) (env : Env) : Room k (A.deeper env) :=
  ⟨r.hd,by have:=r.dp; show A.depth + 1 + 3 * k + 5 < _; omega,by have:=r.un; show A.units + 3 + 16 * k + 200 < _; omega⟩
theorem YE {A : Around} {C : Addr} {us : List Value} {kw : List (Str × Value)} : (A.under (.builtin "type.__call__" ⟨.ref C :: us,kw⟩)).depth = A.depth + 1:=by
  first | rfl | simp [Around.under,Code.weight,Code.isCreation,Code.isGuard,Code.isCaller,Code.frames,Code.isFrame,guardIds]
theorem YD {A : Around} {C : Addr} {us : List Value} {kw : List (Str × Value)} : (A.under (.builtin "type.__call__" ⟨.ref C :: us,kw⟩)).units = A.units + 1:=by
  first | rfl | simp [Around.under,Code.cUnits,Code.frames,Code.isFrame]
theorem Room.make {k : Nat} {A : Around} (r : Room (k + 1) A) (C : Addr) (us : List Value) (kw : List (Str × Value)) : Room k (A.under (.builtin "type.__call__" ⟨.ref C :: us,kw⟩)) :=
  ⟨r.hd,by have:=r.dp; rw [YE]; omega,by have:=r.un; rw [YD]; omega⟩
theorem Room.depth {k : Nat} {A : Around} (r : Room k A) : A.depth < recursionLimit:=by have:=r.dp; omega
def YZ : TA:=fun _ H Q=>Q [] H
def xv (ta : TE) (tr : TA) : TA:=fun σ H Q=>ta σ H fun x H1=>tr σ H1 fun xs H2=>Q (x :: xs) H2
section
variable {X : Cx} {e : Expr} {es : List Expr} {te : TE} {t : TA} {pos : Pos}
theorem xq : PA X [] YZ:=fun _ _ _ _ H Q I h=>Calls.spliced_nil ⟨[],H,I,.nil,h⟩
theorem xx (ha : PE X e te) (hr : PA X es t) (hs : starEach (e :: es) X.env = (false,eval e X.env) :: starEach es X.env:=by rfl) : PA X (e :: es) (xv te t):=by
  intro pos pins s σ H Q I h
  rw [hs]
  show wpAny _ _ (spliced ((false,eval e X.env) :: backTo pos (starEach es X.env))) _ _ s
  refine Calls.spliced_cons (thn (ha pins s σ H _ I h) fun u s1 ⟨x,H1,I1,r1,q1⟩=>?_)
  exact thn (hr pos pins s1 σ H1 _ I1 q1) fun us s2 ⟨xs,H2,I2,r2,q2⟩=>⟨x :: xs,H2,I2,.cons r1 r2,q2⟩
def zjC (t : TA) : TE:=fun σ H Q=>t σ H fun xs H1=>xs.length ≤ sizeLine∧∀ p,H1 p = none→Q (.ref p) (upd H1 p (.tup xs))
def zaK (t : TA) : TE:=fun σ H Q=>t σ H fun xs H1=>xs.length ≤ sizeLine∧∀ p,H1 p = none→Q (.ref p) (upd H1 p (.lst xs))
theorem zdT {x1} (h : PA X es t) : PE X (.Tuple es x1 pos) (zjC t):=by
  intro pins s σ H Q I hq
  refine wpAny_Tuple_spliced (thn (h pos pins s σ H _ I hq) fun us s1 ⟨xs,H1,I1,r,z,q⟩=>⟨by rw [← r.length]; exact z,?_⟩)
  have hf : H1 s1.heap.objs.size = none:=I1.hok.fresh (Nat.le_refl _)
  refine ⟨.ref s1.heap.objs.size,upd H1 s1.heap.objs.size (.tup xs),I1.laid (t':=s1.toks) (fun b u e=>Heap.get?_push_of_some _ e) (Nat.le_refl _) ?_,rfl,q _ hf⟩
  exact ⟨z,us,r,⟨_,Heap.get?_push_size _ rfl,rfl,_,rfl⟩⟩
theorem Xw (h : PA X es t) : PE X (.List es pos) (zaK t):=by
  intro pins s σ H Q I hq
  refine wpAny_List_spliced (thn (h pos pins s σ H _ I hq) fun us s1 ⟨xs,H1,I1,r,z,q⟩=>⟨by rw [← r.length]; exact z,?_⟩)
  have hf : H1 s1.heap.objs.size = none:=I1.hok.fresh (Nat.le_refl _)
  refine ⟨.ref s1.heap.objs.size,upd H1 s1.heap.objs.size (.lst xs),I1.laid (t':=s1.toks) (fun b u e=>Heap.get?_push_of_some _ e) (Nat.le_refl _) ?_,rfl,q _ hf⟩
  exact ⟨z,us,0,r,Heap.get?_push_size _ rfl⟩
end
abbrev Sp:=List V→Hp→VK→XK→Prop
abbrev CXT:=List Env→Hp→Shared→XK→Value→Shared→Prop
structure Env0 (P : Program) (w : World) (K : PySem.W.Frag) (mg : Str→Option Value) (base : Heap) (A : Around) (outer : List Env) (s : Shared) (H : Hp) : Prop where
  frames : A.frames = some outer
  mod : Mod K mg base
  bs : ∀ b o,base.get? b = some o→s.heap.get? b = some o∧H b = none
  bsz : base.objs.size ≤ s.heap.objs.size
  funs : s.heap.FunFrames base outer
  frf : ∀ b ∈ frs outer,H b = none
  hok : HOk P w H s.heap
  bare : AllBare s.gens
def CE (outer : List Env) (P : Program) (w : World) (H : Hp) (s : Shared) (Q : VK) (u : Value) (s' : Shared) : Prop :=
  ∃ v H',s'.os = s.os∧AllBare s'.gens∧Un (frs outer) [] H H' s.heap s'.heap∧HOk P w H' s'.heap∧RelV v u∧Q v H'
def CR (CX : CXT) (outer : List Env) (P : Program) (w : World) (H : Hp) (s : Shared) (Q : VK) (E : XK) (r : Result) (s' : Shared) : Prop :=
  match r with
  | .ok (.ret u)=>CE outer P w H s Q u s'
  | .ok _=>False
  | .error e=>CX outer H s E e s'
structure FnOk (P : Program) (w : World) (K : PySem.W.Frag) (mg : Str→Option Value) (base : Heap) (CX : CXT) (k : Nat) (f : Addr) (fd : FuncData) (ps : List Str) (sp : Sp) : Prop where
  len : ∀ vs H Q E,sp vs H Q E→vs.length = ps.length
  run : ∀ (A : Around) (outer : List Env) (s : Shared) (H : Hp) (args : Args) (us : List Value) (vs : List V) (Q : VK) (E : XK),Room k A→Env0 P w K mg base A outer s H→BindsTo s fd args (ps.zip us)→Vals vs us→sp vs H Q E →
    codeAny (model P w) A (.call (.ref f) args) (CR CX outer P w H s Q E) s
theorem FnOk.imp {P : Program} {w : World} {K : PySem.W.Frag} {mg : Str→Option Value} {base : Heap} {CX : CXT} {k : Nat} {f : Addr} {fd : FuncData} {ps : List Str} {sp sp' : Sp} (F : FnOk P w K mg base CX k f fd ps sp)
    (h : ∀ vs H Q E,sp' vs H Q E→sp vs H Q E) : FnOk P w K mg base CX k f fd ps sp' :=
  ⟨fun vs H Q E q=>F.len vs H Q E (h _ _ _ _ q),fun A outer s H args us vs Q E hr he hb hv hs=>F.run A outer s H args us vs Q E hr he hb hv (h _ _ _ _ hs)⟩
theorem Env0.make {P : Program} {w : World} {K : PySem.W.Frag} {mg : Str→Option Value} {base : Heap} {A : Around} {outer : List Env} {s : Shared} {H : Hp} (e : Env0 P w K mg base A outer s H) (C : Addr) (us : List Value) (kw : List (Str × Value)) :
    Env0 P w K mg base (A.under (.builtin "type.__call__" ⟨.ref C :: us,kw⟩)) outer s H:=⟨by first | exact e.frames | (simpa [Around.under,Code.envs,Code.isFrame,pushEnvs] using e.frames),e.mod,e.bs,e.bsz,e.funs,e.frf,e.hok,e.bare⟩
section
variable {X : Cx} {pins : List (Addr × Obj)} {σ : St} {H : Hp} {s s' : Shared}
theorem Inv.env0 (I : Inv X pins σ H s) : Env0 X.prog X.w X.K X.mg X.base X.A X.stack s H :=
  ⟨I.ok.frames,I.ok.mod,I.bs,Nat.le_trans I.ok.bsz I.sz,I.stack,I.stkFree,I.hok,I.bare⟩
theorem Inv.after {Q : VK} {u : Value} (I : Inv X pins σ H s) (h : CE X.stack X.prog X.w H s Q u s') : EP X pins σ Q u s':=by
  obtain ⟨v,H',os,bare,un,hok,r,q⟩:=h
  obtain ⟨hh,g,d,t,os'⟩:=s'
  obtain rfl : os' = s.os:=os
  exact ⟨v,H',I.call (h':=hh) (g':=g) (d':=d) (t':=t) (ch:=[]) un hok bare (fun b z=>absurd z (by simp)),r,q⟩
end
def uy (sp : Sp) (dvs : List V) (E : XK) (t : TA) : TE:=fun σ H Q=>t σ H fun vs H1=>sp (vs ++ dvs) H1 Q E
def zcg (C : Addr) (m : Str) (sp : Sp) (dvs : List V) (E : XK) (ta : TE) (t : TA) : TE:=fun σ H Q=>ta σ H fun x H1=>∃ a dx fs,x = .ref a∧H1 a = some (.ins C dx fs)∧fs.lookup m = none ∧
  t σ H1 fun vs H2=>sp (x :: (vs ++ dvs)) H2 Q E
def Y1 (C : Addr) (sp : Sp) (dvs : List V) (E : XK) (t : TA) : TE:=fun σ H Q=>t σ H fun vs H1=>∀ x dx,H1 x = none→H1 dx = none→dx ≠ x →
  sp (.ref x :: (vs ++ dvs)) (upd (upd H1 dx (.own x)) x (.ins C dx [])) (fun v H2=>v = .non∧Q (.ref x) H2) E
def Binds (K : PySem.W.Frag) (fd : FuncData) (ps : List Str) (ds : List Value) : Prop :=
  ∀ (s : Shared) (us : List Value),K.In s.heap→(us ++ ds).length = ps.length→BindsTo s fd ⟨us,[]⟩ (ps.zip (us ++ ds))
theorem Binds.all {K : PySem.W.Frag} {fd : FuncData} {ps : List Str} (h : ∀ us : List Value,us.length = ps.length→bindArgs fd ⟨us,[]⟩ = pure (ps.zip us)) : Binds K fd ps []:=fun s us _ hl=>by
  rw [List.append_nil] at hl ⊢
  exact .of_eq (h us hl)
def wB (CX : CXT) (X : Cx) (E : XK) : Prop:=∀ (pins : List (Addr × Obj)) (σ : St) (H : Hp) (s : Shared) (e : Value) (s' : Shared),Inv X pins σ H s→CX X.stack H s E e s'→X.xe e s'
section
variable {X : Cx} {CX : CXT} {k : Nat} {f C : Addr} {fd : FuncData} {ps : List Str} {sp : Sp} {dvs : List V} {ds : List Value} {E : XK} {x m : Str} {p pos apos : Pos} {e o : Expr} {es : List Expr} {ta : TE} {t : TA}
theorem ZR {pins : List (Addr × Obj)} {σ : St} {H : Hp} {s : Shared} {Q : VK} {us : List Value} {vs : List V} (F : FnOk X.prog X.w X.K X.mg X.base CX k f fd ps sp) (hr : Room k X.A) (hb : Binds X.K fd ps ds) (hd : Vals dvs ds) (hx : wB CX X E)
    (I : Inv X pins σ H s) (r : Vals vs us) (h : sp (vs ++ dvs) H Q E) : wpAny (model X.prog X.w) X.A (call (.ref f) us) (EP X pins σ Q) X.xe s:=by
  have r2 : Vals (vs ++ dvs) (us ++ ds):=r.append hd
  have hl : (us ++ ds).length = ps.length:=by rw [← r2.length]; exact F.len _ _ _ _ h
  refine wpAny_call (codeAny_mono (F.run X.A X.stack s H ⟨us,[]⟩ (us ++ ds) (vs ++ dvs) Q E hr I.env0 (hb s us I.kIn hl) r2 h) fun r s' hq=>?_)
  cases r with
  | error e=>exact hx pins σ H s e s' I hq
  | ok fl =>
    cases fl with
    | ret u=>exact I.after hq
    | next=>exact False.elim hq
    | brk=>exact False.elim hq
    | cont=>exact False.elim hq
theorem U9 (F : FnOk X.prog X.w X.K X.mg X.base CX k f fd ps sp) (hr : Room k X.A) (hg : Gl X x) (hm : X.mg x = some (.ref f)) (hk : PySem.W.keepIn X.K (.ref f) = true) (hb : Binds X.K fd ps ds) (hd : Vals dvs ds) (hx : wB CX X E)
    (ha : PA X (e :: es) t) (hdb : (x == ("__debug__" : Str)) = false:=by decide) (he : starEach (e :: es) X.env = (false,eval e X.env) :: starEach es X.env:=by rfl) (hpl : (backTo pos (starEach es X.env)).any (·.1) = false:=by rfl) :
    PE X (.Call (.Name x p) (e :: es) [] pos) (uy sp dvs E t):=by
  intro pins s σ H Q I h
  refine wpAny_Call_Name_kw (ld_glob I hg hm ?_ hdb)
  refine PySem.W.callWith_K (h₀:=X.base) I.ok.mod.kin hk (thn (ha pos pins s σ H _ I h) fun us s1 ⟨vs,H1,I1,r,q⟩=>⟨I1.kIn,?_⟩) he hpl
  exact ZR F hr hb hd hx I1 r q
theorem U5 {pl : Sem Bool} (he : PE X o ta) (c : Cls X.K C) (hm : Meth X.K C m f) (F : FnOk X.prog X.w X.K X.mg X.base CX k f fd ps sp) (hr : Room k X.A) (hb : Binds X.K fd ps ds) (hd : Vals dvs ds) (hx : wB CX X E) (ha : PA X (e :: es) t)
    (hst : starEach (e :: es) X.env = (false,eval e X.env) :: starEach es X.env:=by rfl) (hpl : (backTo pos (starEach es X.env)).any (·.1) = false:=by rfl)
    (ht : eval (.Call (.Attribute o m apos) (e :: es) [] pos) X.env = (do
      let ov ← eval o X.env
      standAt apos.atName
      let (f,first) ← holding [ov] (getMethod ov m pl)
      callWith pos f first (backTo pos (starEach (e :: es) X.env)) (backToKw pos (keywordEach [] X.env))):=by rfl) :
    PE X (.Call (.Attribute o m apos) (e :: es) [] pos) (zcg C m sp dvs E ta t):=by
  intro pins s σ H Q I h
  refine PySem.W.methodCall_KW (pl:=pl) (thn (he pins s σ H _ I h) fun u s1 ⟨x,H1,I1,rx,a,dx,fs,ex,ea,l,q⟩=>?_) ht
  subst ex
  obtain rfl : u = Value.ref a:=rx
  refine xS I1 ea c hm l ?_
  refine PySem.W.callWith_K (first:=[.ref a]) (h₀:=X.base) I.ok.mod.kin hm.kp (thn (ha pos pins s1 σ H1 _ I1 q) fun us s2 ⟨vs,H2,I2,r,q2⟩=>⟨I2.kIn,?_⟩) hst hpl
  exact ZR (us:=.ref a :: us) (vs:=.ref a :: vs) F hr hb hd hx I2 (.cons rfl r) q2
structure Mk (K : PySem.W.Frag) (C f : Addr) : Prop where
  makes : PySem.W.makesIn K C = true
  init : PySem.W.findIn K (.ref C) "__init__" = some (some (.ref f))
  fn : PySem.W.isFn K (.ref f) = true
  kp : PySem.W.keepIn K (.ref C) = true
theorem WX {pins : List (Addr × Obj)} {σ : St} {H : Hp} {s : Shared} {Q : VK} {us : List Value} {vs : List V} (M : Mk X.K C f) (F : FnOk X.prog X.w X.K X.mg X.base CX k f fd ps sp) (hr : Room (k + 1) X.A) (hb : Binds X.K fd ps ds) (hd : Vals dvs ds)
    (hx : wB CX X E) (I : Inv X pins σ H s) (r : Vals vs us)
    (h : ∀ x dx,H x = none→H dx = none→dx ≠ x→sp (.ref x :: (vs ++ dvs)) (upd (upd H dx (.own x)) x (.ins C dx [])) (fun v H2=>v = .non∧Q (.ref x) H2) E) :
    wpAny (model X.prog X.w) X.A (call (.ref C) us) (EP X pins σ Q) X.xe s:=by
  have hq:=h (s.heap.objs.size + 1) s.heap.objs.size (I.hok.fresh (Nat.le_succ _)) (I.hok.fresh (Nat.le_refl _)) (Nat.ne_of_lt (Nat.lt_succ_self _))
  have I2:=Inv.made (C:=C) I
  have r2 : Vals (V.ref (s.heap.objs.size + 1) :: (vs ++ dvs)) (Value.ref (s.heap.objs.size + 1) :: (us ++ ds)):=.cons rfl (r.append hd)
  have hl : (Value.ref (s.heap.objs.size + 1) :: us ++ ds).length = ps.length:=by
    have e:=r2.length
    rw [F.len _ _ _ _ hq] at e
    exact e.symm
  refine wpAny_call (Vq (f:=f) I.kIn M.makes M.init (beq_iff_eq.mp M.fn) (codeAny_mono (F.run _ X.stack _ _ ⟨Value.ref (s.heap.objs.size + 1) :: us,[]⟩ (Value.ref (s.heap.objs.size + 1) :: (us ++ ds)) _ _ E (hr.make C us [])
    (I2.env0.make C us []) (hb _ (Value.ref (s.heap.objs.size + 1) :: us) I2.kIn hl) r2 hq) fun r s' hq'=>?_))
  cases r with
  | error e=>exact hx pins σ _ _ e s' I2 hq'
  | ok fl =>
    cases fl with
    | ret u =>
      obtain ⟨v,H',I3,rv,ev,q3⟩:=I2.after hq'
      subst ev
      exact ⟨rv,⟨V.ref (s.heap.objs.size + 1),H',I3,rfl,q3⟩⟩
    | next=>exact False.elim hq'
    | brk=>exact False.elim hq'
    | cont=>exact False.elim hq'
theorem Xv (M : Mk X.K C f) (F : FnOk X.prog X.w X.K X.mg X.base CX k f fd ps sp) (hr : Room (k + 1) X.A) (hg : Gl X x) (hm : X.mg x = some (.ref C)) (hb : Binds X.K fd ps ds) (hd : Vals dvs ds) (hx : wB CX X E)
    (ha : PA X (e :: es) t) (hdb : (x == ("__debug__" : Str)) = false:=by decide) (he : starEach (e :: es) X.env = (false,eval e X.env) :: starEach es X.env:=by rfl) (hpl : (backTo pos (starEach es X.env)).any (·.1) = false:=by rfl) :
    PE X (.Call (.Name x p) (e :: es) [] pos) (Y1 C sp dvs E t):=by
  intro pins s σ H Q I h
  refine wpAny_Call_Name_kw (ld_glob I hg hm ?_ hdb)
  refine PySem.W.callWith_K (h₀:=X.base) I.ok.mod.kin M.kp (thn (ha pos pins s σ H _ I h) fun us s1 ⟨vs,H1,I1,r,q⟩=>⟨I1.kIn,?_⟩) he hpl
  exact WX M F hr hb hd hx I1 r q
end
section
variable {X : Cx} {CX : CXT} {k : Nat} {f C : Addr} {fd : FuncData} {ps ks : List Str} {sp : Sp} {E : XK} {x m : Str} {p pos apos kpos : Pos} {e o : Expr} {es : List Expr} {kws : List Keyword} {te ta : TE} {t tk : TA} {nm : Option Str}
variable {g : List Value→List Value→List Value} {gV : List V→List V→List V}
end
structure FnScope (N P : List Str) (sc : Scope) : Prop where
  kind : sc.kind = .function
  co : sc.isCoroutine = false
  gen : sc.isGenerator = false
  nd : N.Nodup
  pre : N.take P.length = P
  par : ∀ x ∈ P,sc.names.lookup x = some .local∨sc.names.lookup x = some .cell
  nofree : ∀ y ∈ sc.names,y.2 ≠ .free
theorem Zh {kindOf : Str→Option NameKind} {x : Str} : ∀ {binds : List (Str × Value)} {m : Str→Option Value},(∀ v,(x,v) ∉ binds)→bindL kindOf binds m x = m x
  | [],_,_=>rfl
  | (n,v) :: r,m,h=>by
    unfold bindL
    rw [Zh fun w hw=>h w (List.mem_cons_of_mem _ hw)]
    split
    · have : x ≠ n:=by rintro rfl; exact h v List.mem_cons_self
      simp [this]
    · rfl
theorem bindC_out {kindOf : Str→Option NameKind} {x : Str} : ∀ {binds : List (Str × Value)} {m : Str→Option Value},(∀ v,(x,v) ∉ binds)→bindC kindOf binds m x = m x
  | [],_,_=>rfl
  | (n,v) :: r,m,h=>by
    unfold bindC
    rw [bindC_out fun w hw=>h w (List.mem_cons_of_mem _ hw)]
    split
    · rfl
    · have : x ≠ n:=by rintro rfl; exact h v List.mem_cons_self
      simp [this]
theorem bindL_get {kindOf : Str→Option NameKind} {x : Str} {v : Value} : ∀ {P : List Str} {vs : List Value} {i : Nat} {m : Str→Option Value},P.Nodup→P[i]? = some x→vs[i]? = some v→kindOf x = some .local →
    bindL kindOf (P.zip vs) m x = some v
  | [],_,_,_,_,h,_,_=>by simp at h
  | _ :: _,[],_,_,_,_,h,_=>by simp at h
  | p :: P,w :: vs,0,m,nd,h1,h2,hk=>by
    simp at h1 h2; subst h1; subst h2
    show bindL kindOf ((p,w) :: P.zip vs) m p = _
    unfold bindL
    rw [Zh fun v hv=>(List.nodup_cons.mp nd).1 (List.of_mem_zip hv).1,if_pos hk]
    simp
  | p :: P,w :: vs,i + 1,m,nd,h1,h2,hk=>by
    show bindL kindOf ((p,w) :: P.zip vs) m x = _
    unfold bindL
    exact bindL_get (i:=i) (List.nodup_cons.mp nd).2 (by simpa using h1) (by simpa using h2) hk
theorem Zi {kindOf : Str→Option NameKind} {x : Str} {v : Value} : ∀ {P : List Str} {vs : List Value} {i : Nat} {m : Str→Option Value},P.Nodup→P[i]? = some x→vs[i]? = some v→kindOf x ≠ some .local →
    bindC kindOf (P.zip vs) m x = some v
  | [],_,_,_,_,h,_,_=>by simp at h
  | _ :: _,[],_,_,_,_,h,_=>by simp at h
  | p :: P,w :: vs,0,m,nd,h1,h2,hk=>by
    simp at h1 h2; subst h1; subst h2
    show bindC kindOf ((p,w) :: P.zip vs) m p = _
    unfold bindC
    rw [bindC_out fun v hv=>(List.nodup_cons.mp nd).1 (List.of_mem_zip hv).1,if_neg hk]
    simp
  | p :: P,w :: vs,i + 1,m,nd,h1,h2,hk=>by
    show bindC kindOf ((p,w) :: P.zip vs) m x = _
    unfold bindC
    exact Zi (i:=i) (List.nodup_cons.mp nd).2 (by simpa using h1) (by simpa using h2) hk
def start (N : List Str) (vs : List V) : St:=vs.map some ++ List.replicate (N.length - vs.length) none
def yy (CX : CXT) (P : Program) (w : World) (K : PySem.W.Frag) (mg : Str→Option Value) (base : Heap) (N : List Str) (qual : Str) (scope : Scope) (f : Addr) (cd : Value) (A : Around) (outer : List Env) (s : Shared) (H : Hp) (E : XK) : Cx where
  prog:=P
  w:=w
  K:=K
  mg:=mg
  base:=base
  A:=A.deeper (envOfC qual scope s.heap.objs.size f cd)
  N:=N
  s₀:=s
  H₀:=H
  env:=envOfC qual scope s.heap.objs.size f cd
  outer:=outer
  stack:=envOfC qual scope s.heap.objs.size f cd :: outer
  ex:=[]
  calm:=true
  fn:=fun _=>true
  pn:=[]
  xe:=fun e s'=>wpAny (model P w) (A.deeper (envOfC qual scope s.heap.objs.size f cd)) (leaving (envOfC qual scope s.heap.objs.size f cd) e) (fun _ s''=>CX outer H s E e s'') (fun e' s''=>CX outer H s E e' s'') s'
theorem Yi {sc : Scope} {n : Nat} {x : Str} (h : sc.names.lookup x = some .cell) : ∃ c,(cellsFrom n sc.names []).lookup x = some c:=by
  have q:=PySem.W.cellsFrom_some sc.names n [] (.inl h)
  exact Option.isSome_iff_exists.mp q
theorem X1 {CX : CXT} {P : Program} {w : World} {K : PySem.W.Frag} {mg : Str→Option Value} {base : Heap} {N ps : List Str} {qual : Str} {scope : Scope} {f : Addr} {cd : Value} {A : Around} {outer : List Env} {s s1 : Shared} {H : Hp} {E : XK} {us : List Value} {vs : List V}
    (S : FnScope N ps scope) (hd : A.handled = none) (e0 : Env0 P w K mg base A outer s H) (hl : vs.length = ps.length) (r : Vals vs us)
    (x : InCallC s s.heap.objs.size (bindL (envOfC qual scope s.heap.objs.size f cd).kindOf (ps.zip us) fun _=>none) (cellsFrom (s.heap.objs.size + 1) scope.names []) (bindC (envOfC qual scope s.heap.objs.size f cd).kindOf (ps.zip us) fun _=>none) s1) :
    Inv (yy CX P w K mg base N qual scope f cd A outer s H E) [] (start N vs) H s1:=by
  have hpl : ps.length ≤ N.length:=by have:=congrArg List.length S.pre; rw [List.length_take] at this; omega
  obtain ⟨h1,tk,rfl,hk⟩:=x.done
  have noA : ∀ b : Addr,b ∉ (yy CX P w K mg base N qual scope f cd A outer s H E).ex:=fun b z=>absurd (show b ∈ ([] : List Addr) from z) (by simp)
  refine ⟨⟨e0.mod,S.kind,rfl,rfl,Nat.le_refl _,fun y z c h1 h2=>?_,fun y hy=>?_,fun y c _ h=>?_,fun _=>hd,Around.frames_deeper e0.frames,.inr ⟨rfl,rfl⟩,fun b z=>absurd z (noA b),e0.bs,e0.bsz,fun b _ _=>noA b,fun b z=>absurd z (noA b),e0.funs,e0.frf⟩,
    rfl,e0.bare,Un.kept hk,⟨_,x.toInCall.ns,fun i y v h1 h2 h3=>?_⟩,fun y c h=>⟨_,x.cell y c h⟩,e0.hok.fresh (Nat.le_refl _),fun y c h=>?_,fun p hp=>absurd (show p ∈ ([] : List (Addr × Obj)) from hp) (by simp),e0.hok.kept hk,?_⟩
  · exact name_of_addr x.apart (PySem.mem_of_lookup h1) (PySem.mem_of_lookup h2)
  · have hy : scope.names.lookup y = some .cell∨scope.names.lookup y = some .free:=hy
    rcases hy with hy | hy
    · exact Yi hy
    · exact absurd rfl (S.nofree _ (PySem.mem_of_lookup hy))
  · exact Nat.le_of_lt (x.above y c (PySem.mem_of_lookup h))
  · have hi : i < vs.length:=by
      unfold start at h2
      by_cases hi : i < vs.length
      · exact hi
      · rw [List.getElem?_append_right (by simpa using hi)] at h2
        rw [List.getElem?_replicate] at h2
        split at h2 <;> cases h2
    have ha : vs[i]? = some v:=by
      unfold start at h2
      rw [List.getElem?_append_left (by simpa using hi),List.getElem?_map] at h2
      cases e : vs[i]? with
      | none=>rw [e] at h2; cases h2
      | some a=>rw [e] at h2; cases h2; rfl
    obtain ⟨u,hu,rv⟩:=r.get ha
    have hp : ps[i]? = some y:=by
      rw [← S.pre,List.getElem?_take_of_lt (by omega)]; exact h1
    have ndP : ps.Nodup:=by rw [← S.pre]; exact S.nd.sublist (List.take_sublist _ _)
    refine ⟨u,rv,?_⟩
    rcases S.par y (List.mem_of_getElem? hp) with k | k
    · exact .inl ⟨k,bindL_get ndP hp hu k⟩
    · obtain ⟨c,e⟩:=Yi (n:=s.heap.objs.size + 1) k
      refine .inr ⟨.inl k,c,e,?_⟩
      have q:=x.cell y c e
      rw [Zi ndP hp hu (by show scope.names.lookup y ≠ _; rw [k]; decide)] at q
      exact q
  · exact e0.hok.fresh (Nat.le_of_lt (x.above y c (PySem.mem_of_lookup h)))
  · unfold start
    show _ = N.length
    rw [List.length_append,List.length_map,List.length_replicate]
    omega
theorem zeA {CX : CXT} {P : Program} {w : World} {K : PySem.W.Frag} {mg : Str→Option Value} {base : Heap} {k : Nat} {f : Addr} {name qual : Str} {params : Arguments} {body : List Stmt} {scope : Scope} {dV kV doc pm cdv ct oc : Value} {an od : Option Addr}
    {osl : Array (Option Value)} {N ps : List Str} {sp : Sp} (lk : K.lookup f = some ⟨oc,od,.func (PySem.W.fnOf name qual params body scope dV kV doc pm an cdv ct),osl⟩) (hcd : PySem.W.codeIn K cdv qual = true) (S : FnScope N ps scope)
    (len : ∀ vs H Q E,sp vs H Q E→vs.length = ps.length)
    (hbody : ∀ (A : Around) (outer : List Env) (s : Shared) (H : Hp) (vs : List V) (Q : VK) (E : XK),Room k (A.deeper (envOfC qual scope s.heap.objs.size f cdv))→sp vs H Q E →
      ∃ t,PSs (yy CX P w K mg base N qual scope f cdv A outer s H E) body t∧t { nx:=fun _ H'=>Q .non H',rt:=Q } (start N vs) H) :
    FnOk P w K mg base CX (k + 1) f (PySem.W.fnOf name qual params body scope dV kV doc pm an cdv ct) ps sp:=by
  refine ⟨len,fun A outer s H args us vs Q E hr e0 hb r hsp=>?_⟩
  have hl:=len _ _ _ _ hsp
  have KX : K.In s.heap:=e0.mod.kin.keeps fun b o e=>(e0.bs b o e).1
  have lim : s.heap.NoLimit:=e0.mod.nolimit.keeps fun b o e=>(e0.bs b o e).1
  have hkind : ∀ y ∈ ps.zip us,scope.names.lookup y.1 = some .local∨(scope.names.lookup y.1 = some .cell∧((cellsFrom (s.heap.objs.size + 1) scope.names []).lookup y.1).isSome = true):=fun ⟨n,v⟩ hy=>by
    rcases S.par n (List.of_mem_zip hy).1 with q | q
    · exact .inl q
    · exact .inr ⟨q,PySem.W.cellsFrom_some _ _ _ (.inl q)⟩
  refine codeAny_call_function hr.depth (KX _ _ lk) rfl S.co S.gen rfl (PySem.W.codeRec_of KX hcd) (hb _ _ _ _ ?_)
  refine wpAny_newFunctionEnv_cells S.kind hkind fun env he s1 x=>?_
  subst he
  refine ⟨lim.keeps x.toInCall.keep,codeAny_func ?_⟩
  obtain ⟨t,ht,hq⟩:=hbody A outer s H vs Q E (hr.deeper _) hsp
  have I : Inv (yy CX P w K mg base N qual scope f cdv A outer s H E) [] (start N vs) H s1:=X1 S hr.hd e0 hl r x
  refine wpAny_mono (ht [] s1 (start N vs) H _ I hq) (fun fl s' hs=>?_) fun e s' hs=>hs
  have fin : ∀ {σ' : St} {H' : Hp} {v : V} {u : Value},Inv (yy CX P w K mg base N qual scope f cdv A outer s H E) [] σ' H' s'→RelV v u→Q v H'→CE outer P w H s Q u s' :=
    fun {σ' H' v u} J rv q=>⟨v,H',J.os,J.bare,J.base,J.hok,rv,q⟩
  cases fl with
  | ret u =>
    obtain ⟨v,σ',H',J,rv,q⟩:=hs
    exact fin J rv q
  | next =>
    obtain ⟨σ',H',J,q⟩:=hs
    exact fin (v:=V.non) (u:=Value.none) J rfl q
  | brk =>
    obtain ⟨_,_,_,q⟩:=hs
    exact False.elim q
  | cont =>
    obtain ⟨_,_,_,q⟩:=hs
    exact False.elim q
end L2
namespace L2
open PySem PySem.Spec PyProof.Rows
section
variable {X : Cx} {x : Str} {p pos : Pos} {e : Expr} {es : List Expr} {t : TA} {id T : String} {r : List V→Hp→VK→Prop}
def tCB (r : List V→Hp→VK→Prop) (t : TA) : TE:=fun σ H Q=>t σ H fun vs H1=>r vs H1 Q
theorem vV (hc : xU X (.builtin id) r) (hg : Gl X x) (hm : X.mg x = none) (hv : bootBuiltins x = some (.builtin id)) (ha : PA X (e :: es) t) (hn : x ≠ "__name__" := by decide) (hdb : (x == ("__debug__" : Str)) = false:=by decide)
    (he : starEach (e :: es) X.env = (false,eval e X.env) :: starEach es X.env:=by rfl) (hpl : (backTo pos (starEach es X.env)).any (·.1) = false:=by rfl) : PE X (.Call (.Name x p) (e :: es) [] pos) (tCB r t):=by
  intro pins s σ H Q I h
  refine wpAny_Call_Name_kw (ld_blt I hg hm hv ?_ hn hdb)
  exact PyProof.Rows.callWith_builtin1 (thn (ha pos pins s σ H _ I h) fun us s1 ⟨vs,H1,I1,r1,q1⟩=>hc pins s1 σ H1 vs us Q I1 r1 q1) he hpl
theorem Xy (hc : xU X (.type T) r) (hg : Gl X x) (hm : X.mg x = none) (hv : bootBuiltins x = some (.type T)) (ha : PA X (e :: es) t) (hn : x ≠ "__name__" := by decide) (hdb : (x == ("__debug__" : Str)) = false:=by decide)
    (he : starEach (e :: es) X.env = (false,eval e X.env) :: starEach es X.env:=by rfl) (hpl : (backTo pos (starEach es X.env)).any (·.1) = false:=by rfl) : PE X (.Call (.Name x p) (e :: es) [] pos) (tCB r t):=by
  intro pins s σ H Q I h
  refine wpAny_Call_Name_kw (ld_blt I hg hm hv ?_ hn hdb)
  exact PyProof.Rows.callWith_type1 (thn (ha pos pins s σ H _ I h) fun us s1 ⟨vs,H1,I1,r1,q1⟩=>hc pins s1 σ H1 vs us Q I1 r1 q1) he hpl
end
end L2
namespace HT
open PySem PyProof.Rows
section
open PySem.SeqAt
open PySem.AutoSeq1 (wpAny_loadPart')
open PySem.MeetsSeq PySem.MeetsSeq2 PySem.MeetsSeq3
end
section
variable {prog : Program} {w : World} {A : Around} {E : Value→Shared→Prop} {s : Shared}
def sIx (n d : Nat) : Option Int→Nat
  | none=>d
  | some v=>if v < 0 then (v + (n : Int)).toNat else min v.toNat n
theorem zdx (n d : Nat) (hd : d ≤ n) (o : Option Int) : sIx n d o ≤ n:=by
  cases o with
  | none=>exact hd
  | some v =>
    show (if v < 0 then (v + (n : Int)).toNat else min v.toNat n) ≤ n
    by_cases hv : v < 0
    · rw [if_pos hv]; omega
    · rw [if_neg hv]; exact Nat.min_le_right _ _
theorem Wm (v : Int) (n d : Nat) : (if v < 0 then max (v + (n : Int)) 0 else min v (n : Int)) = ((sIx n d (some v) : Nat) : Int):=by
  show (if v < 0 then max (v + (n : Int)) 0 else min v (n : Int)) = (((if v < 0 then (v + (n : Int)).toNat else min v.toNat n) : Nat) : Int)
  by_cases hv : v < 0
  · simp only [if_pos hv]; omega
  · simp only [if_neg hv]; omega
theorem YL (lo hi : Option Int) (n : Nat) : Builtin.Slice.sliceAdjust lo hi 1 (n : Int) = (((sIx n 0 lo : Nat) : Int),((sIx n n hi : Nat) : Int)):=by
  have h1 : ¬ ((1 : Int) < 0):=by omega
  unfold Builtin.Slice.sliceAdjust
  simp only [h1,if_false]
  refine Prod.ext ?_ ?_
  · cases lo with
    | none=>rfl
    | some v=>exact Wm v n 0
  · cases hi with
    | none=>rfl
    | some v=>exact Wm v n n
theorem Yx (i j : Nat) : Builtin.Slice.slicePlaces (i : Int) (j : Int) 1 = j - i:=by
  unfold Builtin.Slice.slicePlaces
  have h1 : (1 : Int) > 0:=by omega
  simp only [h1,if_true,Int.ediv_one]
  split <;> omega
theorem vC {v : Value} {o : Option Int} {Q : Option Int→Shared→Prop} (p : IsPart v o) (h : Q o s) : wpAny (model prog w) A (Builtin.Slice.slicePartIndex v) Q E s:=by
  cases p with
  | none=>exact slicePart_none h
  | int i t=>exact slicePart_int h
theorem wC {sl : Addr} {vl vu : Value} {lo hi : Option Int} {n : Nat} {Q : Int × Int × Nat→Shared→Prop} (hs : s.heap.IsSliceOf sl vl vu .none) (pl : IsPart vl lo) (pu : IsPart vu hi)
    (h : Q (((sIx n 0 lo : Nat) : Int),1,sIx n n hi - sIx n 0 lo) s) : wpAny (model prog w) A (Builtin.Slice.sliceApplied (.ref sl) (pure (n : Int))) Q E s:=by
  obtain ⟨os,hos,hcs,hds⟩:=id hs
  unfold Builtin.Slice.sliceApplied Builtin.Slice.sliceFields
  refine wpAny_bind (wpAny_bind (wpAny_field hos hds (x:=vl) rfl (wpAny_bind (wpAny_field hos hds (x:=vu) rfl (wpAny_bind (wpAny_field hos hds (x:=.none) rfl (wpAny_pure ?_)))))))
  refine wpAny_bind (slicePart_none ?_)
  show wpAny _ _ (if ((1 : Int) == 0) = true then _ else _) _ _ s
  rw [if_neg (by decide)]
  refine wpAny_bind (vC pl (wpAny_bind (vC pu (wpAny_bind (wpAny_pure ?_)))))
  show wpAny _ _ (match Builtin.Slice.sliceAdjust lo hi 1 (n : Int) with | (lo,hi)=>pure (lo,(1 : Int),Builtin.Slice.slicePlaces lo hi 1)) _ _ s
  rw [YL lo hi n]
  show wpAny _ _ (pure (((sIx n 0 lo : Nat) : Int),(1 : Int),Builtin.Slice.slicePlaces ((sIx n 0 lo : Nat) : Int) ((sIx n n hi : Nat) : Int) 1)) _ _ s
  rw [Yx]
  exact wpAny_pure h
theorem W0 (xs : Array Value) (i k : Nat) : ((List.range k).filterMap fun (m : Nat)=>xs[((i : Int) + (m : Int) * 1).toNat]?).toArray = ((xs.toList.drop i).take k).toArray:=by
  have e : (fun (m : Nat)=>xs[((i : Int) + (m : Int) * 1).toNat]?) = fun m=>xs[i + m]?:=by
    funext m
    have : ((i : Int) + (m : Int) * 1).toNat = i + m:=by omega
    rw [this]
  rw [e]
  have:=pick_run xs i k
  rw [List.filterMap_map] at this
  have e2 : ((fun x=>xs[x]?) ∘ fun x=>i + x) = fun m=>xs[i + m]?:=rfl
  rw [e2] at this
  rw [this]
theorem getItem_tuple_cut {t sl : Addr} {items : Array Value} {vl vu : Value} {lo hi : Option Int} {Q : Value→Shared→Prop} (ht : IsTup s.heap t items) (hs : s.heap.IsSliceOf sl vl vu .none) (pl : IsPart vl lo) (pu : IsPart vu hi)
    (hw : ¬ (sIx items.size 0 lo = 0∧sIx items.size items.size hi = items.size))
    (h : Q (.ref s.heap.objs.size) { s with heap:=s.heap.push { cls:=.type "tuple",data:=.seq ((items.toList.drop (sIx items.size 0 lo)).take (sIx items.size items.size hi - sIx items.size 0 lo)).toArray } })
    (hsz : items.size ≤ sizeLine) : wpAny (model prog w) A (getItem (.ref t) (.ref sl)) Q E s:=by
  have htake : sizeOk (.seq ((items.toList.drop (sIx items.size 0 lo)).take (sIx items.size items.size hi - sIx items.size 0 lo)).toArray):=by
    show ((items.toList.drop (sIx items.size 0 lo)).take (sIx items.size items.size hi - sIx items.size 0 lo)).toArray.size ≤ sizeLine
    rw [List.size_toArray,List.length_take,List.length_drop,Array.length_toList]
    omega
  have hj : sIx items.size items.size hi ≤ items.size:=zdx _ _ (Nat.le_refl _) hi
  obtain ⟨os,hos,hcs,hds⟩:=id hs
  have hTs : s.TypeIs (.ref sl) "slice" := ⟨os,hos,hcs⟩
  unfold getItem
  try with_reducible refine wpAny_holding ?_
  first | refine wpAny_bind (wpAny_pure ?_) | skip
  refine wpAny_bind (wpAny_sequenceKey ht.typeIs (by decide) ?_)
  refine wpAny_bind (wpAny_callSpecial?_slot (name:=Str.ofString "__getitem__") ht.typeIs PyProof.Rows.slot_tuple_getitem
    (wpAny_call_entry PyProof.Rows.slot_tuple_getitem ht.typeIs entry_tuple_getitem ?_ (args_tuple_getitem _ _)))
  show wpAny _ _ (Builtin.Tuple.tupleItemsOf (.ref t) >>= _) _ _ s
  refine wpAny_bind (tupleItemsOf_ ht ?_)
  refine wpAny_bind (wpAny_typeOf hTs ?_)
  rw [if_pos (by decide)]
  refine wpAny_bind (wC hs pl pu ?_)
  have hno : ¬ ((((sIx items.size 0 lo : Nat) : Int) == 0 && (1 : Int) == 1 && (sIx items.size items.size hi - sIx items.size 0 lo) == items.size) = true):=by
    intro q
    rw [Bool.and_eq_true,Bool.and_eq_true] at q
    have q1 : ((sIx items.size 0 lo : Nat) : Int) = 0:=eq_of_beq q.1.1
    have q2 : sIx items.size items.size hi - sIx items.size 0 lo = items.size:=eq_of_beq q.2
    exact hw ⟨by omega,by omega⟩
  show wpAny _ _ (if (((sIx items.size 0 lo : Nat) : Int) == 0 && (1 : Int) == 1 && (sIx items.size items.size hi - sIx items.size 0 lo) == items.size) = true then _ else _) _ _ s
  rw [if_neg hno,W0]
  first
    | exact wpAny_bind (m:=Builtin.Tuple.tupleExact _) (wpAny_newObj_type (wpAny_pure ⟨_,rfl,wpAny_pure h⟩) htake)
    | exact wpAny_bind (m:=Builtin.Tuple.tupleExact _) (wpAny_newObj_type (wpAny_bind (wpAny_pure (wpAny_pure ⟨_,rfl,wpAny_pure h⟩))) htake)
    | exact wpAny_bind (wpAny_bind (m:=Builtin.Tuple.tupleExact _) (wpAny_newObj_type (wpAny_pure (wpAny_pure ⟨_,rfl,wpAny_pure h⟩)) htake))
    | exact wpAny_bind (wpAny_bind (m:=Builtin.Tuple.tupleExact _) (wpAny_newObj_type (wpAny_pure ⟨_,rfl,wpAny_pure h⟩) htake))
end
end HT
namespace L2
open PySem PySem.Spec PyProof.Rows
abbrev TO:=St→Hp→(Option Int→Hp→Prop)→Prop
def PO (X : Cx) (e : Option Expr) (t : TO) : Prop :=
  ∀ (pins : List (Addr × Obj)) (s : Shared) (σ : St) (H : Hp) (Q : Option Int→Hp→Prop),Inv X pins σ H s→t σ H Q →
    wpAny (model X.prog X.w) X.A (evalPart e X.env) (fun u s'=>∃ o H',Inv X pins σ H' s'∧IsPart u o∧Q o H') X.xe s
def Zn : TO:=fun _ H Q=>Q none H
def YY (t : TE) : TO:=fun σ H Q=>t σ H fun x H1=>∃ i,x = .int i∧Q (some i) H1
section
variable {X : Cx} {e : Expr} {te : TE} {lo hi : Option Expr} {tl th : TO} {pos p2 : Pos}
theorem U2 : PO X none Zn:=by
  intro pins s σ H Q I h
  rw [evalPart_none]
  exact wpAny_pure ⟨none,H,I,.none,h⟩
theorem po_some (h : PE X e te) : PO X (some e) (YY te):=by
  intro pins s σ H Q I hw
  rw [evalPart_some]
  refine thn (h pins s σ H _ I hw) fun u s1 ⟨x,H1,I1,r1,q1⟩=>?_
  obtain ⟨i,rfl,q⟩:=q1
  obtain ⟨t,rfl⟩:=r1
  exact ⟨some i,H1,I1,.int i t,q⟩
def SlR (X : Cx) (r : V→Option Int→Option Int→Hp→VK→Prop) : Prop :=
  ∀ (pins : List (Addr × Obj)) (s : Shared) (σ : St) (H : Hp) (x : V) (v vl vu : Value) (lo hi : Option Int) (sl : Addr) (Q : VK),Inv X pins σ H s→RelV x v→s.heap.IsSliceOf sl vl vu .none→IsPart vl lo→IsPart vu hi→r x lo hi H Q →
    ∃ T id,typeLookup (.type T) "__getitem__" = pure (some (.builtin id))∧s.TypeIs v T∧wpAny (model X.prog X.w) X.A (getItem v (.ref sl)) (EP X pins σ Q) X.xe s
def tSl (r : V→Option Int→Option Int→Hp→VK→Prop) (te : TE) (tl th : TO) : TE:=fun σ H Q=>te σ H fun x H1=>tl σ H1 fun l H2=>th σ H2 fun u H3=>r x l u H3 Q
theorem W3 {r : V→Option Int→Option Int→Hp→VK→Prop} (hr : SlR X r) (he : PE X e te) (hl : PO X lo tl) (hu : PO X hi th) : PE X (.Subscript e (.Slice lo hi none p2) pos) (tSl r te tl th):=by
  intro pins s σ H Q I h
  refine Subscript_ (thn (he pins s σ H _ I h) fun v s1 ⟨x,H1,I1,r1,q1⟩=>?_)
  refine wpAny_Slice (thn (hl pins s1 σ H1 _ I1 q1) fun vl s2 ⟨l,H2,I2,pl,q2⟩=>thn (hu pins s2 σ H2 _ I2 q2) fun vu s3 ⟨u,H3,I3,pu,q3⟩=>?_)
  rw [evalPart_none]
  refine wpAny_pure ?_
  have I4 : Inv X pins σ H3 { s3 with heap:=s3.heap.push { cls:=.type "slice",data:=.fields #[vl,vu,.none] } }:=I3.kept (t':=s3.toks) fun b ob q=>Heap.get?_push_of_some _ q
  obtain ⟨T,id,hT,ht,hg⟩:=hr pins { s3 with heap:=s3.heap.push { cls:=.type "slice",data:=.fields #[vl,vu,.none] } } σ H3 x v vl vu l u s3.heap.objs.size Q I4 r1 (Heap.IsSliceOf.new ..) pl pu q3
  show wpAny (model X.prog X.w) X.A (subscriptTail e (.Slice lo hi none p2) v (.ref s3.heap.objs.size)) (EP X pins σ Q) X.xe { s3 with heap:=s3.heap.push { cls:=.type "slice",data:=.fields #[vl,vu,.none] } }
  exact tail_any (ops:=[.ref s3.heap.objs.size,v]) ht hT hg (by with_unfolding_all rfl)
def vA (xs : List V) (lo hi : Option Int) : List V:=(xs.drop (HT.sIx xs.length 0 lo)).take (HT.sIx xs.length xs.length hi - HT.sIx xs.length 0 lo)
theorem vt (xs : List V) (lo hi : Option Int) : (vA xs lo hi).length ≤ xs.length:=by
  unfold vA
  rw [List.length_take,List.length_drop]
  omega
def zrd (K : PySem.W.Frag) : V→Option Int→Option Int→Hp→VK→Prop:=fun x lo hi H Q=>∃ a xs,x = .ref a∧SqT K H a xs ∧
  ¬ (HT.sIx xs.length 0 lo = 0∧HT.sIx xs.length xs.length hi = xs.length)∧∀ p,H p = none→Q (.ref p) (upd H p (.tup (vA xs lo hi)))
theorem zdv : SlR X (zrd X.K):=by
  intro pins s σ H x v vl vu lo hi sl Q I rx hs pl pu h
  obtain ⟨a,xs,rfl,hx,hw,q⟩:=h
  cases rx
  obtain ⟨its,r,ht,hz⟩:=I.tuple hx
  have hlen : its.toArray.size = xs.length:=by rw [List.size_toArray]; exact r.length.symm
  refine ⟨"tuple",_,PyProof.Rows.slot_tuple_getitem.lookup,ht.typeIs,?_⟩
  refine HT.getItem_tuple_cut ht hs pl pu (by rw [hlen]; exact hw) ?_ (by rw [hlen]; exact hz)
  rw [hlen]
  refine ⟨.ref s.heap.objs.size,_,I.laid (t':=s.toks) (o:=.tup (vA xs lo hi)) (fun b ob q=>Heap.get?_push_of_some _ q) (Nat.le_refl _) ?_,rfl,q _ (I.hok.fresh (Nat.le_refl _))⟩
  exact ⟨Nat.le_trans (vt xs lo hi) hz,_,(r.drop (HT.sIx xs.length 0 lo)).take (HT.sIx xs.length xs.length hi - HT.sIx xs.length 0 lo),IsTup.new _ _⟩
end
end L2
namespace L2
open PySem PySem.Spec PyProof.Rows
def ixN (n : Nat) (i : Int) : Option Nat:=if 0 ≤ i then (if i < n then some i.toNat else none) else if -(n : Int) ≤ i then some (i + n).toNat else none
def atI {α : Type} (xs : List α) (i : Int) : Option α:=(ixN xs.length i).bind fun j=>xs[j]?
theorem XY {n : Nat} {i : Int} {j : Nat} (h : ixN n i = some j) : seqIndex? i n = some j∧j < n∧-(n : Int) ≤ i∧i < n:=by
  unfold ixN at h
  by_cases h0 : 0 ≤ i
  · rw [if_pos h0] at h
    by_cases h1 : i < n
    · rw [if_pos h1] at h
      have e : i.toNat = j:=Option.some.inj h
      exact ⟨by rw [seqIndex_of h0 h1,e],by omega,by omega,h1⟩
    · rw [if_neg h1] at h; cases h
  · rw [if_neg h0] at h
    by_cases h1 : -(n : Int) ≤ i
    · rw [if_pos h1] at h
      have e : (i + n).toNat = j:=Option.some.inj h
      exact ⟨by rw [seqIndex_neg (by omega) h1,e],by omega,h1,by omega⟩
    · rw [if_neg h1] at h; cases h
theorem Ww {α : Type} {xs : List α} {i : Int} {v : α} (h : atI xs i = some v) : ∃ j,seqIndex? i xs.length = some j∧xs[j]? = some v∧j < xs.length∧-(xs.length : Int) ≤ i∧i < xs.length:=by
  unfold atI at h
  cases e : ixN xs.length i with
  | none=>rw [e] at h; cases h
  | some j =>
    rw [e] at h
    obtain ⟨h1,h2,h3,h4⟩:=XY e
    exact ⟨j,h1,h,h2,h3,h4⟩
theorem zW {α : Type} {xs : List α} {j : Nat} {v : α} (h : xs[j]? = some v) : atI xs (j : Int) = some v:=by
  have hj : j < xs.length:=(List.getElem?_eq_some_iff.mp h).1
  have e : ixN xs.length (j : Int) = some j:=by
    unfold ixN
    rw [if_pos (by omega),if_pos (by omega)]; simp
  unfold atI; rw [e]; exact h
def WA (b : Expr) : Prop:=∀ o i,subscripted b false o i = operate [o,i] (getItem o i)
def IxR (X : Cx) (r : R2) : Prop :=
  ∀ (value slice : Expr) (pins : List (Addr × Obj)) (s : Shared) (σ : St) (H : Hp) (x y : V) (v u : Value) (Q : VK),Inv X pins σ H s→RelV x v→RelV y u→r x y H Q →
    subscripted slice false v u = operate [v,u] (getItem v u)→wpAny (model X.prog X.w) X.A (subscriptTail value slice v u) (EP X pins σ Q) X.xe s
def MtR (X : Cx) (id : String) (r : V→List V→Hp→VK→Prop) : Prop :=
  ∀ (pins : List (Addr × Obj)) (s : Shared) (σ : St) (H : Hp) (x : V) (xs : List V) (v : Value) (us : List Value) (Q : VK),Inv X pins σ H s→RelV x v→Vals xs us→r x xs H Q →
    wpAny (model X.prog X.w) X.A (call (.builtin id) (v :: us)) (EP X pins σ Q) X.xe s
section
variable {X : Cx} {a b : Expr} {ta tb : TE} {pos : Pos}
theorem zjk {r : R2} (hr : IxR X r) (ha : PE X a ta) (hb : PE X b tb) (hs : WA b) : PE X (.Subscript a b pos) (tOp r ta tb):=by
  intro pins s σ H Q I h
  exact Subscript_ (binT ha hb I h fun v u s2 x y H2 I2 rx ry q=>hr a b pins s2 σ H2 x y v u Q I2 rx ry q (hs _ _))
def zo6 (K : PySem.W.Frag) : R2:=fun x y H Q=>∃ p xs i v,x = .ref p∧y = .int i∧SqL K H p xs∧atI xs i = some v∧Q v H
def zrf (K : PySem.W.Frag) : R2:=fun x y H Q=>∃ p xs i v,x = .ref p∧y = .int i∧SqT K H p xs∧atI xs i = some v∧Q v H
theorem zu : IxR X (zo6 X.K):=by
  intro value slice pins s σ H x y v u Q I rx ry h hs
  obtain ⟨p,xs,i,z,rfl,rfl,hq,he,q⟩:=h
  cases rx
  obtain ⟨t,rfl⟩:=ry
  obtain ⟨its,r,pl,hz⟩:=I.list hq
  obtain ⟨j,h1,h2,h3,h4,h5⟩:=Ww he
  obtain ⟨w,ew,rw'⟩:=r.get h2
  have hl:=r.length
  have hn:=Z5
  have fin : EP X pins σ Q w s:=⟨z,H,I,rw',q⟩
  by_cases h0 : 0 ≤ i
  · have hj : i.toNat = j:=by
      rw [seqIndex_of h0 h5] at h1
      exact Option.some.inj h1
    exact item_listR pl.isList h0 (by omega) (by rw [hj]; simpa using ew) fin hs
  · have hj : (i + (its.toArray.size : Int)).toNat = j:=by
      rw [seqIndex_neg (by omega) h4] at h1
      rw [List.size_toArray,← hl]
      exact Option.some.inj h1
    exact subscriptTail_builtinR (x:=w) pl.isList.typeIs slot_list_getitem.lookup
      (wpAny_getItem_list_neg (Q:=fun r s'=>r = w∧EP X pins σ Q r s') pl.isList (by omega) (by rw [List.size_toArray] <;> omega) (by omega) (by rw [hj]; simpa using ew) ⟨rfl,fin⟩) hs
theorem yN : IxR X (zrf X.K):=by
  intro value slice pins s σ H x y v u Q I rx ry h hs
  obtain ⟨p,xs,i,z,rfl,rfl,hq,he,q⟩:=h
  cases rx
  obtain ⟨t,rfl⟩:=ry
  obtain ⟨its,r,pl,hz⟩:=I.tuple hq
  obtain ⟨j,h1,h2,h3,h4,h5⟩:=Ww he
  obtain ⟨w,ew,rw'⟩:=r.get h2
  have hl:=r.length
  have hn:=Z5
  have fin : EP X pins σ Q w s:=⟨z,H,I,rw',q⟩
  exact subscriptTail_builtinR (x:=w) pl.typeIs slot_tuple_getitem.lookup
    (getItem_tuple (j:=j) (Q:=fun r s'=>r = w∧EP X pins σ Q r s') pl (by omega) (by omega) (by rw [List.size_toArray,← hl]; exact h1) (by simpa using ew) ⟨rfl,fin⟩) hs
theorem YC (its : List Value) (n j : Nat) (u : Value) : Obj.mapSeq (·.setIfInBounds j u) { cls:=.type "list",data:=.seq its.toArray n } = { cls:=.type "list",data:=.seq (its.set j u).toArray n }:=by
  simp [Obj.mapSeq]
theorem Inv.lst {pins : List (Addr × Obj)} {σ : St} {H : Hp} {s : Shared} {p : Addr} {xs : List V} (I : Inv X pins σ H s) (h : H p = some (.lst xs)) :
    ∃ (its : List Value) (n : Nat),Vals xs its∧s.heap.get? p = some { cls:=.type "list",data:=.seq its.toArray n }∧xs.length ≤ sizeLine:=by
  obtain ⟨z,its,n,r,e⟩:=I.hok p _ h
  exact ⟨its,n,r,e,z⟩
theorem Inv.lstUpd {pins : List (Addr × Obj)} {σ : St} {H : Hp} {s : Shared} {p : Addr} {xs ys : List V} {its its' : List Value} {n n' : Nat} {f : Obj→Obj} (I : Inv X pins σ H s) (h : H p = some (.lst xs))
    (ho : s.heap.get? p = some { cls:=.type "list",data:=.seq its.toArray n }) (hf : f { cls:=.type "list",data:=.seq its.toArray n } = { cls:=.type "list",data:=.seq its'.toArray n' }) (r : Vals ys its') (hz : ys.length ≤ sizeLine) (t : Nat) :
    Inv X pins σ (upd H p (.lst ys)) { s with heap:=s.heap.update p f,toks:=t }:=by
  have e : (s.heap.update p f).get? p = some { cls:=.type "list",data:=.seq its'.toArray n' }:=by
    rw [Heap.get?_update_self f ho (by rw [hf] <;> rfl),hf]
  refine I.write (x:=p) (e:=p) (by rw [h]; trivial) (.inl rfl) (fun b u hb q=>(Heap.get?_update_other _ _ (Ne.symm hb)).trans q) ⟨_,e⟩ ?_
  exact ⟨hz,its',n',r,e⟩
def zi9 : V→V→V→Hp→(Hp→Prop)→Prop:=fun o i v H Q=>∃ p xs k j,o = .ref p∧i = .int k∧H p = some (.lst xs)∧ixN xs.length k = some j∧Q (upd H p (.lst (xs.set j v)))
theorem wH : zjz X zi9:=by
  intro pins s σ H o i v ov iv u Q I ro ri rv h
  obtain ⟨p,xs,k,j,rfl,rfl,hp,hj,q⟩:=h
  cases ro
  obtain ⟨t,rfl⟩:=ri
  obtain ⟨its,n,r,ho,hz⟩:=I.lst hp
  obtain ⟨h1,h2,h3,h4⟩:=XY hj
  have hl:=r.length
  have hn:=Z5
  have I' : Inv X pins σ (upd H p (.lst (xs.set j v))) { s with heap:=s.heap.update p (Obj.mapSeq (·.setIfInBounds j u)) } :=
    I.lstUpd hp ho (YC its n j u) (r.set rv j) (by rw [List.length_set]; exact hz) s.toks
  by_cases h0 : 0 ≤ k
  · have hk : k.toNat = j:=by
      rw [seqIndex_of h0 h4] at h1
      exact Option.some.inj h1
    exact PySem.W.ki_setAt ho h0 (by omega) (by rw [List.size_toArray,← hl]; exact h4) (by rw [hk]; exact ⟨_,I',q⟩)
  · have hk : (k + (its.toArray.size : Int)).toNat = j:=by
      rw [seqIndex_neg (by omega) h3] at h1
      rw [List.size_toArray,← hl]
      exact Option.some.inj h1
    exact PySem.W.ki_setBack ho (by omega) (by rw [List.size_toArray,← hl]; exact h3) (by omega) (by rw [hk]; exact ⟨_,I',q⟩)
theorem uD (lo hi : Option Int) (n : Nat) : (sliceBounds lo hi none n).1 = ((HT.sIx n 0 lo : Nat) : Int)∧(sliceBounds lo hi none n).2.1 = ((HT.sIx n n hi : Nat) : Int)∧(sliceBounds lo hi none n).2.2 = 1:=by
  refine ⟨?_,?_,rfl⟩
  · cases lo with
    | none=>simp [sliceBounds,HT.sIx]
    | some i =>
      simp only [sliceBounds,HT.sIx,Option.getD_none,show (1 : Int) > 0 by decide,if_true]
      by_cases h : i < 0
      · simp only [h,if_true] <;> omega
      · simp only [h,if_false] <;> omega
  · cases hi with
    | none=>simp [sliceBounds,HT.sIx]
    | some i =>
      simp only [sliceBounds,HT.sIx,Option.getD_none,show (1 : Int) > 0 by decide,if_true]
      by_cases h : i < 0
      · simp only [h,if_true] <;> omega
      · simp only [h,if_false] <;> omega
theorem vN (its : List Value) (lo hi : Option Int) : slicePick its.toArray lo hi none = ((its.drop (HT.sIx its.length 0 lo)).take (HT.sIx its.length its.length hi - HT.sIx its.length 0 lo)).toArray:=by
  obtain ⟨h1,h2,h3⟩:=uD lo hi its.toArray.size
  unfold slicePick
  rw [h1,h2,h3]
  simp only [sliceRange_one,pick_run,List.size_toArray] <;> rfl
def zo5 (K : PySem.W.Frag) : V→Option Int→Option Int→Hp→VK→Prop:=fun x lo hi H Q=>∃ a xs,x = .ref a∧SqL K H a xs∧∀ p,H p = none→Q (.ref p) (upd H p (.lst (vA xs lo hi)))
theorem zK : SlR X (zo5 X.K):=by
  intro pins s σ H x v vl vu lo hi sl Q I rx hs pl pu h
  obtain ⟨a,xs,rfl,hx,q⟩:=h
  cases rx
  obtain ⟨its,r,ht,hz⟩:=I.list hx
  have hlen:=r.length
  refine ⟨"list",_,slot_list_getitem.lookup,ht.isList.typeIs,?_⟩
  refine wpAny_getItem_list_slice ht.isList hs pl pu .none (by simp) ?_ (by rw [List.size_toArray] <;> omega)
  rw [vN,← hlen]
  refine ⟨.ref s.heap.objs.size,_,I.laid (t':=s.toks) (o:=.lst (vA xs lo hi)) (fun b ob q=>Heap.get?_push_of_some _ q) (Nat.le_refl _) ?_,rfl,q _ (I.hok.fresh (Nat.le_refl _))⟩
  exact ⟨Nat.le_trans (vt xs lo hi) hz,_,0,(r.drop (HT.sIx xs.length 0 lo)).take (HT.sIx xs.length xs.length hi - HT.sIx xs.length 0 lo),Heap.get?_push_size _ rfl⟩
def vq : V→Bool
  | .non=>true
  | .bl _=>true
  | .int _=>true
  | .str _=>true
  | _=>false
def eqV : V→V→Bool
  | .non,.non=>true
  | .bl a,.bl b=>a == b
  | .bl a,.int b=>(if a then 1 else 0) == b
  | .int a,.bl b=>a == (if b then 1 else 0)
  | .int a,.int b=>a == b
  | .str a,.str b=>a == b
  | _,_=>false
theorem zeD {A : Around} {s : Shared} {y x : V} {u v : Value} (ry : RelV y u) (rx : RelV x v) (fy : vq y = true) (fx : vq x = true) : SeqAt.EqAt A s u v (eqV y x):=by
  cases y with
  | non =>
    cases ry
    cases x with
    | non=>cases rx; exact SeqAt.EqAt.same _
    | bl b=>cases rx; exact SeqAt.EqAt.none_bool b
    | int b=>obtain ⟨t,rfl⟩:=rx; exact SeqAt.EqAt.none_int b t
    | str b=>obtain ⟨t,rfl⟩:=rx; exact SeqAt.EqAt.none_str b t
    | _=>exact absurd (show false = true from fx) Bool.false_ne_true
  | bl a =>
    cases ry
    cases x with
    | non=>cases rx; exact SeqAt.EqAt.bool_none a
    | bl b=>cases rx; exact SeqAt.EqAt.bool_bool a b
    | int b=>obtain ⟨t,rfl⟩:=rx; exact SeqAt.EqAt.bool_int a b t
    | str b=>obtain ⟨t,rfl⟩:=rx; exact SeqAt.EqAt.bool_str a b t
    | _=>exact absurd (show false = true from fx) Bool.false_ne_true
  | int a =>
    obtain ⟨t',rfl⟩:=ry
    cases x with
    | non=>cases rx; exact SeqAt.EqAt.int_none a t'
    | bl b=>cases rx; exact SeqAt.EqAt.int_bool a t' b
    | int b=>obtain ⟨t,rfl⟩:=rx; exact SeqAt.EqAt.int_int a t' b t
    | str b=>obtain ⟨t,rfl⟩:=rx; exact SeqAt.EqAt.int_str a t' b t
    | _=>exact absurd (show false = true from fx) Bool.false_ne_true
  | str a =>
    obtain ⟨t',rfl⟩:=ry
    cases x with
    | non=>cases rx; exact SeqAt.EqAt.str_none a t'
    | bl b=>cases rx; exact SeqAt.EqAt.str_bool a t' b
    | int b=>obtain ⟨t,rfl⟩:=rx; exact SeqAt.EqAt.str_int a t' b t
    | str b=>obtain ⟨t,rfl⟩:=rx; exact SeqAt.EqAt.str_str a t' b t
    | _=>exact absurd (show false = true from fx) Bool.false_ne_true
  | _=>exact absurd (show false = true from fy) Bool.false_ne_true
def eqU (x : V) (u : Value) : Bool:=match u with
  | .none=>eqV .non x
  | .bool b=>eqV (.bl b) x
  | .int i _=>eqV (.int i) x
  | .str z _=>eqV (.str z) x
  | _=>false
theorem Uq {x y : V} {u : Value} (r : RelV y u) (f : vq y = true) : eqU x u = eqV y x:=by
  cases y with
  | non=>cases r; rfl
  | bl b=>cases r; rfl
  | int i=>obtain ⟨t,rfl⟩:=r; rfl
  | str z=>obtain ⟨t,rfl⟩:=r; rfl
  | _=>exact absurd (show false = true from f) Bool.false_ne_true
theorem ZG {x : V} : ∀ {xs : List V} {us : List Value},Vals xs us→xs.all vq = true→us.any (eqU x) = xs.any fun y=>eqV y x
  | _,_,.nil,_=>rfl
  | y :: xs,u :: us,.cons r t,f=>by
    rw [List.all_cons,Bool.and_eq_true] at f
    rw [List.any_cons,List.any_cons,Uq r f.1,ZG t f.2]
theorem v8 {A : Around} {s : Shared} {x : V} {v : Value} (rx : RelV x v) (fx : vq x = true) : ∀ {xs : List V} {us : List Value},Vals xs us→xs.all vq = true→∀ u ∈ us,SeqAt.EqAt A s u v (eqU x u)
  | _,_,.nil,_=>fun u hu=>by cases hu
  | y :: xs,u :: us,.cons r t,f=>fun u' hu=>by
    rw [List.all_cons,Bool.and_eq_true] at f
    rcases List.mem_cons.mp hu with rfl | hu
    · rw [Uq r f.1]; exact zeD r rx f.1 fx
    · exact v8 rx fx t f.2 u' hu
def inV (x : V) (xs : List V) : Bool:=xs.any fun y=>eqV y x
def rIn (K : PySem.W.Frag) (neg : Bool) : R2:=fun x y H Q=>∃ p xs,y = .ref p∧(SqL K H p xs∨SqT K H p xs)∧vq x = true∧xs.all vq = true∧Q (.bl (if neg then !inV x xs else inV x xs)) H
theorem vd : OpR X (compareOp .In) (rIn X.K false):=by
  intro pins s σ H x y v u Q I rx ry h
  obtain ⟨p,xs,rfl,hq,fx,fs,q⟩:=h
  cases ry
  rcases hq with hq | hq
  · obtain ⟨its,r,pl,hz⟩:=I.list hq
    refine SeqAt.in_listAt (eqU x) pl.isList (fun w hw=>v8 rx fx r fs w (by simpa using hw)) ⟨.bl _,H,I,rfl,?_⟩
    rw [show its.toArray.any (eqU x) = its.any (eqU x) by simp,ZG r fs]
    exact q
  · obtain ⟨its,r,pl,hz⟩:=I.tuple hq
    refine SeqAt.in_tupleAt (eqU x) pl (fun w hw=>v8 rx fx r fs w (by simpa using hw)) ⟨.bl _,H,I,rfl,?_⟩
    rw [show its.toArray.any (eqU x) = its.any (eqU x) by simp,ZG r fs]
    exact q
theorem zE : xU X (.builtin "len") (fun xs H Q=>∃ p ys,xs = [.ref p]∧(SqL X.K H p ys∨SqT X.K H p ys)∧Q (.int ys.length) H):=by
  intro pins s σ H xs us Q I r h
  obtain ⟨p,ys,rfl,hq,q⟩:=h
  obtain ⟨u,rfl,rx⟩:=Yo r
  cases rx
  have hn:=Z5
  rcases hq with hq | hq
  · obtain ⟨its,r',pl,hz⟩:=I.list hq
    have hlen:=r'.length
    exact Calls.call_len_list pl.isList (by simp only [List.size_toArray] <;> omega) ⟨.int ys.length,H,I.tok _,⟨s.toks + 1,by rw [List.size_toArray,hlen]⟩,q⟩
  · obtain ⟨its,r',pl,hz⟩:=I.tuple hq
    have hlen:=r'.length
    exact len_tuple pl (by simp only [List.size_toArray] <;> omega) ⟨.int ys.length,H,I.tok _,⟨s.toks + 1,by rw [List.size_toArray,hlen]⟩,q⟩
def tyV (K : PySem.W.Frag) (T : String) (x : V) (H : Hp) : Prop:=match x with
  | .str _=>T = "str"
  | .int _=>T = "int"
  | .ref p=>(T = "list" ∧ ∃ xs,SqL K H p xs)∨(T = "tuple" ∧ ∃ o,K.lookup p = some o∧o.cls = .type "tuple" ∧ o.dict = none) ∨
      (T = "dict" ∧ ((∃ kvs,H p = some (.dK kvs))∨∃ kvs,H p = some (.dT kvs)))∨(T = "set" ∧ ∃ S n,H p = some (.set S n))
  | _=>False
theorem VV {pins : List (Addr × Obj)} {σ : St} {H : Hp} {s : Shared} {T : String} {x : V} {v : Value} (I : Inv X pins σ H s) (r : RelV x v) (ty : tyV X.K T x H) :
    s.TypeIs v T∧∀ a,v = .ref a→∃ ob,s.heap.get? a = some ob∧ob.dict = none:=by
  cases x with
  | str z =>
    obtain ⟨t,rfl⟩:=r
    cases (show T = "str" from ty)
    exact ⟨typeIs_str s z t,fun _ e=>nomatch e⟩
  | int i =>
    obtain ⟨t,rfl⟩:=r
    cases (show T = "int" from ty)
    exact ⟨typeIs_int s i t,fun _ e=>nomatch e⟩
  | ref p =>
    cases r
    rcases ty with ⟨rfl,xs,hq⟩ | ⟨rfl,o,hk,hc,hd⟩ | ⟨rfl,hk⟩ | ⟨rfl,S,n,hk⟩
    · obtain ⟨its,_,pl,_⟩:=I.list hq
      refine ⟨pl.isList.typeIs,fun a e=>?_⟩
      cases e
      obtain ⟨o,n,e,c,hd,_⟩:=pl
      exact ⟨o,e,hd⟩
    · refine ⟨⟨o,I.kIn p o hk,hc⟩,fun a e=>?_⟩
      cases e
      exact ⟨o,I.kIn _ o hk,hd⟩
    · have z : ∃ o,s.heap.get? p = some o∧o.ExactDict:=by
        rcases hk with ⟨kvs,hk⟩ | ⟨kvs,hk⟩
        · obtain ⟨_,_,_,_,o,_,_,e,ex,_⟩:=I.hok p _ hk
          exact ⟨o,e,ex⟩
        · obtain ⟨_,_,_,_,o,_,_,e,ex,_⟩:=I.hok p _ hk
          exact ⟨o,e,ex⟩
      obtain ⟨o,e,ex⟩:=z
      refine ⟨⟨o,e,ex.1⟩,fun a e2=>?_⟩
      cases e2
      exact ⟨o,e,ex.2.1⟩
    · obtain ⟨o,_,_,_,e,ex,_⟩:=I.hok p _ hk
      refine ⟨⟨o,e,ex.1⟩,fun a e2=>?_⟩
      cases e2
      exact ⟨o,e,ex.2.1⟩
  | _=>exact False.elim ty
def zjJ (K : PySem.W.Frag) (T : String) (r : V→List V→Hp→VK→Prop) (to : TE) : TE:=fun σ H Q=>to σ H fun x H1=>tyV K T x H1∧r x [] H1 Q
def tBM (K : PySem.W.Frag) (T : String) (r : V→List V→Hp→VK→Prop) (to : TE) (t : TA) : TE:=fun σ H Q=>to σ H fun x H1=>tyV K T x H1∧t σ H1 fun xs H2=>r x xs H2 Q
variable {o e : Expr} {es : List Expr} {to : TE} {t : TA} {name : Str} {apos cpos : Pos} {T id : String} {r : V→List V→Hp→VK→Prop}
theorem zd2 (pa : PlainAttrs T) (slot : Slot T name id) (hty : typeOf (.builtin id) = pure (.type "method_descriptor")) (hm : MtR X id r) (ho : PE X o to)
    (hbase : attributeBase o name X.env (eval o X.env) = eval o X.env:=by rfl) (hline : (apos.endLine == cpos.line) = true:=by rfl) : PE X (.Call (.Attribute o name apos) [] [] cpos) (zjJ X.K T r to):=by
  intro pins s σ H Q I h
  refine wpAny_Call_method0_late hbase hline (thn (ho pins s σ H _ I h) fun v s1 ⟨x,H1,I1,r1,ty,q1⟩=>?_)
  obtain ⟨h1,h2⟩:=VV I1 r1 ty
  exact ⟨T,id,pa,slot,hty,h1,h2,Calls.callWith_builtin rfl (PySem.evalArgs_none (hm pins s1 σ H1 x [] v [] Q I1 r1 .nil q1))⟩
theorem zjl (pa : PlainAttrs T) (slot : Slot T name id) (hty : typeOf (.builtin id) = pure (.type "method_descriptor")) (hm : MtR X id r) (ho : PE X o to) (ha : PA X (e :: es) t)
    (hbase : attributeBase o name X.env (eval o X.env) = eval o X.env:=by rfl)
    (hfew : ((backTo cpos (starEach (e :: es) X.env)).all (fun x=>!x.1) && (backToKw cpos (keywordEach [] X.env)).all (fun x=>x.1.isSome)
      && decide ((e :: es).length + ([] : List Keyword).length + (if ([] : List Keyword).isEmpty then 0 else 1) < 30)) = true:=by rfl)
    (hline : (apos.endLine == cpos.line) = true:=by rfl) (hs : starEach (e :: es) X.env = (false,eval e X.env) :: starEach es X.env:=by rfl) (hplain : (backTo cpos (starEach es X.env)).any (·.1) = false:=by rfl) :
    PE X (.Call (.Attribute o name apos) (e :: es) [] cpos) (tBM X.K T r to t):=by
  intro pins s σ H Q I h
  refine wpAny_Call_method_late hbase hfew hline rfl (thn (ho pins s σ H _ I h) fun v s1 ⟨x,H1,I1,r1,ty,q1⟩=>?_)
  obtain ⟨h1,h2⟩:=VV I1 r1 ty
  refine ⟨T,id,pa,slot,hty,h1,h2,?_⟩
  have hA:=ha cpos pins s1 σ H1 _ I1 q1
  rw [hs] at hA ⊢
  refine Calls.callWith_builtin (by show (false || (backTo cpos (starEach es X.env)).any (·.1)) = false; rw [hplain] <;> rfl) (Calls.evalArgs_plain ?_)
  exact thn hA fun us s2 ⟨vs,H2,I2,r2,q2⟩=>hm pins s2 σ H2 x vs v us Q I2 r1 r2 q2
end
end L2
namespace L2
open PySem PySem.Spec PyProof.Rows
def MtM (X : Cx) (id : String) (r : V→List V→Hp→VK→Prop) : Prop :=
  ∀ (pins : List (Addr × Obj)) (s : Shared) (σ : St) (H : Hp) (x : V) (xs : List V) (v : Value) (us : List Value) (Q : VK),Inv X pins σ H s→RelV x v→Vals xs us→r x xs H Q →
    wpAny (model X.prog X.w) X.A (call (.builtin id) (v :: us)) (EP X pins σ Q) X.xe s
theorem Vals.one : ∀ {x : V} {us : List Value},Vals [x] us→∃ u,us = [u]∧RelV x u
  | _,_,.cons r .nil=>⟨_,rfl,r⟩
theorem Vals.two : ∀ {x y : V} {us : List Value},Vals [x,y] us→∃ u v,us = [u,v]∧RelV x u∧RelV y v
  | _,_,_,.cons r (.cons q .nil)=>⟨_,_,rfl,r,q⟩
section
variable {X : Cx} {pins : List (Addr × Obj)} {σ : St} {H : Hp} {s : Shared} {l b : Addr} {xs ys zs : List V}
theorem Inv.lset {its its' : List Value} {n : Nat} {f : Array Value→Array Value} {t' : Nat} (I : Inv X pins σ H s) (hH : H l = some (.lst xs))
    (e : s.heap.get? l = some { cls:=.type "list",data:=.seq its.toArray n }) (hf : f its.toArray = its'.toArray) (hv : Vals ys its') (hz : ys.length ≤ sizeLine) :
    Inv X pins σ (upd H l (.lst ys)) { s with heap:=s.heap.update l (Obj.mapSeq f),toks:=t' }:=by
  have q:=PySem.IsL.update e f
  rw [hf] at q
  refine I.write (x:=l) (e:=l) (by rw [hH]; exact trivial) (.inl rfl) (fun b' u hb hu=>(Heap.get?_update_other s.heap (Obj.mapSeq f) (Ne.symm hb)).trans hu) ⟨_,q⟩ ?_
  exact ⟨hz,its',_,hv,q⟩
theorem Inv.lnew {its : List Value} {t' : Nat} (I : Inv X pins σ H s) (hv : Vals ys its) (hz : ys.length ≤ sizeLine) :
    Inv X pins σ (upd H s.heap.objs.size (.lst ys)) { s with heap:=s.heap.push { cls:=.type "list",data:=.seq its.toArray },toks:=t' } :=
  I.laid (fun _ _ q=>Heap.get?_push_of_some _ q) (Nat.le_refl _) ⟨hz,its,0,hv,Heap.get?_push_size _ rfl⟩
theorem Inv.fresh (I : Inv X pins σ H s) : H s.heap.objs.size = none:=I.hok.fresh (Nat.le_refl _)
theorem Inv.lstM (I : Inv X pins σ H s) (hH : H l = some (.lst xs)) : xs.length ≤ sizeLine∧∃ (its : List Value) (n : Nat),Vals xs its∧xs.length = its.length∧s.heap.get? l = some { cls:=.type "list",data:=.seq its.toArray n }:=by
  obtain ⟨z,its,n,r,e⟩:=I.hok l _ hH
  exact ⟨z,its,n,r,r.length,e⟩
theorem Vm {n : Nat} (h : n ≤ sizeLine) : Builtin.List.listTooLong n = false:=by
  unfold Builtin.List.listTooLong
  exact decide_eq_false (by omega)
end
section
variable {X : Cx}
def UT : V→List V→Hp→VK→Prop:=fun x vs H Q=>∃ l xs y,x = .ref l∧vs = [y]∧H l = some (.lst xs)∧xs.length < sizeLine∧Q .non (upd H l (.lst (xs ++ [y])))
theorem u5 : MtM X "list.append" UT:=by
  intro pins s σ H x vs v us Q I rx rv h
  obtain ⟨l,xs,y,rfl,rfl,hH,hz,q⟩:=h
  cases rx
  obtain ⟨u,rfl,ru⟩:=rv.one
  obtain ⟨z,its,n,r,hl,e⟩:=I.lstM hH
  refine call_meets F.slot_list_append ⟨_,e,rfl⟩ F.entry_list_append (F.args_list_append_2 _ _) (PySem.list_append l its.toArray n u (by rw [List.size_toArray]; omega)) ⟨e,?_⟩
  refine ⟨.non,_,I.lset (its':=its ++ [u]) hH e (by simp) (r.append (.cons ru .nil)) ?_,rfl,q⟩
  rw [List.length_append,List.length_singleton]
  omega
def US : V→List V→Hp→VK→Prop:=fun x vs H Q=>∃ l b xs zs,x = .ref l∧vs = [.ref b]∧H l = some (.lst xs)∧H b = some (.lst zs)∧xs.length + zs.length ≤ sizeLine∧Q .non (upd H l (.lst (xs ++ zs)))
theorem XQ : MtM X "list.extend" US:=by
  intro pins s σ H x vs v us Q I rx rv h
  obtain ⟨l,b,xs,zs,rfl,rfl,hH,hB,hz,q⟩:=h
  cases rx
  obtain ⟨u,rfl,ru⟩:=rv.one
  cases ru
  obtain ⟨z,its,n,r,hl,e⟩:=I.lstM hH
  obtain ⟨z2,its2,n2,r2,hl2,e2⟩:=I.lstM hB
  have hsz : its.toArray.size + its2.toArray.size ≤ sizeLine:=by rw [List.size_toArray,List.size_toArray]; omega
  have hlong : ¬ (!its.toArray.isEmpty && Builtin.List.listTooLong (its.toArray.size + its2.toArray.size)) = true:=by
    rw [Vm hsz,Bool.and_false]
    exact Bool.false_ne_true
  refine call_meets F.slot_list_extend ⟨_,e,rfl⟩ F.entry_list_extend (F.args_list_extend_2 _ _)
    (AutoSeq1.list_extend_list_list_0 l its.toArray n b its2.toArray n2 hlong (by rw [List.size_toArray]; omega) (by omega)) ⟨e,e2,?_⟩
  refine ⟨.non,_,I.lset (its':=its ++ its2) hH e (by simp) (r.append r2) ?_,rfl,q⟩
  rw [List.length_append]
  omega
def zdD : R2:=fun x y H Q=>∃ l b xs zs,x = .ref l∧y = .ref b∧H l = some (.lst xs)∧H b = some (.lst zs)∧xs.length + zs.length ≤ sizeLine∧∀ p,H p = none→Q (.ref p) (upd H p (.lst (xs ++ zs)))
theorem zH : OpR X (binaryOp .Add) zdD:=by
  intro pins s σ H x y v u Q I rx ry h
  obtain ⟨l,b,xs,zs,rfl,rfl,hH,hB,hz,q⟩:=h
  cases rx
  cases ry
  obtain ⟨z,its,n,r,hl,e⟩:=I.lstM hH
  obtain ⟨z2,its2,n2,r2,hl2,e2⟩:=I.lstM hB
  refine PySem.P.add_list e e2 ?_ (by rw [List.size_toArray,List.size_toArray]; omega)
  have ea : its.toArray ++ its2.toArray = (its ++ its2).toArray:=by simp
  rw [ea]
  exact ⟨.ref _,_,I.lnew (t':=s.toks) (r.append r2) (by rw [List.length_append]; omega),rfl,q _ I.fresh⟩
end
section
variable {prog : Program} {w : World} {A : Around} {E : Value→Shared→Prop} {s : Shared}
end
section
variable {X : Cx}
end
end L2
namespace L2
open PySem PySem.Spec PyProof.Rows
section
variable {κ : Type} [DecidableEq κ]
end
section
variable {P : Program} {w : World} {H : Hp} {h : Heap} {a : Addr}
end
section
variable {X : Cx} {pins : List (Addr × Obj)} {σ : St} {H : Hp} {s : Shared} {a : Addr} {y v : V} {u r : Value} {o : Option V} {A : Around} {E : Value→Shared→Prop}
end
section
variable {X : Cx} {pins : List (Addr × Obj)} {σ : St} {H : Hp} {s : Shared} {a : Addr} {kvs : List (Key × V)} {k : Key} {u : Value} {A : Around} {E : Value→Shared→Prop}
end
section
variable {X : Cx} {o i e value : Expr} {pos pos' tpos : Pos} {td ty tv : TE}
end
section
variable {X : Cx} {pos : Pos}
end
structure M2 (X : Cx) (o : Expr) (m : Str) (apos : Pos) (e f : Expr) (cpos : Pos) : Prop where
  base : attributeBase o m X.env (eval o X.env) = eval o X.env
  few : ((backTo cpos (starEach [e,f] X.env)).all (fun x=>!x.1) && (backToKw cpos (keywordEach [] X.env)).all (fun x=>x.1.isSome)
    && decide (([e,f] : List Expr).length + ([] : List Keyword).length + (if ([] : List Keyword).isEmpty then 0 else 1) < 30)) = true
  line : (apos.endLine == cpos.line) = true
  trees : backTo cpos (starEach [e,f] X.env) = [(false,eval e X.env),(false,eval f X.env)]
section
variable {X : Cx} {pins : List (Addr × Obj)} {σ : St} {H : Hp} {s : Shared} {a : Addr} {y d : V} {u r : Value} {o : Option V} {A : Around} {E : Value→Shared→Prop}
end
section
variable {X : Cx} {o e f : Expr} {apos cpos : Pos} {td ty tx : TE}
end
section
variable {X : Cx} {pins : List (Addr × Obj)} {σ : St} {H : Hp} {s : Shared} {a : Addr} {kvs : List (Key × V)} {A : Around} {E : Value→Shared→Prop}
end
section
variable {X : Cx} {pins : List (Addr × Obj)} {σ : St} {H : Hp} {s : Shared} {a : Addr} {y : V} {u : Value} {A : Around} {E : Value→Shared→Prop}
end
end L2
namespace Att
open PySem PySem.W PySem.Calls PyProof.Rows
theorem vp {P : Params} {h : Heap} : ∀ (ns : List Int) (vs : List Value),WellAll P h vs (ns.map WData.int)→IntsAre vs ns:=by
  intro ns
  induction ns with
  | nil =>
    intro vs w
    rw [List.map_nil] at w
    cases w
    exact .nil
  | cons n ns ih =>
    intro vs w
    rw [List.map_cons] at w
    cases w with
    | cons a b =>
      cases a
      exact .cons _ _ (ih _ b)
theorem Xg {l : OpenLaw} {n : Nat} (hn : l.most = some n) {P : Params} {h : Heap} {args : List WData} {vals : List Value}
    (hpre : l.row.toRowW.claim.pre args = true) (hwl : WellAll P h vals args) :
    ∃ a vs ns,vals = [Value.ref a]∧args = [WData.list (ns.map WData.int)]∧h.get? a = some { cls:=.type "list",data:=.seq vs.toArray }∧IntsAre vs ns∧ns.length ≤ n:=by
  have hsh : WShape.hasAll [] args [.list .int] = true:=(pre_splitW hpre).1
  have hc : l.pre.holds [] { args:=args } = true:=(pre_splitW hpre).2
  obtain ⟨d,r,rfl,h1,h2⟩:=hasAllW_cons hsh
  obtain rfl:=hasAllW_nil h2
  obtain ⟨xs,rfl,h3⟩:=hasW_list h1
  obtain ⟨ns,rfl⟩:=items_int h3
  have hlen : ns.length ≤ n:=by
    unfold OpenLaw.pre at hc
    have h4 : (WTm.not (.lt (.lit (.int (n : Int))) (.len (.arg 0)))).holds [] { args:=[.list (ns.map .int)] } = true:=by
      have h4:=(holds_andW hc).1
      rw [hn] at h4
      exact h4
    have h5:=condW_of h4 (w_not (w_lt w_lit (w_len_list (w_arg rfl))))
    rw [List.length_map] at h5
    refine Nat.le_of_not_lt fun q=>?_
    have q' : (n : Int) < ((ns.length : Nat) : Int):=by omega
    first
      | (rw [decide_eq_true q'] at h5; exact absurd h5 (by decide))
      | (simp at h5; omega)
  cases hwl with
  | cons w1 w2 =>
    cases w2
    cases w1 with
    | list ho hall=>exact ⟨_,_,ns,rfl,rfl,ho,vp ns _ hall,hlen⟩
theorem Xn (l : OpenLaw) (args : List WData) : l.row.toRowW.claim.post args (.bool true) args = true :=
  postW_of (r:=l.row.toRowW) (X:=(true == true))
    (show WShape.has [] (.bool true) .bool = true by first | rfl | decide | simp [WShape.has,WShape.arms,WShape.armsAll])
    (show (WTm.eq .res (.lit (.bool true))).value [] { args:=args,res:=some (.bool true),after:=args } = some (.bool (true == true)) from w_eq_bool (w_res rfl) w_lit) rfl
theorem attach_call {l : OpenLaw} {n : Nat} {q : Program} {loose : List Str} {XP : (Str→Option Value)→Heap→Prop} {YP : World→Heap→Prop} {d : DefRec}
    (hn : l.most = some n) (hdf : d.params.defaults = [])
    (call : ∀ (w : World) (s₀ s₁ : Shared) (mg mb : Str→Option Value) (fa : Addr) (o : Obj) (pm cd doc : Value) (a : Addr) (vs : List Value) (ns : List Int),
      Ground q loose [] XP w s₀ mg mb s₁.heap→YP w s₁.heap →
      s₁.heap.get? fa = some o→o.data = .func (docDef d.name d.params d.body d.scope pm cd doc)→s₁.heap.CodeRec cd d.name→mg d.name = some (.ref fa) →
      s₁.heap.get? a = some { cls:=.type "list",data:=.seq vs.toArray }→IntsAre vs ns→ns.length ≤ n→s₁.gens = #[] →
      codeAny (model l.prog w) callerA (.call (.ref fa) ⟨[.ref a],[]⟩) (fun r s'=>r = .ok (.ret (.bool true))∧OldK s₁.heap s'.heap∧s'.os = s₁.os∧AllBare s'.gens) s₁) :
    WalkO q loose XP YP l.row.toRowW d [] (fun f vs=>PySem.call f vs):=by
  intro w s₀ s₁ mg mb G Y fa o pm cd doc dV kV ho hd hcd hD hmg hg args vals as hpre hlay hrd hwl hlo
  obtain rfl : dV = .none:=Dflts.none hD hdf
  obtain rfl : kV = .none:=Dflts.noKw hD
  obtain ⟨a,vs,ns,rfl,rfl,hobj,hints,hlen⟩:=Xg hn hpre hwl
  refine enter_call (codeAny_mono (call w s₀ s₁ mg mb fa o pm cd doc a vs ns G Y ho (fd_plain hd) hcd hmg hobj hints hlen hg) fun r s' hq=>?_)
  obtain ⟨rfl,h2,h3,h4⟩:=hq
  exact ⟨.inl ⟨.bool true,.bool true,[],rfl,fun _=>rfl,.bool true,Xn l _,fun _=>⟨List.Pairwise.nil,fun _ hm=>(nomatch hm)⟩⟩,h2,h3,h4⟩
section
variable {prog : Program} {w : World} {A : Around} {E : Value→Shared→Prop} {s : Shared} {K : Frag}
end
end Att
namespace L2
open PySem PySem.Spec PyProof.Rows
theorem ux : ∀ {vs : List Value} {ns : List Int},IntsAre vs ns→Vals (ns.map V.int) vs
  | _,_,.nil=>.nil
  | _,_,.cons n t h=>.cons ⟨t,rfl⟩ (ux h)
def zeM (H : Hp) : Prop:=∀ b,H b = none∨∃ o xs,H b = some (.frz o (.lst xs))
theorem Vt {P : Program} {w : World} {K : PySem.W.Frag} {mg mb : Str→Option Value} {CX : CXT} {k : Nat} {fa a : Addr} {fd : FuncData} {x : Str} {sp : Sp} {s₁ : Shared} {vs : List Value} {ns : List Int}
    (KX : K.In s₁.heap) (hns : s₁.heap.Ns mainGlobals mg) (hb : s₁.heap.Ns builtinsNs mb) (hbb : ∀ x : Str,x ≠ "__name__" → mb x = bootBuiltins x) (hlim : s₁.heap.NoLimit) (hg : s₁.gens = #[])
    (ha : s₁.heap.get? a = some { cls:=.type "list",data:=.seq vs.toArray }) (hi : IntsAre vs ns) (hl : ns.length ≤ sizeLine) (hr : Room k callerA)
    (F : ∀ base : Heap,K.In base→base.Ns mainGlobals mg→FnOk P w K mg base CX k fa fd [x] sp) (hbind : ∀ (s : Shared) (u : Value),BindsTo s fd ⟨[u],[]⟩ [(x,u)])
    (hsp : ∀ H : Hp,zeM H→SqL K H a (ns.map V.int)→sp [.ref a] H (fun v _=>v = .bl true) fun _ _ _=>False)
    (hCX : ∀ H e s',CX [] H s₁ (fun _ _ _=>False) e s'→False) :
    codeAny (model P w) callerA (.call (.ref fa) ⟨[.ref a],[]⟩) (fun r s'=>r = .ok (.ret (.bool true))∧OldK s₁.heap s'.heap∧s'.os = s₁.os∧AllBare s'.gens) s₁:=by
  have rv:=ux hi
  have lenV:=hi.length
  -- from an abstract heap in which nothing but the script may be tracked
  have core : ∀ H : Hp,zeM H→SqL K H a (ns.map V.int)→HOk P w H s₁.heap→(∀ b,H b ≠ none→b = a)→(H a ≠ none→K.lookup a = none) →
      codeAny (model P w) callerA (.call (.ref fa) ⟨[.ref a],[]⟩) (fun r s'=>r = .ok (.ret (.bool true))∧OldK s₁.heap s'.heap∧s'.os = s₁.os∧AllBare s'.gens) s₁:=by
    intro H hO hS hok hA hK
    have base_of : ∀ {b : Addr} {o : Obj},s₁.heap.get? b = some o→H b = none→(VA s₁.heap H).get? b = some o:=fun e n=>Vz e n
    have noA : ∀ {b : Addr} {o : Obj} {es : Array DictEntry} {ep : Nat},s₁.heap.get? b = some o→o.data = .dict es ep→H b = none:=fun {b o es ep} e d=>by
      cases q : H b with
      | none=>rfl
      | some u =>
        have e' : b = a:=hA b (by rw [q]; simp)
        subst e'
        rw [ha] at e; cases e
        have d' : Data.seq vs.toArray _ = Data.dict es ep:=d
        cases d'
    have nsK : ∀ {b : Addr} {m : Str→Option Value},s₁.heap.Ns b m→(VA s₁.heap H).Ns b m:=fun {b m} ⟨o,es,ep,e,d,r⟩=>⟨o,es,ep,base_of e (noA e d),d,r⟩
    have hKb : K.In (VA s₁.heap H):=fun b o e=>base_of (KX b o e) (by
      cases q : H b with
      | none=>rfl
      | some u =>
        have e' : b = a:=hA b (by rw [q]; simp)
        subst e'
        rw [hK (by rw [q]; simp)] at e; cases e)
    have hM : Mod K mg (VA s₁.heap H):=⟨hKb,nsK hns,⟨mb,nsK hb,hbb⟩,let ⟨mc,h1,h2⟩:=hlim; ⟨mc,nsK h1,h2⟩⟩
    have e0 : Env0 P w K mg (VA s₁.heap H) callerA [] s₁ H:=⟨rfl,hM,fun b o e=>zaj e,Nat.le_of_eq (X4 _ _),trivial,fun b hb=>absurd (show b ∈ ([] : List Addr) from hb) (by simp),hok,.of_eq hg⟩
    refine codeAny_mono ((F _ hKb (nsK hns)).run callerA [] s₁ H ⟨[.ref a],[]⟩ [.ref a] [.ref a] _ _ hr e0 (hbind s₁ (.ref a)) (.cons rfl .nil) (hsp H hO hS)) fun r s' h=>?_
    cases r with
    | error e=>exact (hCX H e s' h).elim
    | ok fl =>
      cases fl with
      | next=>exact False.elim h
      | brk=>exact False.elim h
      | cont=>exact False.elim h
      | ret u =>
        obtain ⟨v,H',os,bare,un,hok',r',q⟩:=h
        have q' : v = .bl true:=q
        subst q'
        obtain rfl : u = Value.bool true:=r'
        refine ⟨rfl,OldK.of_keep fun b o e=>?_,os,bare⟩
        cases q : H b with
        | none=>exact un.keep b o e q (by intro z; exact absurd (show b ∈ ([] : List Addr) from z) (by simp)) (by simp)
        | some u =>
          rcases hO b with z | ⟨ob,xs,z⟩
          · rw [q] at z; cases z
          · have z2:=un.frzs b ob _ z
            obtain ⟨e1,_⟩:=hok b _ z
            obtain ⟨e2,_⟩:=hok' b _ z2
            rw [e] at e1; cases e1
            exact e2
  cases hk : K.lookup a with
  | some o =>
    -- the script is one of the module's own objects
    have e:=KX a o hk
    rw [ha] at e
    cases e
    refine core (fun _=>none) (fun _=>.inl rfl) (.inr ⟨_,vs.toArray,_,hk,rfl,rfl,rfl,by rw [List.size_toArray,lenV]; exact hl,by simpa using rv⟩) (fun b u z=>by have z' : (none : Option HO) = some u:=z; cases z') (fun b z=>absurd rfl z) fun z=>absurd rfl z
  | none =>
    refine core (fun b=>if b = a then some (.frz { cls:=.type "list",data:=.seq vs.toArray } (.lst (ns.map V.int))) else none) (fun b=>?_) (.inl (.inr ⟨{ cls:=.type "list",data:=.seq vs.toArray },if_pos rfl⟩)) (fun b u z=>?_) (fun b z=>?_) fun _=>hk
    · by_cases hb : b = a
      · exact .inr ⟨_,_,if_pos hb⟩
      · exact .inl (if_neg hb)
    · by_cases hb : b = a
      · have z':=(if_pos hb).symm.trans z
        cases z'
        subst hb
        exact ⟨ha,by rw [List.length_map]; exact hl,vs,_,rv,ha⟩
      · have z':=(if_neg hb).symm.trans z
        cases z'
    · by_cases hb : b = a
      · exact hb
      · exact absurd (if_neg hb) z
end L2
namespace L2
open PySem PySem.Spec PyProof.Rows
abbrev KOf {K : PySem.W.Frag} {h : Heap} (_ : K.In h) : PySem.W.Frag:=K
theorem Ux {l : PySem.W.OpenLaw} {n k : Nat} {q : Program} {loose : List Str} {XP : (Str→Option Value)→Heap→Prop} {YP : World→Heap→Prop} {d : DefRec} {K : Params→PySem.W.Frag} {CX : World→CXT} {sp : World→Sp} {x : Str}
    (hn : l.most = some n) (hn2 : n ≤ sizeLine) (hdf : d.params.defaults = []) (hr : Room k callerA)
    (hY : ∀ (w : World) (h : Heap),YP w h→(K w.params).In h)
    (F : ∀ (w : World) (mg : Str→Option Value) (fa : Addr) (h : Heap),(K w.params).In h→h.Ns mainGlobals mg→mg d.name = some (.ref fa) →
      ∃ fd : FuncData,(∀ (s : Shared) (u : Value),BindsTo s fd ⟨[u],[]⟩ [(x,u)]) ∧
        ∀ base : Heap,(K w.params).In base→base.Ns mainGlobals mg→FnOk l.prog w (K w.params) mg base (CX w) k fa fd [x] (sp w))
    (hsp : ∀ (w : World) (H : Hp) (a : Addr) (ns : List Int),ns.length ≤ n→zeM H→SqL (K w.params) H a (ns.map V.int)→sp w [.ref a] H (fun v _=>v = .bl true) fun _ _ _=>False)
    (hCX : ∀ (w : World) (H : Hp) (s : Shared) (e : Value) (s' : Shared),CX w [] H s (fun _ _ _=>False) e s'→False) :
    PySem.W.WalkO q loose XP YP l.row.toRowW d [] (fun f vs=>PySem.call f vs):=by
  refine Att.attach_call hn hdf fun w s₀ s₁ mg mb fa o pm cd doc a vs ns G Y ho hd hcd hmg hobj hints hlen hg=>?_
  have KX:=hY w _ Y
  obtain ⟨fd,hb,hF⟩:=F w mg fa _ KX G.T.g hmg
  exact Vt KX G.T.g G.T.b G.T.builtins G.T.nolimit hg hobj hints (Nat.le_trans hlen hn2) hr hF hb (fun H hO hS=>hsp w H a ns hlen hO hS) fun H e s'=>hCX w H s₁ e s'
theorem walk_ofK {l : PySem.W.OpenLaw} {n k : Nat} {q : Program} {loose : List Str} {XP : (Str→Option Value)→Heap→Prop} {YP : World→Heap→Prop} {d : DefRec} {K : Params→PySem.W.Frag} {CX : CXT} {sp : PySem.W.Frag→Sp} {x : Str}
    (hn : l.most = some n) (hn2 : n ≤ sizeLine) (hdf : d.params.defaults = []) (hr : Room k callerA)
    (hY : ∀ (w : World) (h : Heap),YP w h→(K w.params).In h)
    (F : ∀ (w : World) (mg : Str→Option Value) (fa : Addr) (h : Heap),(K w.params).In h→h.Ns mainGlobals mg→mg d.name = some (.ref fa) →
      ∃ fd : FuncData,(∀ (s : Shared) (u : Value),BindsTo s fd ⟨[u],[]⟩ [(x,u)]) ∧
        ∀ base : Heap,(K w.params).In base→base.Ns mainGlobals mg→FnOk l.prog w (K w.params) mg base CX k fa fd [x] (sp (K w.params)))
    (hsp : ∀ (K : PySem.W.Frag) (H : Hp) (a : Addr) (ns : List Int),ns.length ≤ n→zeM H→SqL K H a (ns.map V.int)→sp K [.ref a] H (fun v _=>v = .bl true) fun _ _ _=>False)
    (hCX : ∀ (H : Hp) (s : Shared) (e : Value) (s' : Shared),CX [] H s (fun _ _ _=>False) e s'→False) :
    PySem.W.WalkO q loose XP YP l.row.toRowW d [] (fun f vs=>PySem.call f vs) :=
  Ux (K:=K) (CX:=fun _=>CX) (sp:=fun w=>sp (K w.params)) hn hn2 hdf hr hY F (fun w H a ns h1 h2 h3=>hsp (K w.params) H a ns h1 h2 h3) fun _ H s e s'=>hCX H s e s'
end L2
namespace L2
open PySem PySem.Spec PyProof.Rows
def inClass (s : Stmt) (j : Nat) : Stmt:=match s with
  | .ClassDef _ _ _ body _ _ _ _ _ _ _=>body.getD j (.Pass ⟨0,0,0,0⟩)
  | _=>.Pass ⟨0,0,0,0⟩
def defArgs (s : Stmt) : Arguments:=match s with
  | .FunctionDef _ a _ _ _ _ _ _ _ _=>a
  | _=>{ posonlyargs:=[],args:=[],vararg:=none,kwonlyargs:=[],kw_defaults:=[],kwarg:=none,defaults:=[] }
def defBody (s : Stmt) : List Stmt:=match s with
  | .FunctionDef _ _ b _ _ _ _ _ _ _=>b
  | _=>[]
def defScope (s : Stmt) : Scope:=match s with
  | .FunctionDef _ _ _ _ _ _ sc _ _ _=>sc
  | _=>{ kind:=.function,names:=[],isGenerator:=false,isCoroutine:=false }
abbrev CX0 : CXT:=fun _ _ _ _ _ _=>False
abbrev E0 : XK:=fun _ _ _=>False
theorem W5 {X : Cx} : wB CX0 X E0:=fun _ _ _ _ _ _ _ h=>h.elim
structure Fun (K : PySem.W.Frag) (x qual : Str) (st : Stmt) (f : Addr) (fd : FuncData) : Prop where
  ex : ∃ (oc : Value) (od : Option Addr) (kV doc pm : Value) (an : Option Addr) (cdv ct : Value) (osl : Array (Option Value)),
    fd = PySem.W.fnOf x qual (defArgs st) (defBody st) (defScope st) .none kV doc pm an cdv ct∧K.lookup f = some ⟨oc,od,.func fd,osl⟩∧PySem.W.codeIn K cdv qual = true
  kp : PySem.W.keepIn K (.ref f) = true
section
variable {P : Program} {w : World} {K : PySem.W.Frag} {mg : Str→Option Value} {base : Heap}
theorem Fun.ok {x qual : Str} {st : Stmt} {f : Addr} {fd : FuncData} {N ps : List Str} {k : Nat} {sp : Sp} (F : Fun K x qual st f fd) (S : FnScope N ps (defScope st)) (len : ∀ vs H Q E,sp vs H Q E→vs.length = ps.length)
    (hbody : ∀ (cdv : Value) (A : Around) (outer : List Env) (s : Shared) (H : Hp) (vs : List V) (Q : VK) (E : XK),Room k (A.deeper (envOfC qual (defScope st) s.heap.objs.size f cdv))→sp vs H Q E →
      ∃ t,PSs (yy CX0 P w K mg base N qual (defScope st) f cdv A outer s H E).nox (defBody st) t∧t { nx:=fun _ H'=>Q .non H',rt:=Q } (start N vs) H) : FnOk P w K mg base CX0 (k + 1) f fd ps sp:=by
  obtain ⟨oc,od,kV,doc,pm,an,cdv,ct,osl,rfl,lk,hcd⟩:=F.ex
  refine zeA lk hcd S len fun A outer s H vs Q E hr hsp=>?_
  obtain ⟨t,h,q⟩:=hbody cdv A outer s H vs Q E hr hsp
  exact ⟨t,h.nox,q⟩
theorem Fun.binds {x qual : Str} {st : Stmt} {f : Addr} {fd : FuncData} {ps : List Str} (F : Fun K x qual st f fd)
    (h : ∀ (kV doc pm : Value) (an : Option Addr) (cdv ct : Value) (us : List Value),us.length = ps.length→bindArgs (PySem.W.fnOf x qual (defArgs st) (defBody st) (defScope st) .none kV doc pm an cdv ct) ⟨us,[]⟩ = pure (ps.zip us)) : Binds K fd ps []:=by
  obtain ⟨oc,od,kV,doc,pm,an,cdv,ct,osl,rfl,lk,hcd⟩:=F.ex
  exact .all (h kV doc pm an cdv ct)
theorem zG {x qual : Str} {st : Stmt} {f : Addr} {oc : Value} {od an : Option Addr} {osl : Array (Option Value)} {kV doc pm cdv ct : Value} (l : K.lookup f = some ⟨oc,od,.func (PySem.W.fnOf x qual (defArgs st) (defBody st) (defScope st) .none kV doc pm an cdv ct),osl⟩)
    (c : PySem.W.codeIn K cdv qual = true) (k : PySem.W.keepIn K (.ref f) = true) : Fun K x qual st f (PySem.W.fnOf x qual (defArgs st) (defBody st) (defScope st) .none kV doc pm an cdv ct):=⟨⟨oc,od,kV,doc,pm,an,cdv,ct,osl,rfl,l,c⟩,k⟩
end
theorem xp {n : Nat} (h : n ≤ 1000) : n < sizeLine:=Nat.lt_of_le_of_lt h (by decide)
section
variable {X : Cx}
theorem pv (i : Nat) {x : Str} {pos : Pos} (hN : X.N[i]? = some x:=by rfl) (hv : Vis X.env.scope x:=by first | exact Or.inl rfl | exact Or.inr (Or.inl rfl) | exact Or.inr (Or.inr rfl)) (hd : (x == ("__debug__" : Str)) = false:=by decide)
    (hcd : (x == ("__classdict__" : Str)) = false:=by decide) : PE X (.Name x pos) (WO i):=zdS hN hv hd hcd
end
theorem u7 {A B : Prop} (h : B) : if false = true then A else B:=by
  rw [if_neg Bool.false_ne_true]
  exact h
theorem WB {A B : Prop} (h : A) : if true = true then A else B:=by
  rw [if_pos rfl]
  exact h
theorem Vw {c A B : Prop} [Decidable c] (h1 : c→A) (h2 : ¬ c→B) : if c then A else B:=by
  by_cases h : c
  · rw [if_pos h]
    exact h1 h
  · rw [if_neg h]
    exact h2 h
def Same (H H' : Hp) : Prop:=∀ b o,H b = some o→H' b = some o
theorem Same.refl (H : Hp) : Same H H:=fun _ _ h=>h
theorem Same.trans {H H1 H2 : Hp} (a : Same H H1) (b : Same H1 H2) : Same H H2:=fun c o h=>b c o (a c o h)
theorem Same.free {H H' : Hp} (e : Same H H') {l : Addr} (h : H' l = Option.none) : H l = Option.none:=by
  cases q : H l with
  | none=>rfl
  | some o =>
    rw [e l o q] at h
    cases h
section
variable {κ : Type} [DecidableEq κ]
end
end L2

set_option maxHeartbeats 4000000
namespace L2
open PySem PySem.Spec PyProof.Rows
def zce (t u : TS) : TS:=fun D σ H=>∃ M : St→Hp→Prop,t { D with nx:=M } σ H∧∀ σ' H',M σ' H'→u D σ' H'
theorem UX {X : Cx} {st : Stmt} {rest : List Stmt} {t u : TS} (h1 : PS X st t) (h2 : PSs X rest u) : PSs X (st :: rest) (zce t u):=by
  intro pins s σ H D I h
  obtain ⟨M,h,hM⟩:=h
  refine wpAny_execs_cons (thn (h1 pins s σ H { D with nx:=M } I h) fun f s1 q=>?_)
  cases f with
  | next =>
    obtain ⟨σ',H',I',q⟩:=q
    exact h2 pins s1 σ' H' D I' (hM σ' H' q)
  | brk=>exact q
  | cont=>exact q
  | ret u=>exact q
theorem xc {c : Bool} {A B : Prop} (hc : c = true) (h : A) : if c = true then A else B:=by rw [if_pos hc]; exact h
theorem iteN {c : Bool} {A B : Prop} (hc : c = false) (h : B) : if c = true then A else B:=by rw [hc]; exact u7 h
def PTs (X : Cx) (ifs : List Expr) (t : TT) : Prop :=
  ∀ (pins : List (Addr × Obj)) (s : Shared) (σ : St) (H : Hp) (Q : Bool→Hp→Prop),Inv X pins σ H s→t σ H Q →
    wpAny (model X.prog X.w) X.A (forIn ifs true fun c r=>if r = true then do let ok ← isTrue c X.env (eval c X.env); pure (ForInStep.yield ok) else pure (ForInStep.yield r)) (TP X pins σ Q) X.xe s
def zeN : TT:=fun _ H Q=>Q true H
theorem zb5 {τ : St} {H : Hp} {A B : Hp→Prop} (h : A H) : zeN τ H (fun b H5=>if b = true then A H5 else B H5):=by
  show if true = true then A H else B H
  exact WB h
theorem Xj {X : Cx} : PTs X [] zeN:=fun _ _ _ H _ I h=>wpAny_tests_nil ⟨H,I,h⟩
theorem UW {X : Cx} {c : Expr} {t : TT} (h : PT X c t) : PTs X [c] t:=fun pins s σ H Q I hw=>wpAny_tests_one (h pins s σ H Q I hw)
section
variable {prog : Program} {w : World} {A : Around} {R : Result→Shared→Prop} {s : Shared}
abbrev NoE : Value→Shared→Prop:=fun _ _=>False
theorem zjq {α : Type} {m : Sem α} {Q : α→Shared→Prop} {E : Value→Shared→Prop} {s : Shared} (h : wpAny (model prog w) A m Q NoE s) : wpAny (model prog w) A m Q E s :=
  wpAny_mono h (fun _ _ q=>q) fun _ _ z=>z.elim
def Wy (prog : Program) (w : World) (A : Around) (env : Env) (tg : Expr) (ifs : List Expr) (elt : Expr) (it acc : Value) (again : Shared→Prop) (v : Value) (s1 : Shared) : Prop :=
  wpAny (model prog w) A (letOwnedTupleGo tg it v) (fun _ s2=>wpAny (model prog w) A (assign tg env v) (fun _ s3 =>
    wpAny (model prog w) A (forIn ifs true fun c r=>if r = true then do let ok ← isTrue c env (eval c env); pure (ForInStep.yield ok) else pure (ForInStep.yield r)) (fun ok s4 =>
      if ok = true then wpAny (model prog w) A (eval elt env) (fun x s5=>wpAny (model prog w) A (call (.builtin "list.append") [acc,x]) (fun _ s6=>again s6) NoE s5) NoE s4
      else again s4) NoE s3) NoE s2) NoE s1
theorem YI {elt tg iter : Expr} {ifs : List Expr} {scope : Scope} {pos : Pos} {it acc : Value} {env : Env} (J : Nat→Shared→Prop)
    (turn : ∀ n s,J n s→wpAny (model prog w) A (pyNext it) (fun r s1=>match r with
      | none=>R (.ok .next) s1
      | some v=>Wy prog w A env tg ifs elt it acc (fun s6=>∃ m,m < n∧J m s6) v s1) NoE s)
    (n : Nat) (h : J n s) : codeAny (model prog w) A (.compLoop (.ListComp elt [⟨tg,iter,ifs,0⟩] scope pos) 0 it acc env) R s:=by
  refine codeAny_loop rfl J (fun n s hJ=>?_) n h
  show wpAny _ A ((compTurn (.ListComp elt [⟨tg,iter,ifs,0⟩] scope pos) 0 it acc env).onRaise (fun x=>do noteFrame x env; theTreesLotGoes x)) _ _ s
  refine wpAny_noted (zjq ?_)
  rw [compTurn_list]
  refine wpAny_bind (wpAny_standAt (wpAny_bind (thn (turn n s hJ) fun r s1 h1=>?_)))
  cases r with
  | none=>exact wpAny_pure h1
  | some v =>
    refine wpAny_bind (thn h1 fun _ s2 h2=>wpAny_bind (thn h2 fun _ s3 h3=>wpAny_bind (thn h3 fun ok s4 h4=>?_)))
    cases ok with
    | false=>exact wpAny_pure ⟨rfl,h4⟩
    | true=>exact wpAny_bind (wpAny_bind (thn h4 fun x s5 h5=>wpAny_bind (thn h5 fun _ s6 h6=>wpAny_pure (wpAny_pure ⟨rfl,h6⟩))))
end
theorem ZE {env : Env} : ∀ (names : List (Str × NameKind)) (acc : List (Str × Addr)),(∀ y ∈ names,y.2 = .free→∃ c,env.cells.lookup y.1 = some c)→(∀ x c,acc.lookup x = some c→env.cells.lookup x = some c) →
    ∃ cl,(forIn names acc (fun (y : Str × NameKind) (cs : List (Str × Addr))=>(if (y.2 == NameKind.free) = true then (do let c ← cellOf env y.1; pure (ForInStep.yield ((y.1,c) :: cs))) else pure (ForInStep.yield cs) : Sem (ForInStep (List (Str × Addr)))))) = (pure cl : Sem (List (Str × Addr))) ∧
      (∀ x c,cl.lookup x = some c→env.cells.lookup x = some c)∧(∀ x,(acc.lookup x).isSome = true→(cl.lookup x).isSome = true)∧(∀ y ∈ names,y.2 = .free→(cl.lookup y.1).isSome = true)
  | [],acc,_,h2=>⟨acc,rfl,h2,fun _ h=>h,fun y hy=>by cases hy⟩
  | (n,k) :: r,acc,h1,h2=>by
    have h1' : ∀ y ∈ r,y.2 = .free→∃ c,env.cells.lookup y.1 = some c:=fun y hy=>h1 y (List.mem_cons_of_mem _ hy)
    by_cases hk : k = .free
    · subst hk
      obtain ⟨c,hc⟩:=h1 (n,.free) List.mem_cons_self rfl
      have h2' : ∀ x c',(((n,c) :: acc : List (Str × Addr)).lookup x) = some c'→env.cells.lookup x = some c':=fun x c' e=>by
        rw [List.lookup_cons] at e
        by_cases hx : (x == n) = true
        · rw [hx] at e
          cases e
          rw [beq_iff_eq.mp hx]
          exact hc
        · rw [Bool.not_eq_true] at hx
          rw [hx] at e
          exact h2 x c' e
      obtain ⟨cl,e,p1,p2,p3⟩:=ZE r ((n,c) :: acc) h1' h2'
      refine ⟨cl,?_,p1,fun x hx=>p2 x ?_,fun y hy hf=>?_⟩
      · rw [List.forIn_cons]
        have q : cellOf env n = pure c:=by unfold cellOf; rw [hc]
        simp only [beq_self_eq_true,if_true,q,pure_bind]
        exact e
      · rw [List.lookup_cons]
        cases q : x == n with
        | true=>rfl
        | false=>exact hx
      · rcases List.mem_cons.mp hy with rfl | hy
        · exact p2 n (by rw [List.lookup_cons,beq_self_eq_true]; rfl)
        · exact p3 y hy hf
    · obtain ⟨cl,e,p1,p2,p3⟩:=ZE r acc h1' h2
      have hb : (k == NameKind.free) = false:=by simpa using hk
      refine ⟨cl,?_,p1,p2,fun y hy hf=>?_⟩
      · rw [List.forIn_cons]
        simp only [hb,Bool.false_eq_true,if_false,pure_bind]
        exact e
      · rcases List.mem_cons.mp hy with rfl | hy
        · exact absurd hf hk
        · exact p3 y hy hf
structure Clos (env : Env) (scope : Scope) (cl : List (Str × Addr)) : Prop where
  eq : closureFor scope env = pure cl
  sub : ∀ x c,cl.lookup x = some c→env.cells.lookup x = some c
  all : ∀ y ∈ scope.names,y.2 = .free→(cl.lookup y.1).isSome = true
theorem Wl {env : Env} {scope : Scope} (h : ∀ y ∈ scope.names,y.2 = .free→∃ c,env.cells.lookup y.1 = some c) : ∃ cl,Clos env scope cl:=by
  obtain ⟨cl,e,p1,p2,p3⟩:=ZE (env:=env) scope.names [] h (fun x c z=>by simp at z)
  refine ⟨cl,⟨?_,p1,p3⟩⟩
  have q : closureFor scope env = (forIn scope.names [] (fun (y : Str × NameKind) (cs : List (Str × Addr))=>(if (y.2 == NameKind.free) = true then (do let c ← cellOf env y.1; pure (ForInStep.yield ((y.1,c) :: cs))) else pure (ForInStep.yield cs) : Sem (ForInStep (List (Str × Addr))))) >>= fun s=>pure s):=rfl
  rw [q,e,pure_bind]
abbrev xW (X : Cx) (scope : Scope) (N' : List Str) (cl : List (Str × Addr)) (C : Addr) (s₀ : Shared) (H₀ : Hp) (fp : List Addr) : Cx :=
  { X with N:=N',s₀:=s₀,H₀:=H₀,env:=compEnvC scope cl C X.env,outer:=X.stack,ex:=fp,fn:=fun _=>false,pn:=[],xe:=NoE }
structure Blk where
  cl : List (Str × Addr)
  C : Addr
  s₀ : Shared
  H₀ : Hp
  fp : List Addr
abbrev cxB (X : Cx) (scope : Scope) (N' : List Str) (b : Blk) : Cx:=xW X scope N' b.cl b.C b.s₀ b.H₀ b.fp
def X0 : Option NameKind→Bool
  | some .cell=>true
  | some .free=>true
  | _=>false
theorem wO {k : Option NameKind} (h : X0 k = true) : k = some .cell∨k = some .free:=by
  cases k with
  | none=>cases h
  | some k=>cases k <;> first | exact .inl rfl | exact .inr rfl | cases h
def VM (N : List Str) (kd kd' : Str→Option NameKind) (N' : List Str) (t : Nat) : List Nat→Nat→Bool
  | [],k=>N'.length == t + k
  | j :: r,k=>(match N[j]?,N'[t + k]? with
    | some x,some y=>(x == y) && X0 (kd x) && X0 (kd' x)
    | _,_=>false) && VM N kd kd' N' t r (k + 1)
theorem Zd {N : List Str} {kd kd' : Str→Option NameKind} {N' : List Str} {t : Nat} : ∀ {caps : List Nat} {k : Nat},VM N kd kd' N' t caps k = true→N'.length = t + k + caps.length
  | [],k,h=>by
    have:=beq_iff_eq.mp h
    simpa using this
  | j :: r,k,h=>by
    have:=Zd (Bool.and_eq_true_iff.mp h).2
    rw [List.length_cons]
    omega
theorem Yj {N : List Str} {kd kd' : Str→Option NameKind} {N' : List Str} {t : Nat} : ∀ {caps : List Nat} {k i j : Nat},VM N kd kd' N' t caps k = true→caps[i]? = some j →
    ∃ x,N[j]? = some x∧N'[t + k + i]? = some x∧X0 (kd x) = true∧X0 (kd' x) = true
  | [],_,_,_,_,e=>by simp at e
  | j :: r,k,0,j',h,e=>by
    simp at e
    subst e
    have h1:=(Bool.and_eq_true_iff.mp h).1
    cases q : N[j]? with
    | none=>rw [q] at h1; cases h1
    | some x =>
      cases q' : N'[t + k]? with
      | none=>rw [q,q'] at h1; cases h1
      | some y =>
        rw [q,q'] at h1
        obtain ⟨h2,h3⟩:=Bool.and_eq_true_iff.mp h1
        obtain ⟨h4,h5⟩:=Bool.and_eq_true_iff.mp h2
        obtain rfl : x = y:=beq_iff_eq.mp h4
        exact ⟨x,rfl,rfl,h5,h3⟩
  | j :: r,k,i + 1,j',h,e=>by
    obtain ⟨x,a,b,c,d⟩:=Yj (i:=i) (Bool.and_eq_true_iff.mp h).2 (by simpa using e)
    refine ⟨x,a,?_,c,d⟩
    have q : t + (k + 1) + i = t + k + (i + 1):=by omega
    rw [← q]
    exact b
structure CompOk (X : Cx) (scope : Scope) (N' : List Str) (t : Nat) (caps : List Nat) : Prop where
  kind : scope.kind = .function
  shape : (scope.names.all fun y=>(y.2 == .local && scope.names.lookup y.1 == some .local) || (y.2 == .free && X0 (X.env.kindOf y.1)) || (y.2 == .globalImplicit)) = true
  cap : VM X.N X.env.kindOf (compEnvC scope [] 0 X.env).kindOf N' t caps 0 = true
theorem CompOk.at {X : Cx} {scope : Scope} {N' : List Str} {t : Nat} {caps : List Nat} (S : CompOk X scope N' t caps) {y : Str × NameKind} (hy : y ∈ scope.names) :
    y.2 ≠ .cell∧(y.2 = .local→scope.names.lookup y.1 = some .local)∧(y.2 = .free→X0 (X.env.kindOf y.1) = true):=by
  have h:=List.all_eq_true.mp S.shape y hy
  obtain ⟨n,k⟩:=y
  cases k <;> simp at h <;> simp [h]
def zeH (t : Nat) (caps : List Nat) (σ : St) : St:=List.replicate t none ++ caps.map fun j=>(σ[j]?).join
theorem wv {scope : Scope} {env : Env} {x : Str} : ∀ {names : List (Str × NameKind)},(∀ y ∈ names,y.2 ≠ .cell)→X0 ((names.map fun (y : Str × NameKind)=>if (y.2 == NameKind.free && env.scope.kind == .function && env.kindOf y.1 == some .cell) = true then (y.1,NameKind.cell) else (y.1,y.2)).lookup x) = true →
    (x,NameKind.free) ∈ names
  | [],_,h=>by simp [X0] at h
  | (n,k) :: r,hn,h=>by
    have hr : ∀ y ∈ r,y.2 ≠ .cell:=fun y hy=>hn y (List.mem_cons_of_mem _ hy)
    have hk : k ≠ .cell:=hn (n,k) List.mem_cons_self
    rw [List.map_cons] at h
    by_cases hx : (x == n) = true
    · obtain rfl : x = n:=beq_iff_eq.mp hx
      have q : k = .free:=by
        by_cases hf : k = .free
        · exact hf
        · exfalso
          have hb : (k == NameKind.free) = false:=by simpa using hf
          simp only [hb,Bool.false_and,Bool.false_eq_true,if_false,List.lookup_cons,beq_self_eq_true] at h
          cases k <;> simp [X0] at h hk hf
      subst q
      exact List.mem_cons_self
    · rw [Bool.not_eq_true] at hx
      refine List.mem_cons_of_mem _ (wv (scope:=scope) (env:=env) hr ?_)
      by_cases hc : (k == NameKind.free && env.scope.kind == .function && env.kindOf n == some .cell) = true
      · simp only [hc,if_true,List.lookup_cons,hx] at h
        exact h
      · rw [Bool.not_eq_true] at hc
        simp only [hc,Bool.false_eq_true,if_false,List.lookup_cons,hx] at h
        exact h
def ZH (J : It) (g : TG) (tc : TT) (te : TE) (Q : VK) (D : Addr) (τ0 : St) (H0 : Hp) : Prop :=
  ∃ W : Nat→Nat→List V→St→Hp→Prop,(∃ m,W 0 m [] τ0 H0)∧∀ i m ys τ H,W i m ys τ H →
    (J.stop i H∧Q (.ref D) H)∨(J.go i H∧∃ N : List V→St→Hp→Prop,(∀ zs τ' H',N zs τ' H'→∃ m',m' < m∧W (i + 1) m' zs τ' H')∧∀ x H3,J.yld i H x H3→g x τ H3 fun τ2 H4=>tc τ2 H4 fun b H5 =>
      if b = true then te τ2 H5 fun y H6=>H6 D = some (.lst ys)∧ys.length < sizeLine∧N (ys ++ [y]) τ2 (upd H6 D (.lst (ys ++ [y]))) else N ys τ2 H5)
def WR (wi : TI) (g : Blk→TG) (tc : Blk→TT) (te : Blk→TE) (t : Nat) (caps : List Nat) : TE:=fun σ H Q =>
  wi σ H fun J H1=>∀ D,H1 D = none→∀ b : Blk,ZH J (g b) (tc b) (te b) Q D (zeH t caps σ) (upd H1 D (.lst []))
theorem uf {J : It} {g : TG} {tc : TT} {te : TE} {Q : VK} {D : Addr} {τ0 : St} {H0 : Hp} (n : Nat) (Pv : Nat→List V→St→Hp→Prop) (h0 : Pv 0 [] τ0 H0)
    (hst : ∀ zs τ H,Pv n zs τ H→J.stop n H∧Q (.ref D) H)
    (hgo : ∀ i zs τ H,i < n→Pv i zs τ H→J.go i H∧∀ x H3,J.yld i H x H3→g x τ H3 fun τ2 H4=>tc τ2 H4 fun b H5 =>
      if b = true then te τ2 H5 fun y H6=>H6 D = some (.lst zs)∧zs.length < sizeLine∧Pv (i + 1) (zs ++ [y]) τ2 (upd H6 D (.lst (zs ++ [y]))) else Pv (i + 1) zs τ2 H5) : ZH J g tc te Q D τ0 H0:=by
  refine ⟨fun i m zs τ H=>m = n - i∧i ≤ n∧Pv i zs τ H,⟨n,by simp,Nat.zero_le _,h0⟩,?_⟩
  rintro i m zs τ H ⟨rfl,hi,p⟩
  by_cases hlt : i < n
  · obtain ⟨go,step⟩:=hgo i zs τ H hlt p
    exact .inr ⟨go,Pv (i + 1),fun zs' τ' H' p'=>⟨n - (i + 1),by omega,rfl,hlt,p'⟩,step⟩
  · have e : i = n:=by omega
    subst e
    exact .inl (hst zs τ H p)
theorem Wj {K : PySem.W.Frag} {a : Addr} {xs : List V} {g : TG} {tc : TT} {te : TE} {Q : VK} {D : Addr} {τ0 : St} {H0 : Hp} (Pv : Nat→List V→St→Hp→Prop) (h0 : Pv 0 [] τ0 H0) (hl : ∀ i zs τ H,Pv i zs τ H→SqL K H a xs)
    (hs : ∀ i x zs τ H,xs[i]? = some x→Pv i zs τ H→g x τ H fun τ2 H4=>tc τ2 H4 fun b H5 =>
      if b = true then te τ2 H5 fun y H6=>H6 D = some (.lst zs)∧zs.length < sizeLine∧Pv (i + 1) (zs ++ [y]) τ2 (upd H6 D (.lst (zs ++ [y]))) else Pv (i + 1) zs τ2 H5)
    (hd : ∀ zs τ H,Pv xs.length zs τ H→Q (.ref D) H) : ZH (Itl K a) g tc te Q D τ0 H0 :=
  uf xs.length Pv h0 (fun zs τ H p=>⟨⟨xs,hl _ _ _ _ p,Nat.le_refl _⟩,hd zs τ H p⟩) fun i zs τ H hi p=>⟨⟨xs,xs[i],hl _ _ _ _ p,by simp [hi]⟩,fun x H3 y=>by
    obtain ⟨e,y⟩:=y
    subst e
    exact hs i x zs τ _ (y xs (hl _ _ _ _ p)) p⟩
theorem VJ {K : PySem.W.Frag} {a : Addr} {xs : List V} {g : TG} {tc : TT} {te : TE} {Q : VK} {D : Addr} {τ0 : St} {H0 : Hp} (Pv : Nat→List V→St→Hp→Prop) (h0 : Pv 0 [] τ0 H0) (hl : ∀ i zs τ H,Pv i zs τ H→SqT K H a xs)
    (hs : ∀ i x zs τ H,xs[i]? = some x→Pv i zs τ H→g x τ H fun τ2 H4=>tc τ2 H4 fun b H5 =>
      if b = true then te τ2 H5 fun y H6=>H6 D = some (.lst zs)∧zs.length < sizeLine∧Pv (i + 1) (zs ++ [y]) τ2 (upd H6 D (.lst (zs ++ [y]))) else Pv (i + 1) zs τ2 H5)
    (hd : ∀ zs τ H,Pv xs.length zs τ H→Q (.ref D) H) : ZH (Itt K a) g tc te Q D τ0 H0 :=
  uf xs.length Pv h0 (fun zs τ H p=>⟨⟨xs,hl _ _ _ _ p,Nat.le_refl _⟩,hd zs τ H p⟩) fun i zs τ H hi p=>⟨⟨xs,xs[i],hl _ _ _ _ p,by simp [hi]⟩,fun x H3 y=>by
    obtain ⟨e,y⟩:=y
    subst e
    exact hs i x zs τ _ (y xs (hl _ _ _ _ p)) p⟩
theorem YG {lo : Int} {n : Nat} {g : TG} {tc : TT} {te : TE} {Q : VK} {D : Addr} {τ0 : St} {H0 : Hp} (Pv : Nat→List V→St→Hp→Prop) (h0 : Pv 0 [] τ0 H0)
    (hs : ∀ i zs τ H,i < n→Pv i zs τ H→g (.int (lo + i)) τ H fun τ2 H4=>tc τ2 H4 fun b H5 =>
      if b = true then te τ2 H5 fun y H6=>H6 D = some (.lst zs)∧zs.length < sizeLine∧Pv (i + 1) (zs ++ [y]) τ2 (upd H6 D (.lst (zs ++ [y]))) else Pv (i + 1) zs τ2 H5)
    (hd : ∀ zs τ H,Pv n zs τ H→Q (.ref D) H) : ZH (Itr lo n) g tc te Q D τ0 H0 :=
  uf n Pv h0 (fun zs τ H p=>⟨Nat.le_refl _,hd zs τ H p⟩) fun i zs τ H hi p=>⟨hi,fun x H3 y=>by
    obtain ⟨e,y⟩:=y
    subst e y
    exact hs i zs τ _ hi p⟩
section
variable {X : Cx} {tg iter elt : Expr} {ifs : List Expr} {scope : Scope} {pos : Pos} {N' : List Str} {t : Nat} {caps : List Nat} {g : Blk→TG} {tc : Blk→TT} {te : Blk→TE} {wi : TI}
theorem FpOk.heap {pins : List (Addr × Obj)} {H H' : Hp} {b : Addr} (f : FpOk X pins H b) (h : H' b = none) : FpOk X pins H' b:=⟨h,f.2⟩
theorem Zb {cl : List (Str × Addr)} {J : It} {fp : List Addr} {it : Addr} {tn : Nat→Heap→Prop} {pins : List (Addr × Obj)} {σ : St} {H2 : Hp} {s2 : Shared} {Q : VK} {E : Value→Shared→Prop}
    (hc : X.calm = true) (S : CompOk X scope N' t caps) (L : Clos X.env scope cl)
    (hg : ∀ b,PG (cxB X scope N' b) tg (g b)) (ht : ∀ b,PTs (cxB X scope N' b) ifs (tc b)) (he : ∀ b,PE (cxB X scope N' b) elt (te b))
    (I2 : Inv X pins σ H2 s2) (T : Turn X.prog X.w X.K tg J fp it tn) (st2 : tn 0 s2.heap) (f2 : ∀ b ∈ fp,FpOk X pins H2 b)
    (R : ∀ D,H2 D = none→∀ b,ZH J (g b) (tc b) (te b) Q D (zeH t caps σ) (upd H2 D (.lst []))) :
    wpAny (model X.prog X.w) X.A (newList []) (fun acc s3=>wpAny (model X.prog X.w) X.A (newFunctionEnv scope X.env.globals cl [] X.env.qual none .none (some X.env)) (fun cenv s4 =>
      codeAny (model X.prog X.w) X.A (.compStart (.ListComp elt [⟨tg,iter,ifs,0⟩] scope pos) 0 (.ref it) acc { cenv with scope:=relabel scope X.env })
        (fun r s'=>∃ (D : Addr) (H' : Hp) (m : Str→Option Value),acc = .ref D∧r = .ok .next∧Inv X pins σ H' s'∧s'.heap.Ns cenv.locals m∧FpOk X pins H' cenv.locals∧Q (.ref D) H') s4) E s3) E s2:=by
  refine wpAny_newObj_type ?_
  have I3 : Inv X pins σ (upd H2 s2.heap.objs.size (.lst [])) { s2 with heap:=s2.heap.push { cls:=.type "list",data:=.seq ([] : List Value).toArray } }:=I2.lnew (t':=s2.toks) .nil (Nat.zero_le _)
  have hD : H2 s2.heap.objs.size = none:=I2.fresh
  have R:=R _ hD
  generalize hs3 : ({ s2 with heap:=s2.heap.push { cls:=.type "list",data:=.seq ([] : List Value).toArray } } : Shared) = s3 at I3 ⊢
  generalize hH3 : upd H2 s2.heap.objs.size (.lst []) = H3 at I3 R
  generalize hDD : s2.heap.objs.size = D at R ⊢
  have k3 : ∀ b o,s2.heap.get? b = some o→s3.heap.get? b = some o:=fun b o e=>by rw [← hs3]; exact Heap.get?_push_of_some _ e
  have st3 : tn 0 s3.heap:=T.keep 0 _ _ st2 fun b _ o e=>k3 b o e
  have fpn : ∀ b ∈ fp,H3 b = none:=fun b hb=>by
    obtain ⟨o,e,_⟩:=T.obj 0 _ st2 b hb
    rw [← hH3,upd_ne (Nat.ne_of_lt (Heap.lt_size e))]
    exact (f2 b hb).1
  have f3 : ∀ b ∈ fp,FpOk X pins H3 b:=fun b hb=>(f2 b hb).heap (fpn b hb)
  refine wpAny_newFunctionEnv (fun y hy=>(S.at hy).1) (by intro y hy; simp at hy) (fun h4 hns hsb=>?_) S.kind
  generalize hC : s3.heap.objs.size = C at hns hsb ⊢
  have k4 : ∀ b o,s3.heap.get? b = some o→h4.get? b = some o:=fun b o e=>hsb.extBut b o (by rw [← hC]; exact Nat.ne_of_lt (Heap.lt_size e)) (Heap.get?_push_of_some _ e)
  have cellsub : ∀ x c,(xW X scope N' cl C s3 H3 fp).env.cells.lookup x = some c→X.env.cells.lookup x = some c:=L.sub
  have hnc : ∀ y ∈ scope.names,y.2 ≠ .cell:=fun y hy=>(S.at hy).1
  have fC : ∀ {H' : Hp},H' C = none→FpOk X pins H' C:=fun h=>by rw [← hC] at h ⊢; exact I3.fpOk (Nat.le_refl _) h
  have I4 : Inv (xW X scope N' cl C s3 H3 fp) [] (zeH t caps σ) H3 { s3 with heap:=h4,toks:=s3.toks + ([] : List (Str × Value)).length }:=by
    refine ⟨⟨I3.ok.mod,S.kind,I3.ok.glob,I3.ok.blt,Nat.le_of_eq hC,fun x y c h1 h2=>I3.ok.inj x y c (L.sub _ _ h1) (L.sub _ _ h2),fun x hx=>?_,fun x c h _=>absurd (show false = true from h) Bool.false_ne_true,I3.ok.hd,I3.ok.frames,.inl rfl,fun b hb=>⟨?_,fun x c e=>(f3 b hb).2.2.2.2.1 x c (L.sub x c e)⟩,
        I3.bs,Nat.le_trans I3.ok.bsz I3.sz,fun b o e hb=>?_,fun b hb z=>?_,I3.stack,I3.stkFree⟩,
      rfl,I3.bare,Un.kept k4,⟨_,hns,fun i x v e1 e2 e3=>?_⟩,fun x c e=>?_,(by rw [← hC]; exact I3.fresh),fun x c e=>I3.freeC x c (L.sub x c e),fun p hp=>?_,I3.hok.kept k4,?_⟩
    · have hx' : X0 ((relabel scope X.env).names.lookup x) = true:=by
        rcases hx with q | q
        · rw [show (relabel scope X.env).names.lookup x = some .cell from q]; rfl
        · rw [show (relabel scope X.env).names.lookup x = some .free from q]; rfl
      exact Option.isSome_iff_exists.mp (L.all _ (wv (scope:=scope) hnc hx') rfl)
    · obtain ⟨o,e,_⟩:=T.obj 0 _ st3 b hb
      rw [← hC]
      exact Nat.ne_of_lt (Heap.lt_size e)
    · rcases (f3 b hb).2.2.2.1 with z | z
      · exact I3.ok.noex b o e z
      · exact absurd (Nat.lt_of_lt_of_le (Nat.lt_of_lt_of_le (Heap.lt_size e) I3.ok.bsz) z) (Nat.lt_irrefl _)
    · rcases List.mem_cons.mp (I3.stkSub b z) with q | q
      · exact (f3 b hb).2.1 q
      · exact (f3 b hb).2.2.1 q
    · -- a name that was taken over
      unfold zeH at e2
      by_cases hi : i < t
      · rw [List.getElem?_append_left (by simpa using hi),List.getElem?_replicate] at e2
        simp [hi] at e2
      · rw [List.getElem?_append_right (by simpa using hi),List.length_replicate,List.getElem?_map] at e2
        cases q : caps[i - t]? with
        | none=>rw [q] at e2; simp at e2
        | some j =>
          rw [q] at e2
          obtain ⟨y,c1,c2,c3,c4⟩:=Yj S.cap q
          have ei : t + 0 + (i - t) = i:=by omega
          rw [ei] at c2
          have exy : x = y:=Option.some.inj ((show N'[i]? = some x from e1).symm.trans c2)
          subst exy
          have e2' : σ[j]? = some (some v):=by
            have e2 : (σ[j]?).join = some v:=Option.some.inj e2
            cases r : σ[j]? with
            | none=>rw [r] at e2; cases e2
            | some z =>
              rw [r] at e2
              have e2 : z = some v:=e2
              rw [e2]
          obtain ⟨m,hn,hl⟩:=I3.loc
          have cf:=wO c3
          obtain ⟨u,ru,lk⟩:=hl j x v c1 e2' (.inr (by
            rcases cf with z | z
            · exact .inl z
            · exact .inr z))
          refine ⟨u,ru,.inr ⟨wO c4,?_⟩⟩
          rcases lk with ⟨z,_⟩ | ⟨_,c,ec,zc⟩
          · rcases cf with w | w <;> (rw [z] at w; cases w)
          · have hfree:=wv (scope:=scope) (env:=X.env) (x:=x) hnc c4
            obtain ⟨c',ec'⟩:=Option.isSome_iff_exists.mp (L.all _ hfree rfl)
            have:=L.sub _ _ ec'
            rw [show X.env.cells.lookup x = some c from ec] at this
            cases this
            obtain ⟨o,ho,hd⟩:=zc
            exact ⟨c,ec',o,k4 _ _ ho,hd⟩
    · obtain ⟨v,o,ho,hd⟩:=I3.cell x c (L.sub x c e)
      exact ⟨v,o,k4 _ _ ho,hd⟩
    · exact absurd (show p ∈ ([] : List (Addr × Obj)) from hp) (by simp)
    · unfold zeH
      rw [List.length_append,List.length_replicate,List.length_map,Zd S.cap]
      omega
  obtain ⟨W,⟨m0,w0⟩,turn⟩:=R ⟨cl,C,s3,H3,fp⟩
  -- back to the frame outside
  have back : ∀ {τ : St} {H' : Hp} {s' : Shared},Inv (xW X scope N' cl C s3 H3 fp) [] τ H' s'→Inv X pins σ H' s':=fun {τ H' s'} J=>by
    refine I3.call' (ch:=fp) (J.os.trans ?_) J.base J.hok J.bare fun b hb=>⟨(f3 b hb).2.2.2.1,(f3 b hb).2.1,(f3 b hb).2.2.2.2.1,(f3 b hb).2.2.2.2.2⟩
    rfl
  have stat : ∀ {H' : Hp},(∀ b ∈ fp,H' b = none)→∀ b ∈ fp,FpOk (xW X scope N' cl C s3 H3 fp) [] H' b:=fun {H'} hn b hb=>by
    refine ⟨hn b hb,(I4.ok.exf b hb).1,I4.ok.exfs b hb,.inl hb,(I4.ok.exf b hb).2,fun p hp=>?_⟩
    exact absurd (show p ∈ ([] : List (Addr × Obj)) from hp) (by simp)
  have loop : codeAny (model X.prog X.w) X.A (.compLoop (.ListComp elt [⟨tg,iter,ifs,0⟩] scope pos) 0 (.ref it) (.ref D) (compEnvC scope cl C X.env))
      (fun r s'=>∃ (D' : Addr) (H' : Hp) (m : Str→Option Value),Value.ref D = .ref D'∧r = .ok .next∧Inv X pins σ H' s'∧s'.heap.Ns C m∧FpOk X pins H' C∧Q (.ref D') H') { s3 with heap:=h4,toks:=s3.toks + ([] : List (Str × Value)).length }:=by
    refine YI (fun n s'=>∃ i ys τ H',Inv (xW X scope N' cl C s3 H3 fp) [] τ H' s'∧tn i s'.heap∧(∀ b ∈ fp,H' b = none)∧W i n ys τ H') ?_ m0 ⟨0,[],_,H3,I4,T.keep 0 _ _ st3 fun b _ o e=>k4 b o e,fpn,w0⟩
    rintro n s5 ⟨i,ys,τ,H5,I5,st5,fr5,w5⟩
    rcases turn i n ys τ H5 w5 with ⟨stop,q⟩ | ⟨go,N,hN,step⟩
    · refine thn (T.done (xW X scope N' cl C s3 H3 fp) rfl rfl rfl hc i [] s5 τ H5 NoE I5 (stat fr5) st5 stop) fun r s6 ⟨hr,I6⟩=>?_
      subst hr
      obtain ⟨m,hm,_⟩:=id I6.loc
      exact ⟨D,H5,m,rfl,rfl,back I6,hm,fC I6.free,q⟩
    · refine thn (T.item (xW X scope N' cl C s3 H3 fp) rfl rfl rfl hc i [] s5 τ H5 NoE I5 (stat fr5) st5 go) fun r s6 ⟨u,hr,h6⟩=>?_
      subst hr
      refine thn h6 fun _ s7 ⟨x,H7,I7,r7,y7,st7,fr7⟩=>?_
      have I7':=I7.pinned (stat fr7) (T.obj _ _ st7)
      have again : ∀ {τ9 : St} {H9 : Hp} {s9 : Shared} {ys9 : List V} {m' : Nat},Inv (xW X scope N' cl C s3 H3 fp) ([] ++ uQ fp s7.heap) τ9 H9 s9→m' < n→W (i + 1) m' ys9 τ9 H9 →
          ∃ m,m < n∧∃ i ys τ H',Inv (xW X scope N' cl C s3 H3 fp) [] τ H' s9∧tn i s9.heap∧(∀ b ∈ fp,H' b = none)∧W i m ys τ H':=fun {τ9 H9 s9 ys9 m'} I9 hm w9=>by
        refine ⟨m',hm,i + 1,ys9,τ9,H9,I9.unpinned,T.keep _ _ _ st7 fun b hb o e=>(I9.pin (b,o) (List.mem_append_right _ (List.mem_append_right _ (xR hb e)))).1,fun b hb=>?_,w9⟩
        obtain ⟨o,e,_⟩:=T.obj _ _ st7 b hb
        exact (I9.pin (b,o) (List.mem_append_right _ (List.mem_append_right _ (xR hb e)))).2.1
      refine thn (hg ⟨cl,C,s3,H3,fp⟩ _ s7 τ H7 x u _ I7' r7 (step x H7 y7)) fun _ s8 ⟨τ8,H8,I8,q8⟩=>?_
      refine thn (ht ⟨cl,C,s3,H3,fp⟩ _ s8 τ8 H8 _ I8 q8) fun ok s9 ⟨H9,I9,q9⟩=>?_
      cases ok with
      | false =>
        obtain ⟨m',hm,w9⟩:=hN _ _ _ (show N ys τ8 H9 from q9)
        exact again I9 hm w9
      | true =>
        refine thn (he ⟨cl,C,s3,H3,fp⟩ _ s9 τ8 H9 _ I9 q9) fun y s10 ⟨z,H10,I10,r10,hl,hz,q10⟩=>?_
        refine thn (u5 _ s10 τ8 H10 (.ref D) [z] (.ref D) [y] (fun v H11=>v = .non∧H11 = upd H10 D (.lst (ys ++ [z]))) I10 rfl (.cons r10 .nil) ⟨D,ys,z,rfl,rfl,hl,hz,rfl,rfl⟩) fun _ s11 ⟨v,H11,I11,_,_,e11⟩=>?_
        subst e11
        obtain ⟨m',hm,w10⟩:=hN _ _ _ q10
        exact again I11 hm w10
  exact codeAny_compStart_list loop (T.self _ 0 _ _ _ (T.keep 0 _ _ st3 fun b _ o e=>k4 b o e) loop)
theorem Xx (hc : X.calm = true) (S : CompOk X scope N' t caps) (hi : PI X tg iter wi)
    (hg : ∀ b,PG (cxB X scope N' b) tg (g b)) (ht : ∀ b,PTs (cxB X scope N' b) ifs (tc b)) (he : ∀ b,PE (cxB X scope N' b) elt (te b))
    (hs : ∀ x,foldedSetIterable iter X.env x = pure x:=by intro _; rfl) : PE X (.ListComp elt [⟨tg,iter,ifs,0⟩] scope pos) (WR wi g tc te t caps):=by
  intro pins s σ H Q I h
  obtain ⟨cl,L⟩:=Wl (env:=X.env) (scope:=scope) fun y hy hf=>I.ok.has y.1 (wO ((S.at hy).2.2 hf))
  rw [eval_ListComp]
  refine wpAny_comprehension_free (use:=none) rfl hs L.eq S.kind (fun y hy=>(S.at hy).2.1) (thn (hi pins s σ H _ I h) fun x s1 h1=>thn h1 fun itv s2 h2=>?_)
  obtain ⟨it,fp,tn,J,H2,rfl,I2,T,st2,f2,R⟩:=h2
  refine thn (Zb hc S L hg ht he I2 T st2 f2 R) fun acc s3 h3=>thn h3 fun cenv s4 h4=>codeAny_mono h4 fun r s' hr=>?_
  obtain ⟨D,H',m,rfl,rfl,I',hm,fC,q⟩:=hr
  obtain ⟨c0,c1,c2,c3,c4,c5⟩:=fC
  exact ⟨m,hm,fun h' sb=>⟨.ref D,H',I'.turned (t':=s'.toks) (fun b o hb e=>sb.extBut b o hb e) c0 c1 c3 c4 c5,rfl,q⟩⟩
theorem Yv {i : Nat} {y : Str} {py spos : Pos} (hc : X.calm = true) (hN : X.N.Nodup) (hiy : X.N[i]? = some y) (hy : Loc X.env.scope y) (S : CompOk X scope N' t caps) (hi : PI X tg iter wi)
    (hg : ∀ b,PG (cxB X scope N' b) tg (g b)) (ht : ∀ b,PTs (cxB X scope N' b) ifs (tc b)) (he : ∀ b,PE (cxB X scope N' b) elt (te b))
    (hsw : swapsWith (.ListComp elt [⟨tg,iter,ifs,0⟩] scope pos) (some (.Name y py)) spos.line X.env = pure true:=by rfl)
    (hs : ∀ x,foldedSetIterable iter X.env x = pure x:=by intro _; rfl) (hf : X.fn y = true∨X.env.scope.names.lookup y = some .local:=by first | exact .inl rfl | exact .inr rfl | assumption) :
    PS X (.Assign [.Name y py] (.ListComp elt [⟨tg,iter,ifs,0⟩] scope pos) spos) (WS (WR wi g tc te t caps) (vz i)):=by
  intro pins s σ H D' I h
  obtain ⟨cl,L⟩:=Wl (env:=X.env) (scope:=scope) fun y hy hf=>I.ok.has y.1 (wO ((S.at hy).2.2 hf))
  rw [exec_Assign_Name_used _ _ _ _ hsw]
  refine wpAny_bind (wpAny_standAt (wpAny_bind ?_))
  show wpAny _ X.A (comprehension (.ListComp elt [⟨tg,iter,ifs,0⟩] scope pos) scope X.env _ (newList []) false (eval iter X.env) (some (assign (.Name y py) X.env)) >>= fun _=>pure ()) _ _ s
  refine wpAny_bind (thn (Q:=fun _ s'=>SP X pins D' .next s') ?_ fun _ s' hq=>wpAny_pure (wpAny_pure hq))
  refine wpAny_comprehension_free (use:=some (assign (.Name y py) X.env)) rfl hs L.eq S.kind (fun y hy=>(S.at hy).2.1) (thn (hi pins s σ H _ I h) fun x s1 h1=>thn h1 fun itv s2 h2=>?_)
  obtain ⟨it,fp,tn,J,H2,rfl,I2,T,st2,f2,R⟩:=h2
  refine thn (Zb hc S L hg ht he I2 T st2 f2 R) fun acc s3 h3=>thn h3 fun cenv s4 h4=>codeAny_mono h4 fun r s' hr=>?_
  obtain ⟨D,H',m,rfl,rfl,I',hm,fC,q⟩:=hr
  obtain ⟨c0,c1,c2,c3,c4,c5⟩:=fC
  show wpAny _ X.A (assign (.Name y py) X.env (.ref D)) _ _ _
  refine wpAny_assign_Name (uA I' hN hiy hy (show RelV (.ref D) (.ref D) from rfl) (fun s'' I'' ⟨a,sb,ha⟩=>?_) hf)
  have hne : cenv.locals ≠ a:=by
    rcases ha with z | z
    · rw [z]; exact c1
    · exact fun z'=>c4 y a z z'.symm
  refine ⟨m,hm.sameBut sb hne,fun h' sb'=>?_⟩
  exact ⟨_,H',I''.turned (t':=s''.toks) (fun b o hb e=>sb'.extBut b o hb e) c0 c1 c3 c4 c5,q⟩
end
end L2

namespace L2
open PySem PySem.Spec PyProof.Rows
def zjB (i j : Int) : Prop:=0 < j∧j.natAbs.log2 < 9000
section
variable {X : Cx}
theorem xQ : OpR X (binaryOp .FloorDiv) (rI zjB fun i j=>.int (i / j)):=opI fun i j _ _ _ _ _ hc q=>by
  have e : i.fdiv j = i / j:=Int.fdiv_eq_ediv_of_nonneg i (Int.le_of_lt hc.1)
  exact floordiv_int (Ne.symm (Int.ne_of_lt hc.1)) (by rw [e]; exact q) (.inl (PyProof.noPylong_of_log2 hc.2))
def zb4 : V→Option Value
  | .ty n=>some (.type n)
  | .ref a=>some (.ref a)
  | _=>none
theorem ug {c : V} {cv u : Value} (h : zb4 c = some cv) (r : RelV c u) : u = cv:=by
  cases c <;> simp [zb4] at h
  · exact (show u = Value.ref _ from r).trans h
  · exact (show u = Value.type _ from r).trans h
def zo7 (K : PySem.W.Frag) : List V→Hp→VK→Prop:=fun xs H Q=>∃ x c t cv b,xs = [x,c]∧zb4 c = some cv∧TyOf K H x t∧PySem.W.kitOne K t cv = some b∧Q (.bl b) H
theorem ym : xU X (.builtin "isinstance") (zo7 X.K):=by
  intro pins s σ H xs us Q I r h
  obtain ⟨x,c,t,cv,b,rfl,hc,ty,e,q⟩:=h
  obtain ⟨u,v,rfl,r1,r2⟩:=r.two
  obtain rfl:=ug hc r2
  exact XZ I r1 ty e fun tk=>⟨.bl b,H,I.tok tk,rfl,q⟩
end
structure Callee (P : Program) (w : World) (K : PySem.W.Frag) (mg : Str→Option Value) (base : Heap) (x : Str) (f : Addr) (fd : FuncData) (ps : List Str) (k : Nat) (sp : Sp) : Prop where
  ok : FnOk P w K mg base CX0 k f fd ps sp
  g : mg x = some (.ref f)
  kp : PySem.W.keepIn K (.ref f) = true
  b : Binds K fd ps []
structure Maker (P : Program) (w : World) (K : PySem.W.Frag) (mg : Str→Option Value) (base : Heap) (x : Str) (C f : Addr) (fd : FuncData) (ps : List Str) (k : Nat) (sp : Sp) : Prop where
  ok : FnOk P w K mg base CX0 k f fd ps sp
  g : mg x = some (.ref C)
  mm : Mk K C f
  b : Binds K fd ps []
section
variable {X : Cx} {k : Nat} {f C : Addr} {fd : FuncData} {ps : List Str} {sp : Sp} {x m : Str} {p pos apos : Pos} {e o : Expr} {es : List Expr} {ta : TE} {t : TA}
theorem zd0 (c : Callee X.prog X.w X.K X.mg X.base x f fd ps k sp) (hr : Room k X.A) (ha : PA X (e :: es) t) (hg : Gl X x:=by rfl) (hdb : (x == ("__debug__" : Str)) = false:=by decide)
    (he : starEach (e :: es) X.env = (false,eval e X.env) :: starEach es X.env:=by rfl) (hpl : (backTo pos (starEach es X.env)).any (·.1) = false:=by rfl) : PE X (.Call (.Name x p) (e :: es) [] pos) (uy sp [] E0 t) :=
  U9 c.ok hr hg c.g c.kp c.b .nil W5 ha hdb he hpl
theorem zrk (c : Maker X.prog X.w X.K X.mg X.base x C f fd ps k sp) (hr : Room (k + 1) X.A) (ha : PA X (e :: es) t) (hg : Gl X x:=by rfl) (hdb : (x == ("__debug__" : Str)) = false:=by decide)
    (he : starEach (e :: es) X.env = (false,eval e X.env) :: starEach es X.env:=by rfl) (hpl : (backTo pos (starEach es X.env)).any (·.1) = false:=by rfl) : PE X (.Call (.Name x p) (e :: es) [] pos) (Y1 C sp [] E0 t) :=
  Xv c.mm c.ok hr hg c.g c.b .nil W5 ha hdb he hpl
def Y0 (X : Cx) (m : Str) (ta : TE) (t : TA) : TE:=fun σ H Q=>ta σ H fun x H1=>∃ (a C dx : Addr) (fs : List (Str × V)) (f : Addr) (fd : FuncData) (ps : List Str) (k : Nat) (sp : Sp),x = .ref a∧H1 a = some (.ins C dx fs)∧fs.lookup m = none∧Cls X.K C∧Meth X.K C m f ∧
  FnOk X.prog X.w X.K X.mg X.base CX0 k f fd ps sp∧Room k X.A∧Binds X.K fd ps []∧t σ H1 fun vs H2=>sp (x :: (vs ++ [])) H2 Q E0
theorem zeQ {pl : Sem Bool} (he : PE X o ta) (ha : PA X (e :: es) t)
    (hst : starEach (e :: es) X.env = (false,eval e X.env) :: starEach es X.env:=by rfl) (hpl : (backTo pos (starEach es X.env)).any (·.1) = false:=by rfl)
    (ht : eval (.Call (.Attribute o m apos) (e :: es) [] pos) X.env = (do
      let ov ← eval o X.env
      standAt apos.atName
      let (f,first) ← holding [ov] (getMethod ov m pl)
      callWith pos f first (backTo pos (starEach (e :: es) X.env)) (backToKw pos (keywordEach [] X.env))):=by rfl) :
    PE X (.Call (.Attribute o m apos) (e :: es) [] pos) (Y0 X m ta t):=by
  intro pins s σ H Q I h
  refine PySem.W.methodCall_KW (pl:=pl) (thn (he pins s σ H _ I h) fun u s1 ⟨x,H1,I1,rx,a,C,dx,fs,f,fd,ps,k,sp,ex,ea,l,cl,hm,F,hr,hb,q⟩=>?_) ht
  subst ex
  obtain rfl : u = Value.ref a:=rx
  refine xS I1 ea cl hm l ?_
  refine PySem.W.callWith_K (first:=[.ref a]) (h₀:=X.base) I.ok.mod.kin hm.kp (thn (ha pos pins s1 σ H1 _ I1 q) fun us s2 ⟨vs,H2,I2,r,q2⟩=>⟨I2.kIn,?_⟩) hst hpl
  exact ZR (us:=.ref a :: us) (vs:=.ref a :: vs) F hr hb .nil W5 I2 (.cons rfl r) q2
theorem uS {pl : Sem Bool} (he : PE X o ta)
    (ht : eval (.Call (.Attribute o m apos) [] [] pos) X.env = (do
      let ov ← eval o X.env
      standAt apos.atName
      let (f,first) ← holding [ov] (getMethod ov m pl)
      callWith pos f first (backTo pos (starEach [] X.env)) (backToKw pos (keywordEach [] X.env))):=by rfl) :
    PE X (.Call (.Attribute o m apos) [] [] pos) (Y0 X m ta YZ):=by
  intro pins s σ H Q I h
  refine PySem.W.methodCall_KW (pl:=pl) (thn (he pins s σ H _ I h) fun u s1 ⟨x,H1,I1,rx,a,C,dx,fs,f,fd,ps,k,sp,ex,ea,l,cl,hm,F,hr,hb,q⟩=>?_) ht
  subst ex
  obtain rfl : u = Value.ref a:=rx
  refine xS I1 ea cl hm l ?_
  exact PySem.W.callWith_K0 (first:=[.ref a]) I1.kIn hm.kp (ZR (us:=[.ref a]) (vs:=[.ref a]) F hr hb .nil W5 I1 (.cons rfl .nil) q)
end
end L2

namespace PySem
namespace Zt
inductive SK where
  | l
  | t
def ItAt (k : SK) (h : Heap) (it a : Addr) (i : Nat) : Prop:=match k with
  | .l=>h.IsListIter it a i
  | .t=>h.IsTupleIter it a i
def SqAt (k : SK) (h : Heap) (a : Addr) (xs : Array Value) : Prop:=match k with
  | .l=>h.IsList a xs
  | .t=>h.IsTuple a xs
theorem ItAt.obj {k : SK} {h : Heap} {it a : Addr} {i : Nat} (x : ItAt k h it a i) : ∃ o,h.get? it = some o∧(∀ v,o.data ≠ .cell v):=by
  cases k <;> (obtain ⟨o,e,c,d⟩:=x; exact ⟨o,e,fun v z=>by rw [d] at z; cases z⟩)
theorem ItAt.at {k : SK} {h h' : Heap} {it a : Addr} {i : Nat} (x : ItAt k h it a i) (e : ∀ o,h.get? it = some o→h'.get? it = some o) : ItAt k h' it a i:=by
  cases k
  · exact Heap.IsListIter.at x e
  · exact Heap.IsTupleIter.at x e
theorem SqAt.at {k : SK} {h h' : Heap} {a : Addr} {xs : Array Value} (x : SqAt k h a xs) (e : ∀ o,h.get? a = some o→h'.get? a = some o) : SqAt k h' a xs:=by
  cases k
  · obtain ⟨o,ho,r⟩:=x; exact ⟨o,e o ho,r⟩
  · obtain ⟨o,ho,r⟩:=x; exact ⟨o,e o ho,r⟩
section
variable {prog : Program} {w : World} {A : Around} {E : Value→Shared→Prop} {s : Shared}
theorem v6 {it l : Addr} {i : Nat} {items : Array Value} {x : Value} {Q : Value→Shared→Prop} (hit : s.heap.IsTupleIter it l i) (ht : s.heap.IsTuple l items) (hx : items[i]? = some x)
    (hQ : ∀ h',h'.IsTupleIter it l (i + 1)→Heap.SameBut it s.heap h'→Q x { s with heap:=h' }) : wpAny (model prog w) A (Builtin.SmallTypes.nextOf (.ref it)) Q E s:=by
  obtain ⟨o,ho,hc,hd⟩:=id hit
  obtain ⟨o2,ho2,_,n2,hd2⟩:=ht
  unfold Builtin.SmallTypes.nextOf
  refine wpAny_bind (wpAny_callSpecial?_slot (name:=Str.ofString "__next__") hit.typeIs F.slot_tuple_iterator_next (wpAny_call_entry F.slot_tuple_iterator_next hit.typeIs F.entry_tuple_iterator_next ?_ (F.args_tuple_iterator_next_1 _)))
  show wpAny _ _ (field (.ref it) 0 >>= _) _ _ s; refine wpAny_bind (wpAny_field ho hd (x:=.ref l) rfl ?_)
  show wpAny _ _ (if (Value.ref l == Value.none) = true then _ else _) _ _ s; rw [if_neg (show ¬ ((Value.ref l == Value.none) = true) from Bool.false_ne_true)]
  show wpAny _ _ (field (.ref it) 1 >>= _) _ _ s; refine wpAny_bind (wpAny_field ho hd (x:=.int i 0) rfl ?_)
  show wpAny _ _ (seqItems? (.ref l) >>= _) _ _ s; refine wpAny_bind (wpAny_seqItems ho2 hd2 ?_)
  simp only [Int.toNat_natCast,hx]
  refine wpAny_bind (wpAny_setField ho hd (by simp) (wpAny_pure ⟨x,rfl,wpAny_pure (hQ _ ⟨_,Heap.get?_update_self _ ho (Obj.isFreed_of_fields (Obj.data_mapFields hd _)),(Obj.cls_mapFields ..).trans hc,?_⟩ (Heap.SameBut.update ..))⟩))
  rw [Obj.data_mapFields hd]
  simp [rawInt]
theorem uZ {it l : Addr} {i : Nat} {items : Array Value} {Q : Value→Shared→Prop} (hh : A.handled = none) (hit : s.heap.IsTupleIter it l i) (ht : s.heap.IsTuple l items) (hx : items[i]? = none)
    (hE : ∀ h' e,Heap.ExtBut it s.heap h'→(∃ o,h'.get? e = some o∧o.cls = .type "StopIteration")→E (.ref e) { s with heap:=h' }) : wpAny (model prog w) A (Builtin.SmallTypes.nextOf (.ref it)) Q E s:=by
  obtain ⟨o,ho,hc,hd⟩:=id hit
  obtain ⟨o2,ho2,_,n2,hd2⟩:=ht
  unfold Builtin.SmallTypes.nextOf
  refine wpAny_bind (wpAny_callSpecial?_slot (name:=Str.ofString "__next__") hit.typeIs F.slot_tuple_iterator_next (wpAny_call_entry F.slot_tuple_iterator_next hit.typeIs F.entry_tuple_iterator_next ?_ (F.args_tuple_iterator_next_1 _)))
  show wpAny _ _ (field (.ref it) 0 >>= _) _ _ s; refine wpAny_bind (wpAny_field ho hd (x:=.ref l) rfl ?_)
  show wpAny _ _ (if (Value.ref l == Value.none) = true then _ else _) _ _ s; rw [if_neg (show ¬ ((Value.ref l == Value.none) = true) from Bool.false_ne_true)]
  show wpAny _ _ (field (.ref it) 1 >>= _) _ _ s; refine wpAny_bind (wpAny_field ho hd (x:=.int i 0) rfl ?_)
  show wpAny _ _ (seqItems? (.ref l) >>= _) _ _ s; refine wpAny_bind (wpAny_seqItems ho2 hd2 ?_)
  simp only [Int.toNat_natCast,hx]
  refine wpAny_bind (wpAny_rule (wpAny_bind (wpAny_setField ho hd (by simp) ?_)))
  show wpAny _ _ (newExc (.type "StopIteration") [] >>= _) _ _ _; refine wpAny_bind ?_
  simp only [newExc,newTuple]
  refine wpAny_bind (wpAny_newObj_type ?_ (by size_fits)); refine wpAny_bind (m:=firstArgMember _ _) (wpAny_of_eq (a:=Value.none) (by first | rfl | (simp only [firstArgMember]; rfl)) ?_)
  refine wpAny_newObj_type ?_ (by size_fits); simp only [raiseNew]
  refine wpAny_bind (wpAny_handled ?_); first | rw [show A.in1.handled = none from hh] | rw [hh]
  refine wpAny_bind (wpAny_pure (wpAny_throw ?_))
  exact hE _ _ (((Heap.SameBut.update ..).extBut.push _).push _) ⟨_,Heap.get?_push_size _ rfl,rfl⟩
theorem wn {k : SK} {it a : Addr} {i : Nat} {xs : Array Value} {x : Value} {Q : Value→Shared→Prop} (hit : ItAt k s.heap it a i) (hs : SqAt k s.heap a xs) (hx : xs[i]? = some x)
    (hQ : ∀ h',ItAt k h' it a (i + 1)→Heap.SameBut it s.heap h'→Q x { s with heap:=h' }) : wpAny (model prog w) A (Builtin.SmallTypes.nextOf (.ref it)) Q E s:=by
  cases k
  · exact wpAny_nextOf_list_item hit hs hx hQ
  · exact v6 hit hs hx hQ
theorem v7 {k : SK} {it a : Addr} {i : Nat} {xs : Array Value} {Q : Value→Shared→Prop} (hh : A.handled = none) (hit : ItAt k s.heap it a i) (hs : SqAt k s.heap a xs) (hx : xs[i]? = none)
    (hE : ∀ h' e,Heap.ExtBut it s.heap h'→(∃ o,h'.get? e = some o∧o.cls = .type "StopIteration")→E (.ref e) { s with heap:=h' }) : wpAny (model prog w) A (Builtin.SmallTypes.nextOf (.ref it)) Q E s:=by
  cases k
  · exact wpAny_nextOf_list_end hh hit hs hx hE
  · exact uZ hh hit hs hx hE
structure Ap (z TI TO i1 i2 : Addr) : Prop where
  a1 : TI ≠ z
  a2 : TO ≠ z
  a3 : i1 ≠ z
  a4 : i2 ≠ z
  a5 : TI ≠ TO
  a6 : TI ≠ i1
  a7 : TI ≠ i2
  a8 : TO ≠ i1
  a9 : TO ≠ i2
  a10 : i1 ≠ i2
structure Off (l z TO i1 i2 : Addr) : Prop where
  b1 : l ≠ z
  b2 : l ≠ TO
  b3 : l ≠ i1
  b4 : l ≠ i2
structure ZAt (k1 k2 : SK) (z TI TO i1 i2 l1 l2 : Addr) (f0 : Value) (i : Nat) (h : Heap) : Prop where
  zz : IsZip h z TI TO f0
  ti : IsPair h TI (.ref i1) (.ref i2)
  to : ∃ a b,IsPair h TO a b
  j1 : ItAt k1 h i1 l1 i
  j2 : ItAt k2 h i2 l2 i
theorem ZAt.keep {k1 k2 : SK} {z TI TO i1 i2 l1 l2 : Addr} {f0 : Value} {i : Nat} {h h' : Heap} (x : ZAt k1 k2 z TI TO i1 i2 l1 l2 f0 i h) (k : ∀ b ∈ [z,TI,TO,i1,i2],∀ o,h.get? b = some o→h'.get? b = some o) : ZAt k1 k2 z TI TO i1 i2 l1 l2 f0 i h':=by
  obtain ⟨p1,p2,⟨a,b,p3⟩,p4,p5⟩:=x
  exact ⟨k z (by simp) _ p1,k TI (by simp) _ p2,⟨a,b,k TO (by simp) _ p3⟩,p4.at fun o e=>k i1 (by simp) o e,p5.at fun o e=>k i2 (by simp) o e⟩
theorem WC {k1 k2 : SK} {z TI TO i1 i2 l1 l2 : Addr} {i : Nat} {xs ys : Array Value} {x y : Value} {Q : Value→Shared→Prop} (D : Ap z TI TO i1 i2) (O1 : Off l1 z TO i1 i2) (O2 : Off l2 z TO i1 i2)
    (Z : ZAt k1 k2 z TI TO i1 i2 l1 l2 .none i s.heap) (hl1 : SqAt k1 s.heap l1 xs) (hl2 : SqAt k2 s.heap l2 ys) (hx : xs[i]? = some x) (hy : ys[i]? = some y)
    (hQ : ∀ h',ZAt k1 k2 z TI TO i1 i2 l1 l2 (rawInt s.heap.objs.size) (i + 1) h'→IsPair h' s.heap.objs.size x y→(∀ c o,c ≠ z→c ≠ TO→c ≠ i1→c ≠ i2→s.heap.get? c = some o→h'.get? c = some o)→Q (.ref s.heap.objs.size) { s with heap:=h' }) :
    wpAny (model prog w) A (Builtin.«zip.__next__» ⟨[.ref z],[]⟩) (fun fin s'=>∃ v,fin = .done (.ret v)∧Q v s') E s:=by
  obtain ⟨hz,hTI,⟨a,b,hTO⟩,h1,h2⟩:=Z
  show wpAny _ _ (field (.ref z) 2 >>= _) _ _ _; refine wpAny_bind (wpAny_field hz rfl (x:=.bool false) rfl ?_)
  show wpAny _ _ (field (.ref z) 3 >>= _) _ _ _; refine wpAny_bind (wpAny_field hz rfl (x:=.ref TI) rfl ?_)
  refine wpAny_bind (wpAny_seqItems hTI rfl ?_); show wpAny _ _ (Builtin.SmallTypes.ownedTupleIsFree (.ref z) >>= _) _ _ _
  refine wpAny_bind ?_; unfold Builtin.SmallTypes.ownedTupleIsFree
  refine wpAny_bind (wpAny_field hz rfl (x:=.none) rfl (wpAny_pure ?_)); simp only [if_true]
  refine wpAny_bind (wpAny_rule ?_); refine wpAny_bind (wpAny_field hz rfl (x:=.ref TO) rfl ?_)
  refine wpAny_bind (wpAny_setField_rec hz (by simp) fun g1 y1 s1=>?_); replace y1 : IsZip g1 z TI TO .ellipsis:=y1
  refine wpAny_bind ?_; simp only [List.zipIdx_cons,List.zipIdx_nil,List.forIn_cons,List.forIn_nil]
  refine wpAny_bind (wpAny_bind (wpAny_onRaise ?_)); show wpAny _ _ (Builtin.SmallTypes.nextOf (.ref i1) >>= _) _ _ _
  refine wpAny_bind (wn (h1.at fun o e=>s1.extBut _ _ D.a3 e) (hl1.at fun o e=>s1.extBut _ _ O1.b1 e) hx fun g2 q1 s2=>wpAny_pure ?_)
  have to2 : IsPair g2 TO a b:=s2.extBut _ _ D.a8 (s1.extBut _ _ D.a2 hTO)
  refine wpAny_bind (wpAny_seqItems to2 rfl ?_); refine wpAny_bind (wpAny_updateSeq_pair to2 fun g3 to3 s3=>?_)
  replace to3 : IsPair g3 TO x b:=to3
  refine wpAny_bind (wpAny_letGo (wpAny_pure ?_)); refine wpAny_bind (wpAny_bind (wpAny_onRaise ?_))
  show wpAny _ _ (Builtin.SmallTypes.nextOf (.ref i2) >>= _) _ _ _
  refine wpAny_bind (wn (h2.at fun o e=>s3.extBut _ _ D.a9.symm (s2.extBut _ _ D.a10.symm (s1.extBut _ _ D.a4 e))) (hl2.at fun o e=>s3.extBut _ _ O2.b2 (s2.extBut _ _ O2.b3 (s1.extBut _ _ O2.b1 e))) hy fun g4 q2 s4=>wpAny_pure ?_)
  have to4 : IsPair g4 TO x b:=s4.extBut _ _ D.a9 to3
  refine wpAny_bind (wpAny_seqItems to4 rfl ?_); refine wpAny_bind (wpAny_updateSeq_pair to4 fun g5 to5 s5=>?_)
  replace to5 : IsPair g5 TO x y:=to5
  refine wpAny_bind (wpAny_letGo (wpAny_pure (wpAny_pure ?_))); refine wpAny_bind (wpAny_seqItems to5 rfl ?_); refine wpAny_bind (wpAny_newTuple ?_)
  have sz : g5.objs.size = s.heap.objs.size:=by rw [s5.1,s4.1,s3.1,s2.1,s1.1]
  have y5 : IsZip g5 z TI TO .ellipsis:=s5.extBut _ _ D.a2.symm (s4.extBut _ _ D.a4.symm (s3.extBut _ _ D.a2.symm (s2.extBut _ _ D.a3.symm y1)))
  have kk : ∀ c o,c ≠ z→c ≠ TO→c ≠ i1→c ≠ i2→s.heap.get? c = some o→g5.get? c = some o:=fun c o c1 c2 c3 c4 e=>s5.extBut _ _ c2 (s4.extBut _ _ c4 (s3.extBut _ _ c2 (s2.extBut _ _ c3 (s1.extBut _ _ c1 e))))
  have q1' : ItAt k1 g5 i1 l1 (i + 1):=q1.at fun o e=>s5.extBut _ _ D.a8.symm (s4.extBut _ _ D.a10 (s3.extBut _ _ D.a8.symm e))
  have q2' : ItAt k2 g5 i2 l2 (i + 1):=q2.at fun o e=>s5.extBut _ _ D.a9.symm e
  have zlt : z < g5.objs.size:=Heap.lt_size y5
  show wpAny _ _ (Builtin.SmallTypes.ownedTupleHandOut (.ref z) (.ref g5.objs.size) >>= _) _ _ _
  refine wpAny_bind ?_; unfold Builtin.SmallTypes.ownedTupleHandOut
  have y6 : IsZip (g5.push { cls:=.type "tuple",data:=.seq #[x,y] }) z TI TO .ellipsis:=Heap.get?_push_of_some _ y5
  refine wpAny_bind (wpAny_setField_rec y6 (by simp) fun g7 y7 s7=>?_); replace y7 : IsZip g7 z TI TO (rawInt g5.objs.size):=y7
  refine wpAny_setField_rec y7 (by simp) fun g8 y8 s8=>?_; replace y8 : IsZip g8 z TI TO (rawInt g5.objs.size):=y8
  have up : ∀ c o,c ≠ z→g5.get? c = some o→g8.get? c = some o:=fun c o c1 e=>s8.extBut _ _ c1 (s7.extBut _ _ c1 (Heap.get?_push_of_some _ e))
  have tt : IsPair g8 g5.objs.size x y:=s8.extBut _ _ (Nat.ne_of_gt zlt) (s7.extBut _ _ (Nat.ne_of_gt zlt) (Heap.get?_push_size _ rfl))
  rw [sz] at y8 tt
  refine wpAny_pure ⟨_,rfl,?_⟩
  show Q (.ref g5.objs.size) _
  rw [sz]
  exact hQ g8 ⟨y8,up _ _ D.a1 (kk _ _ D.a1 D.a5 D.a6 D.a7 hTI),⟨_,_,up _ _ D.a2 to5⟩,q1'.at fun o e=>up _ o D.a3 e,q2'.at fun o e=>up _ o D.a4 e⟩ tt fun c o c1 c2 c3 c4 e=>up c o c1 (kk c o c1 c2 c3 c4 e)
theorem Uw {k1 k2 : SK} {z TI TO i1 i2 l1 l2 : Addr} {i : Nat} {xs ys : Array Value} {Q : Fin→Shared→Prop} (hh : A.handled = none) (D : Ap z TI TO i1 i2) (O1 : Off l1 z TO i1 i2) (O2 : Off l2 z TO i1 i2)
    (Z : ZAt k1 k2 z TI TO i1 i2 l1 l2 .none i s.heap) (hl1 : SqAt k1 s.heap l1 xs) (hl2 : SqAt k2 s.heap l2 ys) (hend : xs[i]? = none∨ys[i]? = none)
    (hE : ∀ h' e,(∀ c o,c ≠ z→c ≠ TO→c ≠ i1→c ≠ i2→s.heap.get? c = some o→h'.get? c = some o)→(∃ o,h'.get? e = some o∧o.cls = .type "StopIteration")→E (.ref e) { s with heap:=h' }) :
    wpAny (model prog w) A (Builtin.«zip.__next__» ⟨[.ref z],[]⟩) Q E s:=by
  obtain ⟨hz,hTI,⟨a,b,hTO⟩,h1,h2⟩:=Z
  show wpAny _ _ (field (.ref z) 2 >>= _) _ _ _; refine wpAny_bind (wpAny_field hz rfl (x:=.bool false) rfl ?_)
  show wpAny _ _ (field (.ref z) 3 >>= _) _ _ _; refine wpAny_bind (wpAny_field hz rfl (x:=.ref TI) rfl ?_)
  refine wpAny_bind (wpAny_seqItems hTI rfl ?_); show wpAny _ _ (Builtin.SmallTypes.ownedTupleIsFree (.ref z) >>= _) _ _ _
  refine wpAny_bind ?_; unfold Builtin.SmallTypes.ownedTupleIsFree
  refine wpAny_bind (wpAny_field hz rfl (x:=.none) rfl (wpAny_pure ?_)); simp only [if_true]
  refine wpAny_bind (wpAny_rule ?_); refine wpAny_bind (wpAny_field hz rfl (x:=.ref TO) rfl ?_)
  refine wpAny_bind (wpAny_setField_rec hz (by simp) fun g1 y1 s1=>?_); replace y1 : IsZip g1 z TI TO .ellipsis:=y1
  refine wpAny_bind ?_; simp only [List.zipIdx_cons,List.zipIdx_nil,List.forIn_cons,List.forIn_nil]
  refine wpAny_bind (wpAny_bind (wpAny_onRaise ?_)); show wpAny _ _ (Builtin.SmallTypes.nextOf (.ref i1) >>= _) _ _ _
  have m1:=h1.at (h':=g1) fun o e=>s1.extBut _ _ D.a3 e
  have n1:=hl1.at (h':=g1) fun o e=>s1.extBut _ _ O1.b1 e
  cases hx : xs[i]? with
  | none =>
    refine wpAny_bind (v7 hh m1 n1 hx fun g2 e s2 he=>?_)
    obtain ⟨oe,hoe,hce⟩:=he
    have y2 : IsZip g2 z TI TO .ellipsis:=s2 _ _ D.a3.symm y1
    have hez : e ≠ z:=fun x=>by subst x; rw [y2] at hoe; cases hoe; simp at hce
    exact wpAny_setField_rec y2 (by simp) fun g3 _ s3=>hE g3 e (fun c o c1 _ c3 _ x=>s3.extBut _ _ c1 (s2 _ _ c3 (s1.extBut _ _ c1 x))) ⟨oe,s3.extBut _ _ hez hoe,hce⟩
  | some x =>
    have hy : ys[i]? = none:=by
      rcases hend with h | h
      · rw [hx] at h; cases h
      · exact h
    refine wpAny_bind (wn m1 n1 hx fun g2 q1 s2=>wpAny_pure ?_)
    have to2 : IsPair g2 TO a b:=s2.extBut _ _ D.a8 (s1.extBut _ _ D.a2 hTO)
    refine wpAny_bind (wpAny_seqItems to2 rfl ?_); refine wpAny_bind (wpAny_updateSeq_pair to2 fun g3 to3 s3=>?_)
    refine wpAny_bind (wpAny_letGo (wpAny_pure ?_)); refine wpAny_bind (wpAny_bind (wpAny_onRaise ?_))
    show wpAny _ _ (Builtin.SmallTypes.nextOf (.ref i2) >>= _) _ _ _
    refine wpAny_bind (v7 hh (h2.at fun o e=>s3.extBut _ _ D.a9.symm (s2.extBut _ _ D.a10.symm (s1.extBut _ _ D.a4 e))) (hl2.at fun o e=>s3.extBut _ _ O2.b2 (s2.extBut _ _ O2.b3 (s1.extBut _ _ O2.b1 e))) hy fun g4 e s4 he=>?_)
    obtain ⟨oe,hoe,hce⟩:=he
    have y4 : IsZip g4 z TI TO .ellipsis:=s4 _ _ D.a4.symm (s3.extBut _ _ D.a2.symm (s2.extBut _ _ D.a3.symm y1))
    have hez : e ≠ z:=fun x=>by subst x; rw [y4] at hoe; cases hoe; simp at hce
    exact wpAny_setField_rec y4 (by simp) fun g5 _ s5=>hE g5 e (fun c o c1 c2 c3 c4 x=>s5.extBut _ _ c1 (s4 _ _ c4 (s3.extBut _ _ c2 (s2.extBut _ _ c3 (s1.extBut _ _ c1 x))))) ⟨oe,s5.extBut _ _ hez hoe,hce⟩
theorem Zr {k1 k2 : SK} {z TI TO i1 i2 l1 l2 : Addr} {i : Nat} {xs ys : Array Value} {x y : Value} {Q : Option Value→Shared→Prop} (D : Ap z TI TO i1 i2) (O1 : Off l1 z TO i1 i2) (O2 : Off l2 z TO i1 i2)
    (Z : ZAt k1 k2 z TI TO i1 i2 l1 l2 .none i s.heap) (hl1 : SqAt k1 s.heap l1 xs) (hl2 : SqAt k2 s.heap l2 ys) (hx : xs[i]? = some x) (hy : ys[i]? = some y)
    (hQ : ∀ h',ZAt k1 k2 z TI TO i1 i2 l1 l2 (rawInt s.heap.objs.size) (i + 1) h'→IsPair h' s.heap.objs.size x y→(∀ c o,c ≠ z→c ≠ TO→c ≠ i1→c ≠ i2→s.heap.get? c = some o→h'.get? c = some o)→Q (some (.ref s.heap.objs.size)) { s with heap:=h' }) :
    wpAny (model prog w) A (pyNext (.ref z)) Q E s:=by
  have hT : s.TypeIs (.ref z) "zip" := ⟨_,Z.zz,rfl⟩
  unfold pyNext
  exact wpAny_bind (wpAny_attempt (wpAny_callSpecial?_slot (name:=Str.ofString "__next__") hT F.slot_zip_next (wpAny_call_entry F.slot_zip_next hT F.entry_zip_next (WC D O1 O2 Z hl1 hl2 hx hy fun h' a1 a2 a3=>wpAny_pure (hQ h' a1 a2 a3)) (F.args_zip_next_1 _))))
theorem Yu {k1 k2 : SK} {z TI TO i1 i2 l1 l2 : Addr} {i : Nat} {xs ys : Array Value} {Q : Option Value→Shared→Prop} (hh : A.handled = none) (D : Ap z TI TO i1 i2) (O1 : Off l1 z TO i1 i2) (O2 : Off l2 z TO i1 i2)
    (Z : ZAt k1 k2 z TI TO i1 i2 l1 l2 .none i s.heap) (hl1 : SqAt k1 s.heap l1 xs) (hl2 : SqAt k2 s.heap l2 ys) (hend : xs[i]? = none∨ys[i]? = none)
    (hQ : ∀ h',(∀ c o,c ≠ z→c ≠ TO→c ≠ i1→c ≠ i2→s.heap.get? c = some o→h'.get? c = some o)→Q none { s with heap:=h' }) : wpAny (model prog w) A (pyNext (.ref z)) Q E s:=by
  have hT : s.TypeIs (.ref z) "zip" := ⟨_,Z.zz,rfl⟩
  unfold pyNext
  refine wpAny_bind (wpAny_attempt (wpAny_callSpecial?_slot (name:=Str.ofString "__next__") hT F.slot_zip_next (wpAny_call_entry F.slot_zip_next hT F.entry_zip_next (Uw hh D O1 O2 Z hl1 hl2 hend fun h' e hk he=>?_) (F.args_zip_next_1 _))))
  obtain ⟨o,ho,hc⟩:=he
  exact wpAny_bind (wpAny_isInstance (T := "StopIteration") (b:=true) ⟨o,ho,hc⟩ isSubtype_stop (wpAny_pure (hQ _ hk)))
end
end Zt
end PySem

namespace PySem
namespace Zt
def u8 (k : SK) (a : Addr) : Obj:=match k with
  | .l=>{ cls:=.type "list_iterator",data:=.fields #[.ref a,.int 0 0] }
  | .t=>{ cls:=.type "tuple_iterator",data:=.fields #[.ref a,.int 0 0] }
theorem v9 {k : SK} {h : Heap} {it a : Addr} (e : h.get? it = some (u8 k a)) : ItAt k h it a 0:=by
  cases k <;> exact ⟨_,e,rfl,rfl⟩
theorem wj {prog : Program} {w : World} {A : Around} {E : Value→Shared→Prop} {s : Shared} {k : SK} {a : Addr} {xs : Array Value} {Q : Value→Shared→Prop} (h : SqAt k s.heap a xs)
    (hQ : Q (.ref s.heap.objs.size) { s with heap:=s.heap.push (u8 k a) }) : wpAny (model prog w) A (pyIter (.ref a)) Q E s:=by
  cases k
  · exact wpAny_pyIter_list h hQ
  · exact wpAny_pyIter_tuple h hQ
abbrev g1 (k1 : SK) (h : Heap) (l1 : Addr) : Heap:=h.push (u8 k1 l1)
abbrev g2 (k1 k2 : SK) (h : Heap) (l1 l2 : Addr) : Heap:=(g1 k1 h l1).push (u8 k2 l2)
abbrev g3 (k1 k2 : SK) (h : Heap) (l1 l2 : Addr) : Heap:=(g2 k1 k2 h l1 l2).push { cls:=.type "tuple",data:=.seq #[.ref h.objs.size,.ref (g1 k1 h l1).objs.size] }
abbrev g4 (k1 k2 : SK) (h : Heap) (l1 l2 : Addr) : Heap:=(g3 k1 k2 h l1 l2).push { cls:=.type "tuple",data:=.seq #[.none,.none] }
abbrev g5 (k1 k2 : SK) (h : Heap) (l1 l2 : Addr) : Heap:=(g4 k1 k2 h l1 l2).push { cls:=.type "zip",data:=.fields #[.none,.bool false,.bool false,.ref (g2 k1 k2 h l1 l2).objs.size,.ref (g3 k1 k2 h l1 l2).objs.size] }
theorem XS (k1 k2 : SK) (l1 l2 : Addr) (xs ys : Array Value) :
    Meets (Builtin.«zip.__new__» ⟨[.type "zip",.ref l1,.ref l2],[]⟩) (fun _ R s=>SqAt k1 s.heap l1 xs∧SqAt k2 s.heap l2 ys∧R (.ok (.ret (.ref (g4 k1 k2 s.heap l1 l2).objs.size))) { s with heap:=g5 k1 k2 s.heap l1 l2 }) :=
  .of_wp fun prog w A R s h=>by
    obtain ⟨hp,g,d,tk,os⟩:=s; obtain ⟨hl1,hl2,h⟩:=h
    have hsub:=sub_zip
    have L1 : SqAt k1 (Shared.heap ⟨hp,g,d,tk,os⟩) l1 xs:=hl1
    have L2 : SqAt k2 (Shared.heap ⟨hp.push (u8 k1 l1),g,d,tk,os⟩) l2 ys:=hl2.at fun o e=>Heap.get?_push_of_some _ e
    wp_walk using wj L1,wj L2
    exact ⟨_,rfl,h⟩
section
variable {prog : Program} {w : World} {A : Around} {E : Value→Shared→Prop} {s : Shared}
theorem VN {k1 k2 : SK} {l1 l2 : Addr} {xs ys : Array Value} {Q : Value→Shared→Prop} (hl1 : SqAt k1 s.heap l1 xs) (hl2 : SqAt k2 s.heap l2 ys)
    (h : ∀ h',ZAt k1 k2 (s.heap.objs.size + 4) (s.heap.objs.size + 2) (s.heap.objs.size + 3) s.heap.objs.size (s.heap.objs.size + 1) l1 l2 .none 0 h'→(∀ c o,s.heap.get? c = some o→h'.get? c = some o)→Q (.ref (s.heap.objs.size + 4)) { s with heap:=h' }) :
    wpAny (model prog w) A (call (.type "zip") [.ref l1,.ref l2]) Q E s:=by
  refine callType_new F.called_zip (by decide) (F.typeCall_zip_2 _ _) (F.newCall_zip_2 _ _) (fun obj=>F.args_object_init_3 obj _ _) F.entry_zip_new (XS k1 k2 l1 l2 xs ys) ⟨hl1,hl2,?_⟩
  have z1 : (g1 k1 s.heap l1).objs.size = s.heap.objs.size + 1:=Heap.size_push ..
  have z2 : (g2 k1 k2 s.heap l1 l2).objs.size = s.heap.objs.size + 2:=by rw [Heap.size_push,z1]
  have z3 : (g3 k1 k2 s.heap l1 l2).objs.size = s.heap.objs.size + 3:=by rw [Heap.size_push,z2]
  have z4 : (g4 k1 k2 s.heap l1 l2).objs.size = s.heap.objs.size + 4:=by rw [Heap.size_push,z3]
  have p : ∀ {h : Heap} {o o' : Obj} {b : Addr},h.get? b = some o→(h.push o').get? b = some o:=fun e=>Heap.get?_push_of_some _ e
  have e5 : (g5 k1 k2 s.heap l1 l2).get? (g4 k1 k2 s.heap l1 l2).objs.size = some _:=Heap.get?_push_size _ rfl
  have e4 : (g5 k1 k2 s.heap l1 l2).get? (g3 k1 k2 s.heap l1 l2).objs.size = some _:=p (Heap.get?_push_size _ rfl)
  have e3 : (g5 k1 k2 s.heap l1 l2).get? (g2 k1 k2 s.heap l1 l2).objs.size = some _:=p (p (Heap.get?_push_size _ rfl))
  have e2 : (g5 k1 k2 s.heap l1 l2).get? (g1 k1 s.heap l1).objs.size = some (u8 k2 l2):=p (p (p (Heap.get?_push_size _ (by cases k2 <;> rfl))))
  have e1 : (g5 k1 k2 s.heap l1 l2).get? s.heap.objs.size = some (u8 k1 l1):=p (p (p (p (Heap.get?_push_size _ (by cases k1 <;> rfl)))))
  show _∧_
  rw [z2,z3,z4] at e5
  rw [z1,z2] at e3
  rw [z3] at e4
  rw [z1] at e2
  rw [z4]
  exact ⟨⟨_,e5,rfl⟩,h _ ⟨e5,e3,⟨_,_,e4⟩,v9 e1,v9 e2⟩ fun c o x=>p (p (p (p (p x))))⟩
end
end Zt
end PySem

namespace L2
open PySem PySem.Spec PyProof.Rows PySem.Zt
def SqK (k : SK) (K : PySem.W.Frag) (H : Hp) (a : Addr) (xs : List V) : Prop:=match k with
  | .l=>SqL K H a xs
  | .t=>SqT K H a xs
section
variable {X : Cx} {pins : List (Addr × Obj)} {σ : St} {H : Hp} {s : Shared} {a b : Addr} {xs ys : List V}
theorem Inv.seqK {k : SK} (I : Inv X pins σ H s) (h : SqK k X.K H a xs) : ∃ its : List Value,Vals xs its∧SqAt k s.heap a its.toArray∧xs.length ≤ sizeLine:=by
  cases k
  · obtain ⟨its,r,p,z⟩:=I.list h
    exact ⟨its,r,p.isList,z⟩
  · obtain ⟨its,r,p,z⟩:=I.tuple h
    exact ⟨its,r,p,z⟩
theorem Inv.seqK_inj {k : SK} (I : Inv X pins σ H s) (h : SqK k X.K H a xs) (h' : SqK k X.K H a ys) : xs = ys:=by
  cases k
  · exact I.list_inj h h'
  · exact I.tuple_inj h h'
theorem Inv.off {k : SK} (I : Inv X pins σ H s) (h : SqK k X.K H a xs) (f : FpOk X pins H b) : a ≠ b:=by
  rintro rfl
  have own : ∀ o,X.K.lookup a = some o→False:=fun o e=>by
    have e':=I.ok.mod.kin a o e
    rcases f.2.2.2.1 with z | z
    · exact I.ok.noex a o e' z
    · exact absurd (Nat.lt_of_lt_of_le (Nat.lt_of_lt_of_le (Heap.lt_size e') I.ok.bsz) z) (Nat.lt_irrefl _)
  cases k
  · rcases h with (h | ⟨o,h⟩) | ⟨o,_,_,h,_⟩
    · rw [f.1] at h; cases h
    · rw [f.1] at h; cases h
    · exact own o h
  · rcases h with (h | ⟨o,h⟩) | ⟨o,_,_,h,_⟩
    · rw [f.1] at h; cases h
    · rw [f.1] at h; cases h
    · exact own o h
theorem Inv.turnedLaid {h' : Heap} {t' : Nat} {ch : List Addr} {T : Addr} {o : HO} (I : Inv X pins σ H s) (hf : ∀ b ∈ ch,FpOk X pins H b) (k : ∀ b u,b ∉ ch→s.heap.get? b = some u→h'.get? b = some u) (hT : s.heap.objs.size ≤ T)
    (new : ObjOk X.prog X.w (upd H T o) h' T o) : Inv X pins σ (upd H T o) { s with heap:=h',toks:=t' }:=by
  have hn : H T = none:=I.hok.fresh hT
  have nch : ∀ b u,H b = some u→b ∉ ch:=fun b u e hb=>by rw [(hf b hb).1] at e; cases e
  have neT : ∀ b u,s.heap.get? b = some u→b ≠ T:=fun b u e=>Nat.ne_of_lt (Nat.lt_of_lt_of_le (Heap.lt_size e) hT)
  refine I.step (g':=s.gens) (d':=s.drawn) (ch:=ch) (fun b hb=>?_) (fun b u _ _ hc e _=>k b u hc e) (fun b u _ _ hc e _=>⟨u.slots,k b u hc e⟩) (fun b u _ e n=>?_) (fun b u hc e=>⟨u,k b u hc e⟩)
    (fun b zs e=>?_) (fun b ob u e=>?_) (fun b ps e=>⟨#[],?_⟩) (fun m hm=>?_) (fun b u e=>?_) I.bare
  · exact ⟨(hf b hb).2.2.2.1,(hf b hb).2.1,(hf b hb).2.2.2.2.1,(hf b hb).2.2.2.2.2⟩
  · rw [upd_ne (neT b u e)]; exact n
  · rw [upd_ne (ne_of_none e hn)]; exact e
  · rw [upd_ne (ne_of_none e hn)]; exact e
  · rw [upd_ne (ne_of_none e hn),e]; simp
  · obtain ⟨ob,es,ep,ho,r⟩:=hm
    exact ⟨ob,es,ep,k _ ob (fun hb=>(hf _ hb).2.1 rfl) ho,r⟩
  · by_cases hb : b = T
    · subst hb
      rw [upd_same] at e
      cases e
      exact new
    · rw [upd_ne hb] at e
      refine (I.hok b u e).stay (fun c v hc q=>k c v ?_ q) (fun c q=>by rw [upd_ne (ne_of_none q hn)]; exact q) fun c zs q=>by rw [upd_ne (ne_of_none q hn)]; exact q
      rcases hc with z | z
      · rw [z]; exact nch b u e
      · exact nch c _ z
theorem Inv.turnedL {h' : Heap} {t' : Nat} {ch : List Addr} (I : Inv X pins σ H s) (hf : ∀ b ∈ ch,FpOk X pins H b) (k : ∀ b u,b ∉ ch→s.heap.get? b = some u→h'.get? b = some u) : Inv X pins σ H { s with heap:=h',toks:=t' }:=by
  have nch : ∀ b u,H b = some u→b ∉ ch:=fun b u e hb=>by rw [(hf b hb).1] at e; cases e
  refine I.step (g':=s.gens) (d':=s.drawn) (ch:=ch) (fun b hb=>?_) (fun b u _ _ hc e _=>k b u hc e) (fun b u _ _ hc e _=>⟨u.slots,k b u hc e⟩) (fun b u _ e n=>n) (fun b u hc e=>⟨u,k b u hc e⟩)
    (fun b zs e=>e) (fun b ob u e=>e) (fun b ps e=>⟨#[],by rw [e]; simp⟩) (fun m hm=>?_) (fun b u e=>?_) I.bare
  · exact ⟨(hf b hb).2.2.2.1,(hf b hb).2.1,(hf b hb).2.2.2.2.1,(hf b hb).2.2.2.2.2⟩
  · obtain ⟨ob,es,ep,ho,r⟩:=hm
    exact ⟨ob,es,ep,k _ ob (fun hb=>(hf _ hb).2.1 rfl) ho,r⟩
  · refine (I.hok b u e).stay (fun c v hc q=>k c v ?_ q) (fun _ q=>q) fun _ _ q=>q
    rcases hc with z | z
    · rw [z]; exact nch b u e
    · exact nch c _ z
end
def Itz (k1 k2 : SK) (K : PySem.W.Frag) (a b : Addr) : It :=
  ⟨fun i H=>∃ xs ys x y,SqK k1 K H a xs∧SqK k2 K H b ys∧xs[i]? = some x∧ys[i]? = some y,
   fun i H v H'=>∃ p,H p = none∧v = .ref p∧∀ xs ys x y,SqK k1 K H a xs→SqK k2 K H b ys→xs[i]? = some x→ys[i]? = some y→H' = upd H p (.tup [x,y]),
   fun i H=>∃ xs ys,SqK k1 K H a xs∧SqK k2 K H b ys∧(xs.length ≤ i∨ys.length ≤ i)⟩
theorem WK {P : Program} {w : World} {K : PySem.W.Frag} {es : List Expr} {n : Nat} {tp : Pos} {k1 k2 : SK} {z TI TO i1 i2 : Addr} (a b : Addr) (D : Ap z TI TO i1 i2) :
    Turn P w K (.Tuple es n tp) (Itz k1 k2 K a b) [z,TI,TO,i1,i2] z (fun i h=>ZAt k1 k2 z TI TO i1 i2 a b .none i h) where
  mem:=by simp
  obj:=fun i h st c hc=>by
    obtain ⟨q1,q2,⟨u,v,q3⟩,q4,q5⟩:=st
    have hc' : c = z∨c = TI∨c = TO∨c = i1∨c = i2:=by simpa using hc
    rcases hc' with rfl | rfl | rfl | rfl | rfl
    · exact ⟨_,q1,fun v z=>by
        have z' : Data.fields _ = Data.cell v:=z
        cases z'⟩
    · exact ⟨_,q2,fun v z=>by
        have z' : Data.seq _ _ = Data.cell v:=z
        cases z'⟩
    · exact ⟨_,q3,fun v z=>by
        have z' : Data.seq _ _ = Data.cell v:=z
        cases z'⟩
    · exact q4.obj
    · exact q5.obj
  keep:=fun i h h' st k=>st.keep k
  item:=by
    intro X hP hw hK hc i pins s σ H E I hf st hg
    subst hP hw hK
    obtain ⟨xs,ys,x,y,ha,hb,hx,hy⟩:=hg
    obtain ⟨its1,r1,p1,_⟩:=I.seqK ha
    obtain ⟨its2,r2,p2,_⟩:=I.seqK hb
    obtain ⟨u1,e1,q1⟩:=r1.get hx
    obtain ⟨u2,e2,q2⟩:=r2.get hy
    have fz:=hf z (by simp)
    have fo:=hf TO (by simp)
    have f1:=hf i1 (by simp)
    have f2:=hf i2 (by simp)
    refine Zr D ⟨I.off ha fz,I.off ha fo,I.off ha f1,I.off ha f2⟩ ⟨I.off hb fz,I.off hb fo,I.off hb f1,I.off hb f2⟩ st p1 p2 (by simpa using e1) (by simpa using e2) fun h1 Z1 T1 kk=>?_
    refine ⟨_,rfl,wpAny_letOwnedTupleGo_zip Z1.zz fun h2 z2 sb=>?_⟩
    have tz : s.heap.objs.size ≠ z:=fun q=>by
      have:=Heap.lt_size st.zz
      rw [← q] at this
      exact Nat.lt_irrefl _ this
    have T2 : IsPair h2 s.heap.objs.size u1 u2:=sb.extBut _ _ tz T1
    have k2 : ∀ c o,c ∉ [z,TO,i1,i2]→s.heap.get? c = some o→h2.get? c = some o:=fun c o hc e=>by
      simp only [List.mem_cons,List.not_mem_nil,or_false,not_or] at hc
      exact sb.extBut c o hc.1 (kk c o hc.1 hc.2.1 hc.2.2.1 hc.2.2.2 e)
    have hn : H s.heap.objs.size = none:=I.fresh
    refine ⟨.ref s.heap.objs.size,upd H s.heap.objs.size (.tup [x,y]),I.turnedLaid (t':=s.toks) (ch:=[z,TO,i1,i2]) (fun c hc=>hf c ?_) k2 (Nat.le_refl _) ?_,rfl,⟨_,hn,rfl,fun xs' ys' x' y' ha' hb' hx' hy'=>?_⟩,?_,fun c hc=>?_⟩
    · simp only [List.mem_cons,List.not_mem_nil,or_false] at hc ⊢
      rcases hc with q | q | q | q <;> simp [q]
    · exact ⟨by show 2 ≤ sizeLine; decide,[u1,u2],.cons q1 (.cons q2 .nil),⟨_,T2,rfl,_,rfl⟩⟩
    · have:=I.seqK_inj ha ha'
      subst this
      have:=I.seqK_inj hb hb'
      subst this
      rw [hx] at hx'
      cases hx'
      rw [hy] at hy'
      cases hy'
      rfl
    · obtain ⟨_,q2,⟨u,v,q3⟩,q4,q5⟩:=Z1
      exact ⟨z2,sb.extBut _ _ D.a1 q2,⟨u,v,sb.extBut _ _ D.a2 q3⟩,q4.at fun o e=>sb.extBut _ _ D.a3 e,q5.at fun o e=>sb.extBut _ _ D.a4 e⟩
    · obtain ⟨q1,q2,⟨u,v,q3⟩,q4,q5⟩:=st
      have lt : ∀ {c o},s.heap.get? c = some o→c ≠ s.heap.objs.size:=fun e=>Nat.ne_of_lt (Heap.lt_size e)
      have hne : c ≠ s.heap.objs.size:=by
        have hc' : c = z∨c = TI∨c = TO∨c = i1∨c = i2:=by simpa using hc
        rcases hc' with rfl | rfl | rfl | rfl | rfl
        · exact lt q1
        · exact lt q2
        · exact lt q3
        · obtain ⟨o,e,_⟩:=q4.obj
          exact lt e
        · obtain ⟨o,e,_⟩:=q5.obj
          exact lt e
      rw [upd_ne hne]
      exact (hf c hc).1
  done:=by
    intro X hP hw hK hc i pins s σ H E I hf st hg
    subst hP hw hK
    obtain ⟨xs,ys,ha,hb,hend⟩:=hg
    obtain ⟨its1,r1,p1,_⟩:=I.seqK ha
    obtain ⟨its2,r2,p2,_⟩:=I.seqK hb
    have l1:=r1.length
    have l2:=r2.length
    have fz:=hf z (by simp)
    have fo:=hf TO (by simp)
    have f1:=hf i1 (by simp)
    have f2:=hf i2 (by simp)
    refine Yu (I.ok.hd hc) D ⟨I.off ha fz,I.off ha fo,I.off ha f1,I.off ha f2⟩ ⟨I.off hb fz,I.off hb fo,I.off hb f1,I.off hb f2⟩ st p1 p2 ?_ fun h' kk=>⟨rfl,I.turnedL (t':=s.toks) (ch:=[z,TO,i1,i2]) (fun c hc=>hf c ?_) fun c o hc e=>?_⟩
    · rcases hend with q | q
      · left; simp; omega
      · right; simp; omega
    · simp only [List.mem_cons,List.not_mem_nil,or_false] at hc ⊢
      rcases hc with q | q | q | q <;> simp [q]
    · simp only [List.mem_cons,List.not_mem_nil,or_false,not_or] at hc
      exact kk c o hc.1 hc.2.1 hc.2.2.1 hc.2.2.2 e
  self:=fun _ _ _ _ _ st h=>wpAny_pyIter_zip st.zz h
theorem zeL (n : Nat) : Ap (n + 4) (n + 2) (n + 3) n (n + 1) :=
  ⟨Nat.ne_of_lt (by omega),Nat.ne_of_lt (by omega),Nat.ne_of_lt (by omega),Nat.ne_of_lt (by omega),Nat.ne_of_lt (by omega),Nat.ne_of_gt (by omega),Nat.ne_of_gt (by omega),Nat.ne_of_gt (by omega),Nat.ne_of_gt (by omega),Nat.ne_of_lt (by omega)⟩
theorem VI {K : PySem.W.Frag} {k1 k2 : SK} {a b : Addr} {xs ys : List V} {g : TG} {tc : TT} {te : TE} {Q : VK} {D : Addr} {τ0 : St} {H0 : Hp} (hlen : xs.length = ys.length) (Pv : Nat→List V→St→Hp→Prop) (h0 : Pv 0 [] τ0 H0) (hl : ∀ i zs τ H,Pv i zs τ H→SqK k1 K H a xs∧SqK k2 K H b ys)
    (hs : ∀ i x y zs τ H p,xs[i]? = some x→ys[i]? = some y→Pv i zs τ H→H p = none→g (.ref p) τ (upd H p (.tup [x,y])) fun τ2 H4=>tc τ2 H4 fun c H5 =>
      if c = true then te τ2 H5 fun y H6=>H6 D = some (.lst zs)∧zs.length < sizeLine∧Pv (i + 1) (zs ++ [y]) τ2 (upd H6 D (.lst (zs ++ [y]))) else Pv (i + 1) zs τ2 H5)
    (hd : ∀ zs τ H,Pv xs.length zs τ H→Q (.ref D) H) : ZH (Itz k1 k2 K a b) g tc te Q D τ0 H0 :=
  uf xs.length Pv h0 (fun zs τ H p=>⟨⟨xs,ys,(hl _ _ _ _ p).1,(hl _ _ _ _ p).2,.inl (Nat.le_refl _)⟩,hd zs τ H p⟩) fun i zs τ H hi p=>by
    have hi2 : i < ys.length:=by omega
    have e1 : xs[i]? = some xs[i]:=by simp [hi]
    have e2 : ys[i]? = some ys[i]:=by simp [hi2]
    refine ⟨⟨xs,ys,xs[i],ys[i],(hl _ _ _ _ p).1,(hl _ _ _ _ p).2,e1,e2⟩,fun v H3 y=>?_⟩
    obtain ⟨q,hq,rfl,y⟩:=y
    rw [y xs ys xs[i] ys[i] (hl _ _ _ _ p).1 (hl _ _ _ _ p).2 e1 e2]
    exact hs i _ _ zs τ H q e1 e2 p hq
theorem zdZ {X : Cx} {x : Str} {C : Addr} {pos : Pos} (hm : X.mg x = some (.ref C)) (hg : Gl X x:=by rfl) (hd : (x == ("__debug__" : Str)) = false:=by decide) : PE X (.Name x pos) (tC (.ref C)):=xw hg hm rfl hd
theorem zd1 {X : Cx} {x : Str} {n : String} {pos : Pos} (hm : X.mg x = none) (hv : bootBuiltins x = some (.type n)) (hg : Gl X x:=by rfl) (hn : x ≠ "__name__" := by decide) (hd : (x == ("__debug__" : Str)) = false:=by decide) : PE X (.Name x pos) (tC (.ty n)):=zaa hg hm hv rfl hn hd
def zqy (K : PySem.W.Frag) (ta : TA) : TI:=fun σ H R=>ta σ H fun vs H1=>∃ k1 k2 a b xs ys,vs = [V.ref a,V.ref b]∧SqK k1 K H1 a xs∧SqK k2 K H1 b ys∧R (Itz k1 k2 K a b) H1
theorem xl : bootBuiltins "len" = some (.builtin "len"):=by decide +kernel
theorem Yl : bootBuiltins "int" = some (.type "int"):=by decide +kernel
theorem Uv : bootBuiltins "min" = some (.builtin "min"):=by decide +kernel
theorem zeI : bootBuiltins "max" = some (.builtin "max"):=by decide +kernel
theorem zB : bootBuiltins "isinstance" = some (.builtin "isinstance"):=by decide +kernel
theorem zeJ : bootBuiltins "abs" = some (.builtin "abs"):=by decide +kernel
theorem Yk : bootBuiltins "str" = some (.type "str"):=by decide +kernel
theorem Uu : bootBuiltins "sum" = some (.builtin "sum"):=by decide +kernel
theorem Wu : bootBuiltins "bool" = some (.type "bool"):=by decide +kernel
theorem VP : bootBuiltins "tuple" = some (.type "tuple"):=by decide +kernel
theorem b01 (k : Bool) : -(2 ^ 64) < (if k = true then (1 : Int) else 0)∧(if k = true then (1 : Int) else 0) < 2 ^ 64:=by cases k <;> decide
theorem boot_zip : bootBuiltins "zip" = some (.type "zip"):=by decide +kernel
theorem zdN {X : Cx} {es : List Expr} {n : Nat} {tp : Pos} {a b : Expr} {ta : TA} {p pos : Pos} (hg : Gl X "zip") (hm : X.mg "zip" = none) (ha : PA X [a,b] ta) (hs : starEach [a,b] X.env = [(false,eval a X.env),(false,eval b X.env)]:=by rfl) (hs2 : starEach [b] X.env = [(false,eval b X.env)]:=by rfl) :
    PI X (.Tuple es n tp) (.Call (.Name "zip" p) [a,b] [] pos) (zqy X.K ta):=by
  intro pins s σ H R I h
  refine Call_ (ld_blt I hg hm boot_zip (PyProof.Rows.callWith_type1 (thn (ha pos pins s σ H _ I h) fun us s1 ⟨vs,H1,I1,r1,q1⟩=>?_) (by rw [hs,hs2]) (by rw [hs2]; rfl)))
  obtain ⟨k1,k2,a',b',xs,ys,e,h1,h2,q⟩:=q1
  subst e
  obtain ⟨u,v,rfl,ru,rv⟩:=r1.two
  cases ru
  cases rv
  obtain ⟨its1,x1,p1,_⟩:=I1.seqK h1
  obtain ⟨its2,x2,p2,_⟩:=I1.seqK h2
  refine VN p1 p2 fun h' Z kk=>wpAny_pyIter_zip Z.zz ?_
  have fp : ∀ c ∈ [s1.heap.objs.size + 4,s1.heap.objs.size + 2,s1.heap.objs.size + 3,s1.heap.objs.size,s1.heap.objs.size + 1],FpOk X pins H1 c:=fun c hc=>by
    have hle : s1.heap.objs.size ≤ c:=by
      simp only [List.mem_cons,List.not_mem_nil,or_false] at hc
      rcases hc with q | q | q | q | q <;> rw [q] <;> omega
    exact I1.fpOk hle (I1.hok.fresh hle)
  refine ⟨_,_,_,_,H1,rfl,I1.kept (t':=s1.toks) kk,WK a' b' (zeL _),Z,fp,q⟩
end L2

namespace L2
open PySem PySem.Spec PyProof.Rows
theorem zat {ns : List Int} {i : Nat} (h : i < ns.length) : ns.getD i 0 = ns[i]:=by simp [List.getD,h]
theorem UA {ns : List Int} {its : List Value} (r : Vals (ns.map V.int) its) {i : Nat} {v : Value} (e : its.toArray[i]? = some v) : ∃ t,v = .int (ns.getD i 0) t:=by
  have e' : its[i]? = some v:=by simpa using e
  have hi : i < its.length:=(List.getElem?_eq_some_iff.mp e').1
  have hl:=r.length
  rw [List.length_map] at hl
  have hb : i < ns.length:=by omega
  obtain ⟨u,e2,ru⟩:=r.get (i:=i) (x:=V.int ns[i]) (by simp [hb])
  rw [e'] at e2
  cases e2
  obtain ⟨t,rfl⟩:=ru
  exact ⟨t,by rw [zat hb]⟩
theorem zaE (val : Nat→Int) : ∀ k,argBest (fun i j=>decide (val i > val j)) k ≤ k∧∀ j,j ≤ k→val j ≤ val (argBest (fun i j=>decide (val i > val j)) k)
  | 0=>⟨Nat.le_refl _,fun j hj=>by rw [Nat.le_zero.mp hj]; exact Int.le_refl _⟩
  | k + 1=>by
    obtain ⟨h1,h2⟩:=zaE val k
    show (if decide (val (k + 1) > val (argBest _ k)) = true then k + 1 else argBest _ k) ≤ k + 1∧∀ j,j ≤ k + 1→val j ≤ val (if decide (val (k + 1) > val (argBest _ k)) = true then k + 1 else argBest _ k)
    by_cases q : val (k + 1) > val (argBest (fun i j=>decide (val i > val j)) k)
    · rw [if_pos (decide_eq_true q)]
      refine ⟨Nat.le_refl _,fun j hj=>?_⟩
      by_cases e : j = k + 1
      · rw [e]; exact Int.le_refl _
      · have:=h2 j (by omega)
        omega
    · rw [if_neg (fun z=>q (of_decide_eq_true z))]
      refine ⟨Nat.le_succ_of_le h1,fun j hj=>?_⟩
      by_cases e : j = k + 1
      · rw [e]; omega
      · exact h2 j (by omega)
section
variable {P : Program} {w : World} {A : Around} {R : Result→Shared→Prop} {I S : Addr} {fp wr : List Addr} {n : Nat} {Is : Nat→Value→Prop} {St : Nat→Heap→Prop} {kw : List (Str × Value)}
end
theorem ZY (ns : List Int) : ∀ k,preSum (fun i=>ns.getD i 0) k = (ns.take k).sum
  | 0=>by simp [preSum]
  | k + 1=>by
    show preSum _ k + ns.getD k 0 = _
    rw [ZY ns k,List.take_add_one]
    cases q : ns[k]? with
    | none=>simp [List.getD,q]
    | some x=>simp [List.getD,q]
def zi8 (K : PySem.W.Frag) : List V→Hp→VK→Prop:=fun xs H Q=>∃ (a : Addr) (ns : List Int),xs = [V.ref a]∧SqL K H a (ns.map V.int)∧Q (.int ns.sum) H
section
variable {X : Cx}
theorem Ze (hc : X.calm = true) : xU X (.builtin "sum") (zi8 X.K):=by
  intro pins s σ H xs us Q I r h
  obtain ⟨a,ns,rfl,ha,q⟩:=h
  obtain ⟨u,rfl,ru⟩:=r.one
  cases ru
  obtain ⟨its,rv,p,hz⟩:=I.list ha
  have lt : a < s.heap.objs.size:=by
    obtain ⟨_,e,_⟩:=p.isList
    exact Heap.lt_size e
  refine call_sum_walkAnyS (wpAny_pyIter_list p.isList ?_)
  refine ⟨s.heap.objs.size,_,_,_,_,_,_,fun i=>ns.getD i 0,rfl,(Walks.list (A:=X.A.in1) (show X.A.in1.handled = none from I.ok.hd hc) s.heap.objs.size a (Nat.ne_of_lt lt) its.toArray).toS,⟨⟨_,Heap.get?_push_size _ rfl,rfl,rfl⟩,p.isList.push _⟩,fun b hb=>?_,fun i v hv=>UA rv hv,fun s' t' hm=>?_⟩
  · show b < (s.heap.push _).objs.size
    rw [Heap.size_push]
    have z : b = s.heap.objs.size∨b = a:=by simpa using hb
    rcases z with z | z
    · rw [z]; exact Nat.lt_succ_self _
    · rw [z]; exact Nat.lt_succ_of_lt lt
  · obtain ⟨h',g',d',tk',os'⟩:=s'
    have e1 : g' = s.gens:=hm.gens
    have e2 : d' = s.drawn:=hm.drawn
    have e3 : os' = s.os:=hm.os
    subst e1 e2 e3
    have hl:=rv.length
    rw [List.length_map] at hl
    rw [ZY,List.size_toArray,← hl,List.take_length]
    exact ⟨.int _,H,I.kept (t':=tk') fun b o e=>hm.heap b o (fun z=>by
      rw [List.mem_singleton.mp z] at e
      exact Nat.lt_irrefl _ (Heap.lt_size e)) (Heap.get?_push_of_some _ e),⟨_,rfl⟩,q⟩
end
end L2

namespace L2
open PySem PySem.Spec PyProof.Rows
section
variable {P : Program} {w : World} {A : Around} {E : Value→Shared→Prop}
end
end L2

namespace K04
open PySem L2
inductive Ex where
  | num (i : Int)
  | name (x : Str)
  | two (w : Str) (e f : Ex)
  | mod (e : Ex) (n : Int)
  | less (e f g h : Ex)
def Ex.dep : Ex→Nat
  | .num _=>1
  | .name _=>1
  | .two _ e f=>max e.dep f.dep + 1
  | .mod e _=>e.dep + 1
  | .less e f g h=>max (max e.dep f.dep) (max g.dep h.dep) + 1
theorem Ex.dep_pos : ∀ e : Ex,1 ≤ e.dep
  | .num _=>Nat.le_refl _
  | .name _=>Nat.le_refl _
  | .two _ _ _=>Nat.le_add_left _ _
  | .mod _ _=>Nat.le_add_left _ _
  | .less _ _ _ _=>Nat.le_add_left _ _
abbrev VR (w : Str) : Prop:=w = "add" ∨ w = "sub" ∨ w = "min" ∨ w = "max"
def Ex.ok (names : List Str) : Ex→Prop
  | .num i=>-100000000000000000000 < i∧i < 100000000000000000000
  | .name x=>x ∈ names
  | .two w e f=>VR w∧e.ok names∧f.ok names
  | .mod e n=>(1 ≤ n∧n ≤ 1000000000)∧e.ok names
  | .less e f g h=>e.ok names∧f.ok names∧g.ok names∧h.ok names
def Ext (l : Addr) (H H' : Hp) : Prop:=∀ b o,H b = some o→b ≠ l→H' b = some o
theorem Ext.refl {l : Addr} {H : Hp} : Ext l H H:=fun _ _ e _=>e
theorem Ext.trans {l : Addr} {H H1 H2 : Hp} (a : Ext l H H1) (b : Ext l H1 H2) : Ext l H H2:=fun c o e n=>b c o (a c o e n) n
theorem Ext.same {l : Addr} {H H' : Hp} (a : Same H H') : Ext l H H':=fun c o e _=>a c o e
theorem Ext.new {l p : Addr} {H : Hp} {o : HO} (h : H p = none) : Ext l H (upd H p o):=fun c u e _=>by rw [upd_ne (ne_of_none e h)]; exact e
theorem Ext.at {l : Addr} {H : Hp} {o : HO} : Ext l H (upd H l o):=fun c u e n=>by rw [upd_ne n]; exact e
theorem Same.new {p : Addr} {H : Hp} {o : HO} (h : H p = none) : Same H (upd H p o):=fun c u e=>by rw [upd_ne (ne_of_none e h)]; exact e
def zrG (st : List V) : Prop:=(∃ a : Int,st = [V.int a])∨∃ a b c : Int,st = [V.int a,V.int b,V.int c]
def StAt (H : Hp) (l : Addr) : Prop:=∃ st,H l = some (.lst st)∧zrG st
theorem StAt.new {H : Hp} {l p : Addr} {o : HO} (s : StAt H l) (h : H p = none) : StAt (upd H p o) l:=by
  obtain ⟨st,e,k⟩:=s
  exact ⟨st,by rw [upd_ne (ne_of_none e h)]; exact e,k⟩
theorem StAt.same {H H' : Hp} {l : Addr} (s : StAt H l) (h : Same H H') : StAt H' l:=by
  obtain ⟨st,e,k⟩:=s
  exact ⟨st,h _ _ e,k⟩
def Told (H : Hp) : Ex→V→Prop
  | .num i,v=>∃ p,v = .ref p∧H p = some (.tup [.str "num",.int i])
  | .name x,v=>∃ p,v = .ref p∧H p = some (.tup [.str "name",.str x])
  | .two w e f,v=>∃ p a b,v = .ref p∧H p = some (.tup [.str w,a,b])∧Told H e a∧Told H f b
  | .mod e n,v=>∃ p a,v = .ref p∧H p = some (.tup [.str "mod",a,.int n])∧Told H e a
  | .less e f g h,v=>∃ p a b c d,v = .ref p∧H p = some (.tup [.str "less",a,b,c,d])∧Told H e a∧Told H f b∧Told H g c∧Told H h d
theorem Told.mono {H H' : Hp} (k : ∀ b xs,H b = some (.tup xs)→H' b = some (.tup xs)) : ∀ {e : Ex} {v : V},Told H e v→Told H' e v
  | .num _,_,⟨p,e,h⟩=>⟨p,e,k _ _ h⟩
  | .name _,_,⟨p,e,h⟩=>⟨p,e,k _ _ h⟩
  | .two _ _ _,_,⟨p,a,b,e,h,t1,t2⟩=>⟨p,a,b,e,k _ _ h,t1.mono k,t2.mono k⟩
  | .mod _ _,_,⟨p,a,e,h,t1⟩=>⟨p,a,e,k _ _ h,t1.mono k⟩
  | .less _ _ _ _,_,⟨p,a,b,c,d,e,h,t1,t2,t3,t4⟩=>⟨p,a,b,c,d,e,k _ _ h,t1.mono k,t2.mono k,t3.mono k,t4.mono k⟩
theorem Told.ext {l : Addr} {H H' : Hp} (s : StAt H l) (k : Ext l H H') {e : Ex} {v : V} (t : Told H e v) : Told H' e v:=t.mono fun b xs h=>k b _ h fun z=>by
  obtain ⟨st,q,_⟩:=s
  rw [z,q] at h
  cases h
theorem Told.same {H H' : Hp} (k : Same H H') {e : Ex} {v : V} (t : Told H e v) : Told H' e v:=t.mono fun b xs h=>k b _ h
theorem Told.ref {H : Hp} : ∀ {e : Ex} {v : V},Told H e v→∃ p xs,v = .ref p∧H p = some (.tup xs)
  | .num _,_,⟨p,e,h⟩=>⟨p,_,e,h⟩
  | .name _,_,⟨p,e,h⟩=>⟨p,_,e,h⟩
  | .two _ _ _,_,⟨p,a,b,e,h,_⟩=>⟨p,_,e,h⟩
  | .mod _ _,_,⟨p,a,e,h,_⟩=>⟨p,_,e,h⟩
  | .less _ _ _ _,_,⟨p,a,b,c,d,e,h,_⟩=>⟨p,_,e,h⟩
theorem eqV_refl {x : V} (h : vq x = true) : eqV x x = true:=by
  cases x <;> simp [vq] at h <;> simp [eqV]
theorem Same.made {H : Hp} {x dx C : Addr} {fs fs' : List (Str × V)} (nx : H x = none) (ndx : H dx = none) : Same H (upd (upd (upd H dx (.own x)) x (.ins C dx fs')) x (.ins C dx fs)):=fun b o e=>by
  rw [upd_ne (ne_of_none e nx),upd_ne (ne_of_none e nx),upd_ne (ne_of_none e ndx)]
  exact e
theorem zcc {w : Str} (h : VR w) : decide (V.str w = V.str "num") = false∧decide (V.str w = V.str "name") = false∧decide (V.str w = V.str "mod") = false∧decide (V.str w = V.str "less") = false:=by
  rcases h with rfl | rfl | rfl | rfl <;> decide +kernel
theorem XV {n : Int} {m : Nat} (h1 : 0 < n) (h2 : n.natAbs < 2 ^ m) (h3 : m ≤ 9000) : n.natAbs.log2 < 9000:=by
  have h0 : n.natAbs ≠ 0:=by omega
  have:=(Nat.log2_lt h0 (k:=m)).mpr h2
  omega
theorem zdM {x y z d : Int} (h0 : 0 ≤ d) (h3 : d < 3) : ∃ v,atI [V.int x,V.int y,V.int z] d = some (.int v)∧(v = x∨v = y∨v = z):=by
  have : d = 0∨d = 1∨d = 2:=by omega
  rcases this with rfl | rfl | rfl
  · exact ⟨x,rfl,.inl rfl⟩
  · exact ⟨y,rfl,.inr (.inl rfl)⟩
  · exact ⟨z,rfl,.inr (.inr rfl)⟩
theorem zje {x y d : Int} (h0 : 0 ≤ d) (h3 : d < 2) : ∃ v,atI [V.int x,V.int y] d = some (.int v)∧(v = x∨v = y):=by
  have : d = 0∨d = 1:=by omega
  rcases this with rfl | rfl
  · exact ⟨x,rfl,.inl rfl⟩
  · exact ⟨y,rfl,.inr rfl⟩
theorem zdI : (10 : Int) ^ (20 : Int).toNat = 100000000000000000000:=by decide
theorem zo9 : (10 : Int) ^ (9 : Int).toNat = 1000000000:=by decide
theorem Z4 {v x y z : Int} (h : v = x∨v = y∨v = z) (hx : 0 < x∧x ≤ 100000000000000000000) (hy : 0 < y∧y ≤ 100000000000000000000) (hz : 0 < z∧z ≤ 100000000000000000000) : 0 < v∧v.natAbs.log2 < 9000:=by
  have hv : 0 < v∧v ≤ 100000000000000000000:=by omega
  refine ⟨hv.1,XV (m:=67) hv.1 ?_ (by decide)⟩
  have : v.natAbs ≤ 100000000000000000000:=by omega
  exact Nat.lt_of_le_of_lt this (by decide)
theorem zdK {xs : List Str} {d : Int} (h0 : 0 ≤ d) (h1 : d < (xs.map V.str).length) : ∃ x,x ∈ xs∧atI (xs.map V.str) d = some (V.str x):=by
  rw [List.length_map] at h1
  have hd : d.toNat < xs.length:=by omega
  refine ⟨xs[d.toNat],List.getElem_mem hd,?_⟩
  unfold atI ixN
  rw [List.length_map,if_pos h0,if_pos h1]
  show (xs.map V.str)[d.toNat]? = _
  simp [hd]
theorem zdL {d : Int} (h0 : 0 ≤ d) (h4 : d < 4) : ∃ x,VR x∧atI [V.str "add",V.str "sub",V.str "min",V.str "max"] d = some (V.str x):=by
  have : d = 0∨d = 1∨d = 2∨d = 3:=by omega
  rcases this with rfl | rfl | rfl | rfl
  · exact ⟨"add",.inl rfl,rfl⟩
  · exact ⟨"sub",.inr (.inl rfl),rfl⟩
  · exact ⟨"min",.inr (.inr (.inl rfl)),rfl⟩
  · exact ⟨"max",.inr (.inr (.inr rfl)),rfl⟩
theorem StAt.ne {H : Hp} {l p : Addr} (s : StAt H l) (h : H p = none) : p ≠ l:=by
  obtain ⟨st,e,_⟩:=s
  exact (ne_of_none e h).symm
theorem gn_if {i : Nat} {v : V} {τ : St} {H : Hp} {A B : St→Hp→Prop} (h : A (τ.set i (some v)) H) : vz i v τ H fun τ2 H4=>zeN τ2 H4 fun b H5=>if b = true then A τ2 H5 else B τ2 H5:=by
  show if true = true then A (τ.set i (some v)) H else B (τ.set i (some v)) H
  exact WB h
theorem Told.updL {H : Hp} {D : Addr} {zs : List V} {o : HO} (hD : H D = some (.lst zs)) {e : Ex} {v : V} (t : Told H e v) : Told (upd H D o) e v:=t.mono fun b xs h=>by
  have hb : b ≠ D:=zeb h hD (by intro z; cases z)
  rw [upd_ne hb]
  exact h
theorem log_1009 : ((1009 : Int).natAbs.log2 < 9000):=by decide
theorem Vr : ((2003 : Int).natAbs.log2 < 9000):=by decide
end K04

namespace K04
open PySem L2
def zjx : V→Bool
  | .int _=>true
  | .bl _=>true
  | _=>false
def zqx : V→Bool
  | .bl _=>true
  | _=>false
def zep : V→Bool
  | .str _=>true
  | _=>false
def Lf (K : PySem.W.Frag) (H : Hp) (v : V) : Prop:=∃ t,TyOf K H v t∧PySem.W.kitOne K t (.type "int") = some (zjx v)∧PySem.W.kitOne K t (.type "bool") = some (zqx v)∧PySem.W.kitOne K t (.type "str") = some (zep v)
def whole : V→Bool
  | .int _=>true
  | _=>false
def ZQ : V→Bool
  | .int i=>decide ((if i < 0 then -i else i) < 100000000000000000000)
  | _=>false
def wQ (ws : List Str) : V→Bool
  | .str x=>inV (.str x) (ws.map V.str)
  | _=>false
def zaA : V→Bool
  | .int i=>decide (1 ≤ i) && decide (i ≤ 1000000000)
  | _=>false
theorem WD (v : V) : whole v = (zjx v && !zqx v):=by cases v <;> rfl
theorem ul {v : V} (h : whole v = true) : ∃ i,v = .int i:=by
  cases v <;> simp [whole] at h
  exact ⟨_,rfl⟩
theorem Vx {v : V} (h : zep v = true) : ∃ x,v = .str x:=by
  cases v <;> simp [zep] at h
  exact ⟨_,rfl⟩
theorem inV_str {x : Str} : ∀ {ws : List Str},inV (.str x) (ws.map V.str) = true↔x ∈ ws
  | []=>by simp [inV]
  | w :: ws=>by
    have ih:=inV_str (x:=x) (ws:=ws)
    unfold inV at ih ⊢
    rw [List.map_cons,List.any_cons,Bool.or_eq_true,List.mem_cons,ih]
    constructor
    · rintro (h | h)
      · left
        have : V.str w = V.str x:=by simpa [eqV] using h
        cases this
        rfl
      · exact .inr h
    · rintro (h | h)
      · left
        subst h
        exact eqV_refl rfl
      · exact .inr h
theorem flat_strs (ws : List Str) : (ws.map V.str).all vq = true:=by
  rw [List.all_eq_true]
  intro v hv
  obtain ⟨x,_,rfl⟩:=List.mem_map.mp hv
  rfl
inductive Gx where
  | num (v : V)
  | name (v : V)
  | two (w : V) (e f : Gx)
  | mod (e : Gx) (n : V)
  | less (e f g h : Gx)
  | oth (v : V)
abbrev twoWs : List Str:=["add", "sub", "min", "max"]
def Gx.sound (names : List Str) : Nat→Gx→Bool
  | 0,_=>false
  | _ + 1,.num v=>ZQ v
  | _ + 1,.name v=>wQ names v
  | n + 1,.two w e f=>wQ twoWs w && ([e,f].all (Gx.sound names n))
  | n + 1,.mod e v=>zaA v && Gx.sound names n e
  | n + 1,.less e f g h=>[e,f,g,h].all (Gx.sound names n)
  | _ + 1,.oth _=>false
def Ex.gx : Ex→Gx
  | .num i=>.num (.int i)
  | .name x=>.name (.str x)
  | .two w e f=>.two (.str w) e.gx f.gx
  | .mod e n=>.mod e.gx (.int n)
  | .less e f g h=>.less e.gx f.gx g.gx h.gx
theorem Ex.sound {names : List Str} : ∀ {n : Nat} {e : Ex},e.ok names→e.dep ≤ n→e.gx.sound names n = true
  | 0,e,_,d=>by have:=e.dep_pos; omega
  | n + 1,.num i,o,d=>by
    obtain ⟨o1,o2⟩:=o
    show decide _ = true
    refine decide_eq_true ?_
    split <;> omega
  | n + 1,.name x,o,d=>inV_str.mpr o
  | n + 1,.two w e f,o,d=>by
    obtain ⟨hw,o1,o2⟩:=o
    have d : max e.dep f.dep + 1 ≤ n + 1:=d
    have h1:=Ex.sound (n:=n) o1 (by omega)
    have h2:=Ex.sound (n:=n) o2 (by omega)
    show (inV (.str w) (twoWs.map V.str) && ([e.gx,f.gx].all _)) = true
    have hw' : inV (.str w) (twoWs.map V.str) = true:=inV_str.mpr (by rcases hw with rfl | rfl | rfl | rfl <;> simp)
    rw [hw']
    simp [h1,h2]
  | n + 1,.mod e i,o,d=>by
    obtain ⟨⟨i1,i2⟩,o1⟩:=o
    have d : e.dep + 1 ≤ n + 1:=d
    have h1:=Ex.sound (n:=n) o1 (by omega)
    show ((decide (1 ≤ i) && decide (i ≤ 1000000000)) && e.gx.sound names n) = true
    simp [h1,i1,i2]
  | n + 1,.less e f g h,o,d=>by
    obtain ⟨o1,o2,o3,o4⟩:=o
    have d : max (max e.dep f.dep) (max g.dep h.dep) + 1 ≤ n + 1:=d
    have h1:=Ex.sound (n:=n) o1 (by omega)
    have h2:=Ex.sound (n:=n) o2 (by omega)
    have h3:=Ex.sound (n:=n) o3 (by omega)
    have h4:=Ex.sound (n:=n) o4 (by omega)
    show ([e.gx,f.gx,g.gx,h.gx].all _) = true
    simp [h1,h2,h3,h4]
def Ex.words : Ex→List Str
  | .num i=>[toString i]
  | .name x=>[x]
  | .two w e f=>w :: (e.words ++ f.words)
  | .mod e n => "mod" :: (e.words ++ [(toString n : Str)])
  | .less e f g h => "less" :: (e.words ++ (f.words ++ (g.words ++ h.words)))
def Ex.size : Ex→Nat
  | .num _=>1
  | .name _=>1
  | .two _ e f=>1 + e.size + f.size
  | .mod e _=>2 + e.size
  | .less e f g h=>1 + e.size + f.size + g.size + h.size
theorem Ex.words_len : ∀ e : Ex,e.words.length = e.size
  | .num _=>rfl
  | .name _=>rfl
  | .two _ e f=>by simp [Ex.words,Ex.size,Ex.words_len e,Ex.words_len f]; omega
  | .mod e _=>by simp [Ex.words,Ex.size,Ex.words_len e]; omega
  | .less e f g h=>by simp [Ex.words,Ex.size,Ex.words_len e,Ex.words_len f,Ex.words_len g,Ex.words_len h]; omega
end K04

namespace K04
open PySem L2
theorem Gx.of_sound {names : List Str} : ∀ {n : Nat} {g : Gx},g.sound names n = true→∃ e : Ex,g = e.gx∧e.ok names∧e.dep ≤ n
  | 0,_,h=>by cases h
  | n + 1,.num v,h=>by
    cases v with
    | int i =>
      have h : decide ((if i < 0 then -i else i) < 100000000000000000000) = true:=h
      have h:=of_decide_eq_true h
      refine ⟨.num i,rfl,?_,Nat.le_add_left _ _⟩
      split at h
      · constructor <;> omega
      · constructor <;> omega
    | _=>cases h
  | n + 1,.name v,h=>by
    cases v with
    | str x=>exact ⟨.name x,rfl,inV_str.mp h,Nat.le_add_left _ _⟩
    | _=>cases h
  | n + 1,.two w e f,h=>by
    have h : (wQ twoWs w && ([e,f].all (Gx.sound names n))) = true:=h
    rw [Bool.and_eq_true] at h
    obtain ⟨hw,h⟩:=h
    simp only [List.all_cons,List.all_nil,Bool.and_true,Bool.and_eq_true] at h
    obtain ⟨e1,rfl,o1,d1⟩:=Gx.of_sound h.1
    obtain ⟨e2,rfl,o2,d2⟩:=Gx.of_sound h.2
    cases w with
    | str x =>
      refine ⟨.two x e1 e2,rfl,⟨?_,o1,o2⟩,by show max e1.dep e2.dep + 1 ≤ n + 1; omega⟩
      have hm : x ∈ twoWs:=inV_str.mp hw
      simp only [List.mem_cons,List.not_mem_nil,or_false] at hm
      exact hm
    | _=>cases hw
  | n + 1,.mod e v,h=>by
    have h : (zaA v && Gx.sound names n e) = true:=h
    rw [Bool.and_eq_true] at h
    obtain ⟨e1,rfl,o1,d1⟩:=Gx.of_sound h.2
    cases v with
    | int i =>
      have h1 : (decide (1 ≤ i) && decide (i ≤ 1000000000)) = true:=h.1
      rw [Bool.and_eq_true] at h1
      exact ⟨.mod e1 i,rfl,⟨⟨of_decide_eq_true h1.1,of_decide_eq_true h1.2⟩,o1⟩,by show e1.dep + 1 ≤ n + 1; omega⟩
    | _=>cases h.1
  | n + 1,.less e f g k,h=>by
    have h : [e,f,g,k].all (Gx.sound names n) = true:=h
    simp only [List.all_cons,List.all_nil,Bool.and_true,Bool.and_eq_true] at h
    obtain ⟨h1,h2,h3,h4⟩:=h
    obtain ⟨e1,rfl,o1,d1⟩:=Gx.of_sound h1
    obtain ⟨e2,rfl,o2,d2⟩:=Gx.of_sound h2
    obtain ⟨e3,rfl,o3,d3⟩:=Gx.of_sound h3
    obtain ⟨e4,rfl,o4,d4⟩:=Gx.of_sound h4
    exact ⟨.less e1 e2 e3 e4,rfl,⟨o1,o2,o3,o4⟩,by show max (max e1.dep e2.dep) (max e3.dep e4.dep) + 1 ≤ n + 1; omega⟩
  | n + 1,.oth _,h=>by cases h
theorem Ex.gx_inj : ∀ {e f : Ex},e.gx = f.gx→e = f
  | .num i,.num j,h=>by cases h; rfl
  | .name i,.name j,h=>by cases h; rfl
  | .two w e f,.two w' e' f',h=>by
    injection h with h1 h2 h3
    cases h1
    rw [Ex.gx_inj h2,Ex.gx_inj h3]
  | .mod e n,.mod e' n',h=>by
    injection h with h1 h2
    cases h2
    rw [Ex.gx_inj h1]
  | .less e f g k,.less e' f' g' k',h=>by
    injection h with h1 h2 h3 h4
    rw [Ex.gx_inj h1,Ex.gx_inj h2,Ex.gx_inj h3,Ex.gx_inj h4]
theorem V8 {a b : Nat} (h : a ≤ b) : 4 ^ a ≤ 4 ^ b:=Nat.pow_le_pow_right (by decide) h
theorem Ex.size_le : ∀ e : Ex,3 * e.size + 1 ≤ 4 ^ e.dep
  | .num _=>by show 4 ≤ 4 ^ 1; decide
  | .name _=>by show 4 ≤ 4 ^ 1; decide
  | .two _ e f=>by
    have h1:=e.size_le
    have h2:=f.size_le
    have p1:=V8 (Nat.le_max_left e.dep f.dep)
    have p2:=V8 (Nat.le_max_right e.dep f.dep)
    show 3 * (1 + e.size + f.size) + 1 ≤ 4 ^ (max e.dep f.dep + 1)
    rw [Nat.pow_succ]
    omega
  | .mod e _=>by
    have h1:=e.size_le
    have h3:=e.dep_pos
    have p1 : 4 ^ 1 ≤ 4 ^ e.dep:=V8 h3
    show 3 * (2 + e.size) + 1 ≤ 4 ^ (e.dep + 1)
    rw [Nat.pow_succ]
    omega
  | .less e f g k=>by
    have h1:=e.size_le
    have h2:=f.size_le
    have h3:=g.size_le
    have h4:=k.size_le
    have p1:=V8 (Nat.le_trans (Nat.le_max_left e.dep f.dep) (Nat.le_max_left _ (max g.dep k.dep)))
    have p2:=V8 (Nat.le_trans (Nat.le_max_right e.dep f.dep) (Nat.le_max_left _ (max g.dep k.dep)))
    have p3:=V8 (Nat.le_trans (Nat.le_max_left g.dep k.dep) (Nat.le_max_right (max e.dep f.dep) _))
    have p4:=V8 (Nat.le_trans (Nat.le_max_right g.dep k.dep) (Nat.le_max_right (max e.dep f.dep) _))
    show 3 * (1 + e.size + f.size + g.size + k.size) + 1 ≤ 4 ^ (max (max e.dep f.dep) (max g.dep k.dep) + 1)
    rw [Nat.pow_succ]
    omega
theorem Ex.size_line {e : Ex} (h : e.dep ≤ 8) : e.size ≤ sizeLine:=by
  have h1:=e.size_le
  have h2 : 4 ^ e.dep ≤ 65536:=V8 h
  have : sizeLine = 16777216:=by decide
  omega
end K04

namespace L2
open PySem PySem.Spec PyProof.Rows
def DictAt (a D : Addr) (h : Heap) : Prop:=∃ o,h.get? a = some o∧o.dict = some D
def KD (h h' : Heap) : Prop:=∀ a D,DictAt a D h→DictAt a D h'
def Kp {α : Type} : Sem α→Prop
  | .pure _=>True
  | .raise _=>True
  | .unsupported _=>True
  | .finish _=>True
  | .rule _ k=>Kp (k ())
  | .at _ k=>Kp (k ())
  | .load _ _ k=>∀ o,Kp (k o)
  | .update _ _ f k=>(∀ o,(f o).dict = o.dict∧((f o).data = .freed→o.data = .freed))∧Kp (k ())
  | .alloc _ k=>∀ a,Kp (k a)
  | .loadIfAlive _ k=>∀ o,Kp (k o)
  | .point _ k=>Kp (k ())
  | .register _ _=>True
  | .fresh k=>∀ t,Kp (k t)
  | .ask k=>∀ x,Kp (k x)
  | .choose _ _ k=>∀ n,Kp (k n)
  | .os _ _ k=>∀ r,Kp (k r)
  | .call ..=>False
  | .handled _ k=>∀ o,Kp (k o)
  | .newGen _ k=>∀ n,Kp (k n)
  | .genState _ k=>∀ x,Kp (k x)
  | .resume ..=>False
  | .yield ..=>True
  | .stack k=>∀ l,Kp (k l)
  | .fork ..=>True
  | .thread k=>∀ n,Kp (k n)
  | .await ..=>True
section
variable {α β : Type}
theorem Vv (m : Sem α) (f : α→Sem β) (h : Kp m) (k : ∀ x,Kp (f x)) : Kp (m.bind f):=by
  induction m <;> simp only [Kp,Sem.bind] at h ⊢ <;> first | trivial | exact k _ | (rename_i ih; exact ih _ h) | (rename_i ih; exact ⟨h.1,ih _ h.2⟩) | (rename_i ih; exact fun x=>ih x (h x))
theorem kp_bind {m : Sem α} {f : α→Sem β} (h : Kp m) (k : ∀ x,Kp (f x)) : Kp (m >>= f):=Vv m f h k
theorem kp_pure {x : α} : Kp (pure x : Sem α):=True.intro
theorem wt {c : Prop} [Decidable c] {a b : Sem α} (h : Kp a) (k : Kp b) : Kp (if c then a else b):=by split <;> assumption
theorem DictAt.upd {h : Heap} {a D b : Addr} {f : Obj→Obj} (hf : ∀ o,(f o).dict = o.dict∧((f o).data = .freed→o.data = .freed)) (x : DictAt a D h) : DictAt a D (h.update b f):=by
  obtain ⟨o,e,d⟩:=x
  by_cases hb : b = a
  · subst hb
    refine ⟨f o,Heap.get?_update_self f e ?_,(hf o).1.trans d⟩
    cases q : (f o).isFreed with
    | false=>rfl
    | true =>
      exfalso
      have q1 : (f o).data = .freed:=by
        revert q
        generalize f o = u
        intro q
        obtain ⟨c,d',dt,sl⟩:=u
        cases dt <;> first | rfl | cases q
      have q2:=(hf o).2 q1
      obtain ⟨c,d',dt,sl⟩:=o
      cases q2
      simp only [Heap.get?] at e
      split at e
      · cases e
      · rename_i hne
        exact hne _ _ _ e
  · exact ⟨o,(Heap.get?_update_other _ _ hb).trans e,d⟩
theorem DictAt.keeps {h h' : Heap} {a D : Addr} (x : DictAt a D h) (k : ∀ b o,h.get? b = some o→h'.get? b = some o) : DictAt a D h':=let ⟨o,e,d⟩:=x; ⟨o,k _ _ e,d⟩
theorem ziz {M : Model} {Γ : PySem.Ctx} (t : Sem α) {Q : α→Pos→Shared→Prop} {E : Value→Pos→Shared→Prop} {h0 : Heap} (g : Kp t) (p : Pos) (s : Shared) (k : KD h0 s.heap) (h : Sem.wp M Γ t Q E p s) :
    Sem.wp M Γ t (fun a p' s'=>Q a p' s'∧KD h0 s'.heap) E p s:=by
  induction t generalizing p s with
  | pure x=>exact ⟨h,k⟩
  | raise v=>exact h
  | unsupported | finish | yield | fork | await | register=>exact h
  | rule _ _ ih | «at» _ _ ih | point _ _ ih=>exact ih _ g _ _ k h
  | loadIfAlive _ _ ih | fresh _ ih | ask _ ih | os _ _ _ ih | handled _ _ ih | newGen _ _ ih | stack _ ih | thread _ ih=>exact ih _ (g _) _ _ k h
  | alloc o _ ih=>exact ih _ (g _) _ _ (fun a D x=>(k a D x).keeps fun b u e=>Heap.get?_push_of_some _ e) h
  | load _ _ _ ih | genState _ _ ih =>
    obtain ⟨o,ho,h⟩:=h
    exact ⟨o,ho,ih _ (g _) _ _ k h⟩
  | choose _ _ _ ih=>exact ⟨h.1,ih _ (g _) _ _ k h.2⟩
  | update a _ f _ ih=>exact ⟨h.1,ih _ g.2 _ _ (fun b D x=>(k b D x).upd g.1) h.2⟩
  | call=>exact False.elim g
  | resume=>exact False.elim g
theorem wb {M : Model} {A : Around} {t : Sem α} {Q : α→Shared→Prop} {E : Value→Shared→Prop} {s : Shared} (g : Kp t) (h : wpAny M A t Q E s) : wpAny M A t (fun a s'=>Q a s'∧KD s.heap s'.heap) E s :=
  fun Γ p hΓ=>ziz t g p s (fun _ _ x=>x) (h Γ p hΓ)
theorem Zy {a : Addr} : Kp (load a):=fun _=>True.intro
theorem ZB {v : Value} : Kp (fieldsOf v):=by
  unfold fieldsOf
  cases v <;> first | trivial | skip
  refine kp_bind Zy fun o=>?_
  split <;> trivial
theorem wM {v : Value} {i : Nat} : Kp (field v i):=by
  unfold field
  refine kp_bind ZB fun o=>?_
  split <;> trivial
theorem ZA {g : Array Value→Array Value} (o : Obj) : (Obj.mapFields g o).dict = o.dict∧((Obj.mapFields g o).data = .freed→o.data = .freed):=by
  obtain ⟨c,d,dt,sl⟩:=o
  cases dt <;> exact ⟨rfl,fun q=>by first | rfl | cases q⟩
theorem vy {a : Addr} {i : Nat} {x : Value} : Kp (updateField a i x):=by
  unfold updateField
  refine kp_bind Zy fun o=>?_
  split
  · refine wt ?_ True.intro
    exact ⟨ZA,True.intro⟩
  · trivial
theorem xy {v : Value} {i : Nat} {x : Value} : Kp (setField v i x):=by
  unfold setField
  cases v <;> first | trivial | exact vy
theorem xJ {e : Value} {f : Option Addr} : Kp (setFlight e f):=by
  unfold setFlight
  exact kp_bind wM fun o=>wt xy kp_pure
theorem Zz {env : Env} {b : Bool} {l : List Env} : Kp (keptBack env b l):=by
  unfold keptBack
  cases l with
  | nil =>
    dsimp only
    refine wt kp_pure (kp_bind ?_ fun x=>kp_pure)
    unfold underTheClaimsCaller
    first | exact fun _=>True.intro | exact kp_bind (fun _=>True.intro) fun _=>True.intro
  | cons c l=>exact kp_pure
theorem kp_behind {env : Env} {l : List Env} : Kp (behindIsImport env l):=by
  unfold behindIsImport
  refine wt kp_pure (wt kp_pure ?_)
  exact kp_bind wM fun _=>kp_pure
theorem Vu (l : List Env) : Kp (readyFrames l):=by
  induction l with
  | nil=>trivial
  | cons env l ih =>
    unfold readyFrames
    split
    · refine kp_bind Zy fun o=>wt kp_pure (kp_bind kp_behind fun b=>kp_bind Zz fun v=>kp_bind ?_ fun _=>ih)
      exact ⟨fun o=>⟨rfl,id⟩,True.intro⟩
    · trivial
theorem vH {env : Env} : Kp (PySem.frameOf env):=by
  unfold PySem.frameOf
  refine kp_bind (kp_bind (fun _=>True.intro) fun _=>True.intro) fun l=>kp_bind ?_ fun o=>?_
  · generalize l.dropWhile _ = l'
    cases l' with
    | nil=>trivial
    | cons c r =>
      unfold frameObject
      exact kp_bind (Vu _) fun _=>kp_pure
  · split <;> trivial
theorem wu {f : Addr} {b : Bool} : Kp (entryPlaceOf f b):=by
  unfold entryPlaceOf
  refine kp_bind (fun _=>True.intro) fun l=>?_
  split <;> trivial
theorem vn {a b c d e : Value} {pl : List Value} : Kp (EntryCells.newEntry a b c d e pl):=by
  unfold EntryCells.newEntry newFields newObj newObjAsIs
  dsimp only
  have al : ∀ o : Obj,Kp (alloc o):=fun _ _=>True.intro
  refine wt ?_ ?_
  · exact kp_bind (m:=Sem.unsupported _) True.intro fun _=>kp_bind (al _) fun _=>kp_pure
  · exact kp_bind (al _) fun _=>kp_pure
theorem kp_noteFrame {e : Value} {env : Env} : Kp (noteFrame e env):=by
  unfold noteFrame
  split
  · refine kp_bind wM fun hd=>?_
    refine wt (kp_bind wM fun _=>wt kp_pure (kp_bind xy fun _=>?_)) ?_
    · exact kp_bind vH fun _=>kp_bind wu fun _=>kp_bind vn fun _=>xy
    · exact kp_bind vH fun _=>kp_bind wu fun _=>kp_bind vn fun _=>xy
  · trivial
theorem vG {e : Value} {env : Env} : Kp (leaving env e):=by
  unfold leaving
  exact kp_bind kp_noteFrame fun _=>xJ
end
section
variable {M : Model} {A : Around} {E : Value→Shared→Prop} {s : Shared} {base : Heap} {l : List Env} {env : Env} {outer : List Env} {L e : Addr} {cls a0 : Value} {Q : Unit→Shared→Prop}
theorem zap (hfr : A.frames = some (env :: outer)) (hf : env.frame = some L) (hfl : Heap.FlyingW base (env :: outer) e cls a0 s.heap)
    (hQ : ∀ h',Heap.FlyingW base outer e cls a0 h'→s.heap.UpToSlots h'→KD s.heap h'→Q () { s with heap:=h' }) : wpAny M A (leaving env (.ref e)) Q E s :=
  wpAny_mono (wb vG (wpAny_leaves_onW (Q:=fun _ s2=>∃ h',s2 = { s with heap:=h' }∧Heap.FlyingW base outer e cls a0 h'∧s.heap.UpToSlots h') hfr hf hfl fun h' a b=>⟨h',rfl,a,b⟩))
    (fun _ s2 ⟨⟨h',q,a,b⟩,k⟩=>by subst q; exact hQ h' a b k) fun _ _ z=>z
theorem zed (hfr : A.frames = some (env :: outer)) (hf : env.frame = some L) (hfl : Heap.FlyingW base (env :: outer) e cls a0 s.heap)
    (hQ : ∀ h',Heap.HeldW base (env :: outer) e cls a0 L h'→s.heap.UpToSlots h'→KD s.heap h'→Q () { s with heap:=h' }) : wpAny M A (noteFrame (.ref e) env) Q E s :=
  wpAny_mono (wb kp_noteFrame (wpAny_looks_onW (Q:=fun _ s2=>∃ h',s2 = { s with heap:=h' }∧Heap.HeldW base (env :: outer) e cls a0 L h'∧s.heap.UpToSlots h') hfr hf hfl fun h' a b=>⟨h',rfl,a,b⟩))
    (fun _ s2 ⟨⟨h',q,a,b⟩,k⟩=>by subst q; exact hQ h' a b k) fun _ _ z=>z
theorem zeh (hh : Heap.HeldW base l e cls a0 L s.heap) (hQ : ∀ h',Heap.FlyingW base l e cls a0 h'→s.heap.UpToSlots h'→KD s.heap h'→Q () { s with heap:=h' }) : wpAny M A (setFlight (.ref e) none) Q E s :=
  wpAny_mono (wb xJ (wpAny_landsW (Q:=fun _ s2=>∃ h',s2 = { s with heap:=h' }∧Heap.FlyingW base l e cls a0 h'∧s.heap.UpToSlots h') hh fun h' a b=>⟨h',rfl,a,b⟩))
    (fun _ s2 ⟨⟨h',q,a,b⟩,k⟩=>by subst q; exact hQ h' a b k) fun _ _ z=>z
theorem zaq (hh : Heap.FlyingW base l e cls a0 s.heap) (hQ : ∀ h',Heap.FlyingW base l e cls a0 h'→s.heap.UpToSlots h'→KD s.heap h'→Q () { s with heap:=h' }) : wpAny M A (setFlight (.ref e) none) Q E s :=
  wpAny_mono (wb xJ (lands_againW (Q:=fun _ s2=>∃ h',s2 = { s with heap:=h' }∧Heap.FlyingW base l e cls a0 h'∧s.heap.UpToSlots h') hh fun h' a b=>⟨h',rfl,a,b⟩))
    (fun _ s2 ⟨⟨h',q,a,b⟩,k⟩=>by subst q; exact hQ h' a b k) fun _ _ z=>z
theorem zeC {oe : Obj} {vs : Array Value} (hfr : A.frames = some (env :: outer)) (hl : s.heap.FunFrames base (env :: outer)) (hf : env.frame = some L) (he : s.heap.get? e = some oe) (hkb : base.StaysIn s.heap) (hen : base.get? e = none)
    (hd : oe.data = .fields vs) (h1 : vs[1]? = some .none) (h0 : vs[0]? = some a0)
    (hQ : ∀ h',Heap.FlyingW base outer e oe.cls a0 h'→s.heap.UpToSlots h'→KD s.heap h'→Q () { s with heap:=h' }) : wpAny M A (leaving env (.ref e)) Q E s :=
  wpAny_mono (wb vG (wpAny_leaving_firstW (Q:=fun _ s2=>∃ h',s2 = { s with heap:=h' }∧Heap.LeftW base (env :: outer) e oe.cls a0 s.heap h') hfr hl hf he hkb hen hd h1 h0 fun h' a=>⟨h',rfl,a⟩))
    (fun _ s2 ⟨⟨h',q,a⟩,k⟩=>by
      subst q
      obtain ⟨k1,⟨_,_,k2⟩,k3,k4⟩:=a
      exact hQ h' ⟨k1,hen,k2,k3⟩ k4 k) fun _ _ z=>z
end
end L2

namespace L2
open PySem PySem.Spec PyProof.Rows
section
variable {P : Program} {w : World} {H H' : Hp} {h h' : Heap} {a : Addr} {o : HO}
theorem ObjOk.thr (x : ObjOk P w H h a o) : ∃ u,h.get? a = some u:=by
  cases o with
  | lst xs=>obtain ⟨_,_,_,_,e⟩:=x; exact ⟨_,e⟩
  | tup xs=>obtain ⟨_,_,_,_,e,_⟩:=x; exact ⟨_,e⟩
  | dK kvs=>obtain ⟨_,_,_,_,o,_,_,e,_⟩:=x; exact ⟨_,e⟩
  | dT kvs=>obtain ⟨_,_,_,_,o,_,_,e,_⟩:=x; exact ⟨_,e⟩
  | set S n=>obtain ⟨o,_,_,_,e,_⟩:=x; exact ⟨_,e⟩
  | ins C dx fs=>obtain ⟨_,_,_,e,_⟩:=x; exact ⟨_,e⟩
  | own y=>obtain ⟨_,e⟩:=x; exact ⟨_,e⟩
  | xd fs=>obtain ⟨_,⟨_,_,_,e,_⟩,_⟩:=x; exact ⟨_,e⟩
  | rng lo hi=>obtain ⟨_,_,_,e⟩:=x; exact ⟨_,e⟩
  | frz ob u=>obtain ⟨e,_⟩:=x; exact ⟨_,e⟩
  | tbl ps=>exact ⟨_,show h.get? a = some _ from x⟩
  | met f y=>exact ⟨_,show h.get? a = some _ from x⟩
  | ext φ=>obtain ⟨_,⟨_,e⟩,_⟩:=x; exact ⟨_,e⟩
theorem HOk.thr (x : HOk P w H h) (e : H a = some o) : ∃ u,h.get? a = some u:=(x a o e).thr
theorem HOk.keptT (x : HOk P w H h) (k : ∀ b u,H b ≠ none→h.get? b = some u→h'.get? b = some u) : HOk P w H h':=fun a o e =>
  (x a o e).stay (fun b u hb q=>k b u (by rcases hb with rfl | hb <;> simp_all) q) (fun _ q=>q) fun _ _ q=>q
end
structure Lies (P : Program) (w : World) (l : List Env) (H : Hp) (s : Shared) (H' : Hp) (s' : Shared) (B : Heap) : Prop where
  os : s'.os = s.os
  bare : AllBare s'.gens
  un : Un (frs l) [] H H' s.heap s'.heap
  hok : HOk P w H' s'.heap
  c1 : ∀ b o,s.heap.get? b = some o→H b = none→b ∉ frs l→B.get? b = some o
  c2 : ∀ b o,H' b ≠ none→s'.heap.get? b = some o→B.get? b = some o
  c3 : ∀ b o,s.heap.get? b = some o→b ∉ frs l→∃ o',B.get? b = some o'
abbrev CX1 (P : Program) (w : World) : CXT:=fun l H s E e s'=>∃ (a : Addr) (cls a0 : Value) (H' : Hp) (B : Heap),e = .ref a∧Lies P w l H s H' s' B∧Heap.FlyingW B l a cls a0 s'.heap∧∃ dd : Option Addr,(∀ D,dd = some D→DictAt a D s'.heap)∧E cls dd H'
section
variable {X : Cx} {pins : List (Addr × Obj)} {σ : St} {H H' : Hp} {s s' : Shared} {B h2 : Heap} {t2 : Nat}
theorem Lies.un2 (I : Inv X pins σ H s) (L : Lies X.prog X.w X.stack H s H' s' B) (st : B.StaysIn h2) (up : s'.heap.UpToSlots h2) : Un (frs X.stack) [] H H' s.heap h2:=by
  have sl : ∀ b o,s.heap.get? b = some o→b ∈ frs X.stack→∃ z,h2.get? b = some { o with slots:=z }:=fun b o q hb=>by
    obtain ⟨z,e1⟩:=L.un.slot b o q (I.stkFree b hb) hb (by simp)
    obtain ⟨_,o',ho',hd⟩:=I.stack.mem hb
    rw [q] at ho'
    cases ho'
    obtain ⟨z2,e2⟩:=up b _ e1 (fun vs z=>hd vs z)
    exact ⟨z2,e2⟩
  refine ⟨fun b o q n hb _=>st b o (L.c1 b o q n hb),fun b o q _ hb _=>sl b o q hb,fun b o q n hx=>L.un.free b o q n hx,fun b o q _=>?_,L.un.tups,L.un.frzs,L.un.tbls⟩
  by_cases hb : b ∈ frs X.stack
  · obtain ⟨z,e⟩:=sl b o q hb
    exact ⟨_,e⟩
  · obtain ⟨o',e⟩:=L.c3 b o q hb
    exact ⟨o',st b o' e⟩
theorem Lies.ok2 {l : List Env} {P : Program} {w : World} (L : Lies P w l H s H' s' B) (st : B.StaysIn h2) : HOk P w H' h2:=L.hok.keptT fun b u hb q=>st b u (L.c2 b u hb q)
theorem Lies.inv (I : Inv X pins σ H s) (L : Lies X.prog X.w X.stack H s H' s' B) (st : B.StaysIn h2) (up : s'.heap.UpToSlots h2) : Inv X pins σ H' { s' with heap:=h2,toks:=t2 }:=by
  refine I.call' (s':={ s' with heap:=h2,toks:=t2 }) (ch:=[]) L.os (L.un2 I st up) (L.ok2 st) L.bare (fun b z=>absurd z (by simp))
theorem Lies.out (I : Inv X pins σ H s) (L : Lies X.prog X.w X.stack H s H' s' B) (st : B.StaysIn h2) (up : s'.heap.UpToSlots h2) (hx : X.ex = []) : Lies X.prog X.w X.outer X.H₀ X.s₀ H' { s' with heap:=h2 } B:=by
  have J:=Lies.inv (t2:=s'.toks) I L st up
  have ns : ∀ b o,X.s₀.heap.get? b = some o→b ∉ frs X.outer→b ∉ frs X.stack:=fun b o q hb z=>by
    rcases List.mem_cons.mp (I.stkSub b z) with e | e
    · exact absurd (Nat.lt_of_lt_of_le (Heap.lt_size q) I.ok.above) (by rw [e]; exact Nat.lt_irrefl _)
    · exact hb e
  have hn : ∀ b : Addr,b ∉ X.ex:=fun b=>by rw [hx]; simp
  refine ⟨J.os,J.bare,?_,J.hok,fun b o q n hb=>?_,fun b o hb q=>?_,fun b o q hb=>?_⟩
  · have:=J.base
    rw [hx] at this
    exact this
  · exact L.c1 b o (I.base.keep b o q n hb (hn b)) (I.base.free b o q n (hn b)) (ns b o q hb)
  · cases e : H' b with
    | none=>exact absurd e hb
    | some u =>
      obtain ⟨v,hv⟩:=L.hok.thr e
      have z:=L.c2 b v hb hv
      have q' : h2.get? b = some o:=q
      rw [st b v z] at q'
      cases q'
      exact z
  · obtain ⟨o',e⟩:=I.base.there b o q (hn b)
    exact L.c3 b o' e (ns b o q hb)
theorem Vs (I : Inv X pins σ H s) (k : ∀ b u,s.heap.get? b = some u→h2.get? b = some u) : Lies X.prog X.w X.stack H s H { s with heap:=h2 } (PySem.W.hideAll s.heap (frs X.stack)):=by
  refine ⟨rfl,I.bare,Un.kept k,I.hok.kept k,fun b o q _ hb=>PySem.W.hideAll_get _ q hb,fun b o hb q=>?_,fun b o q hb=>⟨o,PySem.W.hideAll_get _ q hb⟩⟩
  cases e : H b with
  | none=>exact absurd e hb
  | some u =>
    obtain ⟨v,hv⟩:=I.hok.thr e
    have q' : h2.get? b = some o:=q
    rw [k b v hv] at q'
    cases q'
    exact PySem.W.hideAll_get _ hv fun z=>hb (I.stkFree b z)
end
section
variable {P : Program} {w : World} {K : PySem.W.Frag} {mg : Str→Option Value} {base : Heap} {N : List Str} {qual : Str} {scope : Scope} {f : Addr} {cd : Value} {A : Around} {outer : List Env} {s0 : Shared} {H0 : Hp} {E : XK}
theorem zjn : wB (CX1 P w) (yy (CX1 P w) P w K mg base N qual scope f cd A outer s0 H0 E) E:=by
  rintro pins σ H s e s' I ⟨a,cls,a0,H',B,rfl,L,F,dd,hdd,q⟩
  have hfr:=I.ok.frames
  refine zap (M:=model P w) (A:=A.deeper (envOfC qual scope s0.heap.objs.size f cd)) (outer:=outer) (L:=s0.heap.objs.size) hfr rfl F fun h2 F2 up kd=>?_
  exact ⟨a,cls,a0,H',B,rfl,L.out I F2.1 up rfl,F2,dd,fun D e=>kd _ _ (hdd D e),q⟩
theorem zef {pins : List (Addr × Obj)} {σ : St} {H : Hp} {s : Shared} {h' : Heap} {e : Addr} {cls : Value} {args : List Value} (I : Inv (yy (CX1 P w) P w K mg base N qual scope f cd A outer s0 H0 E) pins σ H s)
    (hx : Heap.MadeExcOf s.heap h' e cls args) (q : E cls none H) : (yy (CX1 P w) P w K mg base N qual scope f cd A outer s0 H0 E).xe (.ref e) { s with heap:=h' }:=by
  have hfr:=I.ok.frames
  have L:=Vs I hx.keeps
  refine wpAny_leaves_madeW (M:=model P w) (A:=A.deeper (envOfC qual scope s0.heap.objs.size f cd)) (s:={ s with heap:=h' }) (outer:=outer) (L:=s0.heap.objs.size) (base:=PySem.W.hideAll s.heap (frs (envOfC qual scope s0.heap.objs.size f cd :: outer))) hfr rfl (fun b o q=>PySem.W.of_hideAll _ q)
    (PySem.W.funFrames_hide I.stack fun env he b hb=>List.mem_filterMap.mpr ⟨env,he,hb⟩) hx fun h2 t F2 _ _ up=>?_
  exact ⟨e,cls,.ref t,H,_,rfl,L.out I F2.1 up rfl,F2,none,(fun D e=>nomatch e),q⟩
end
end L2

namespace L2
open PySem PySem.Spec PyProof.Rows
abbrev ZF : List Value:=[.type "ValueError",.type "Exception",.type "BaseException",.type "object"]
def XCls (K : PySem.W.Frag) (C : Addr) : Prop:=PySem.W.excIn K C ZF "ValueError.__new__" = true
def zrE (h : Heap) (C : Addr) : Prop:=∃ bm N nm qn bs hd sn sub ab col dd k0 k1 k2 k3 k5 mN,h.get? C = some (excClassObj nm qn C N bs bm hd sn sub ab col dd k0 k1 k2 k3 k5 "ValueError.__new__")∧h.Ns N mN∧mN "__init__" = none∧OwnTail h ZF bm
theorem XCls.obj {K : PySem.W.Frag} {C : Addr} (x : XCls K C) {h : Heap} (I : K.In h) : zrE h C:=by
  unfold XCls PySem.W.excIn at x
  split at x
  case h_2=>cases x
  case h_1 dd cd sl lk =>
    split at x
    case h_2=>cases x
    case h_1 C2 bm k0 k1 k2 k3 nid k5 em es =>
      rw [Bool.and_eq_true,Bool.and_eq_true,Bool.and_eq_true,Bool.and_eq_true,Bool.and_eq_true] at x
      obtain ⟨⟨⟨⟨⟨x1,x2⟩,x3⟩,x4⟩,x5⟩,x6⟩:=x
      cases (beq_iff_eq.mp x1)
      cases (beq_iff_eq.mp x2)
      cases cd with
      | mk nm bs mro ns qn hd sn sub ab col del =>
        have e1 : mro = .ref C :: bm:=em
        have e2 : del = false:=by
          cases del with
          | false=>rfl
          | true=>cases x3
        have e3 : sl = #[k0,k1,k2,k3,some (.builtin "ValueError.__new__"),k5]:=by
          cases sl with
          | mk l =>
            have e : l = _:=es
            rw [e]
        rw [e1,e2,e3] at lk
        exact ⟨bm,ns,nm,qn,bs,hd,sn,sub,ab,col,dd,k0,k1,k2,k3,k5,_,I _ _ lk,.of_isNs (PySem.W.isNs_of_in I x5),PySem.W.nsMap_none_of_in I x5 (beq_iff_eq.mp x6),PySem.W.tail_of_in I x4⟩
section
variable {P : Program} {w : World} {K : PySem.W.Frag} {mg : Str→Option Value} {base : Heap} {N : List Str} {qual : Str} {scope : Scope} {f : Addr} {cd : Value} {A : Around} {outer : List Env} {s0 : Shared} {H0 : Hp} {E : XK}
  {x : Str} {C : Addr} {e : Expr} {es : List Expr} {t : TA} {np cpos pos : Pos}
def tRz (C : Addr) (E : XK) (t : TA) : TS:=fun _ σ H=>t σ H fun vs H1=>vs.length ≤ 1000∧E (.ref C) none H1
theorem wK (hc : (A.deeper (envOfC qual scope s0.heap.objs.size f cd)).handled = none) (c : XCls K C) (hm : mg x = some (.ref C)) (ha : PA (yy (CX1 P w) P w K mg base N qual scope f cd A outer s0 H0 E) (e :: es) t)
    (hg : Gl (yy (CX1 P w) P w K mg base N qual scope f cd A outer s0 H0 E) x:=by rfl)
    (he : starEach (e :: es) (yy (CX1 P w) P w K mg base N qual scope f cd A outer s0 H0 E).env = (false,eval e (yy (CX1 P w) P w K mg base N qual scope f cd A outer s0 H0 E).env) :: starEach es (yy (CX1 P w) P w K mg base N qual scope f cd A outer s0 H0 E).env:=by rfl)
    (hpl : (backTo cpos (starEach es (yy (CX1 P w) P w K mg base N qual scope f cd A outer s0 H0 E).env)).any (·.1) = false:=by rfl) (hdb : (x == ("__debug__" : Str)) = false:=by decide) :
    PS (yy (CX1 P w) P w K mg base N qual scope f cd A outer s0 H0 E) (.Raise (some (.Call (.Name x np) (e :: es) [] cpos)) none pos) (tRz C E t):=by
  intro pins s σ H D I h
  obtain ⟨bm,Nn,nm,qn,bs,hd,sn,sub,ab,col,dd,k0,k1,k2,k3,k5,mN,h1,h2,h3,h4⟩:=c.obj I.mod.kin
  refine wpAny_Raise_call_subT (C:=C) (nm:=nm) (q:=qn) (N:=Nn) (bs:=bs) (bm:=bm) (hdct:=hd) (sn:=sn) (sub:=sub) (ab:=ab) (col:=col) (dd:=dd) (k0:=k0) (k1:=k1) (k2:=k2) (k3:=k3) (k5:=k5) PySem.F.excBase_ValueError (mN:=mN)
    (h4.hasType rfl) hc (by rw [he]; exact hpl) h3 (ld_glob I hg hm ⟨rfl,?_⟩ hdb)
  have hA:=ha cpos pins s σ H _ I h
  rw [he] at hA ⊢
  refine Calls.evalArgs_plain (wpAny_mono hA (fun us s2 hq=>?_) fun _ _ z=>z)
  obtain ⟨vs,H1,I1,r1,hl,q⟩:=hq
  refine ⟨rfl,?_,I1.bk _ _ h1,h2.keeps I1.bk,h4.keeps I1.bk,fun h' e' hx=>zef I1 hx q⟩
  show us.length ≤ sizeLine
  rw [← r1.length]
  exact Nat.le_of_lt (xp hl)
end
end L2

namespace L2
open PySem PySem.Spec PyProof.Rows
def XP (X : Cx) (pins : List (Addr × Obj)) (σ : St) (E : XK) (e : Value) (s' : Shared) : Prop:=∃ H1 s1,Inv X pins σ H1 s1∧CX1 X.prog X.w X.stack H1 s1 E e s'
def PV (X : Cx) (e : Expr) (t : XK→TE) : Prop:=∀ (pins : List (Addr × Obj)) (s : Shared) (σ : St) (H : Hp) (Q : VK) (E : XK),Inv X pins σ H s→t E σ H Q→wpAny (model X.prog X.w) X.A (eval e X.env) (EP X pins σ Q) (XP X pins σ E) s
def PX (X : Cx) (b : List Stmt) (t : XK→TS) : Prop:=∀ (pins : List (Addr × Obj)) (s : Shared) (σ : St) (H : Hp) (D : Ends) (E : XK),Inv X pins σ H s→t E D σ H→wpAny (model X.prog X.w) X.A (execs b X.env) (SP X pins D) (XP X pins σ E) s
section
variable {X : Cx} {k : Nat} {f C : Addr} {fd : FuncData} {ps : List Str} {sp : Sp} {dvs : List V} {ds : List Value} {x : Str} {p pos : Pos} {e : Expr} {es : List Expr} {t : TA}
theorem UN {E : XK} {pins : List (Addr × Obj)} {σ : St} {H : Hp} {s : Shared} {Q : VK} {us : List Value} {vs : List V} (F : FnOk X.prog X.w X.K X.mg X.base (CX1 X.prog X.w) k f fd ps sp) (hr : Room k X.A) (hb : Binds X.K fd ps ds) (hd : Vals dvs ds)
    (I : Inv X pins σ H s) (r : Vals vs us) (h : sp (vs ++ dvs) H Q E) : wpAny (model X.prog X.w) X.A (call (.ref f) us) (EP X pins σ Q) (XP X pins σ E) s:=by
  have r2 : Vals (vs ++ dvs) (us ++ ds):=r.append hd
  have hl : (us ++ ds).length = ps.length:=by rw [← r2.length]; exact F.len _ _ _ _ h
  refine wpAny_call (codeAny_mono (F.run X.A X.stack s H ⟨us,[]⟩ (us ++ ds) (vs ++ dvs) Q E hr I.env0 (hb s us I.kIn hl) r2 h) fun r s' hq=>?_)
  cases r with
  | error e=>exact ⟨H,s,I,hq⟩
  | ok fl =>
    cases fl with
    | ret u=>exact I.after hq
    | next=>exact False.elim hq
    | brk=>exact False.elim hq
    | cont=>exact False.elim hq
theorem UV (F : FnOk X.prog X.w X.K X.mg X.base (CX1 X.prog X.w) k f fd ps sp) (hr : Room k X.A) (hm : X.mg x = some (.ref f)) (hk : PySem.W.keepIn X.K (.ref f) = true) (hb : Binds X.K fd ps [])
    (ha : PA X.nox (e :: es) t) (hg : Gl X x:=by rfl) (hdb : (x == ("__debug__" : Str)) = false:=by decide) (he : starEach (e :: es) X.env = (false,eval e X.env) :: starEach es X.env:=by rfl) (hpl : (backTo pos (starEach es X.env)).any (·.1) = false:=by rfl) :
    PV X (.Call (.Name x p) (e :: es) [] pos) (fun E=>uy sp [] E t):=by
  intro pins s σ H Q E I h
  refine wpAny_Call_Name_kw (ld_glob I hg hm ?_ hdb)
  refine PySem.W.callWith_K (h₀:=X.base) I.ok.mod.kin hk (wpAny_mono (ha pos pins s σ H _ (I.wish _) h) (fun us s1 hq=>?_) (fun _ _ z=>False.elim z)) he hpl
  obtain ⟨vs,H1,I1,r,q⟩:=hq
  exact ⟨I1.unwish.kIn,UN F hr hb .nil I1.unwish r q⟩
theorem UU {te : XK→TE} (h : PV X e te) (hs : swapsWith e none pos.line X.env = pure false:=by rfl) : PX X [.Expr e pos] (fun E=>WQ (te E)):=by
  intro pins s σ H D E I q
  refine wpAny_execs_cons (wpAny_Expr_any (wpAny_mono (h pins s σ H _ E I q) (fun v s1 hq=>?_) fun _ _ z=>z) I.quiet hs)
  obtain ⟨y,H1,I1,r1,q1⟩:=hq
  exact wpAny_execs_nil ⟨σ,H1,I1,q1⟩
end
abbrev Cx.inH (X : Cx) (a : Addr) : Cx:={ X with A:=X.A.mark (some (.ref a)),calm:=false,xe:=fun _ _=>False }
section
variable {X : Cx} {pins : List (Addr × Obj)} {σ : St} {H : Hp} {s : Shared} {a : Addr}
theorem Inv.inH (I : Inv X pins σ H s) (a : Addr) : Inv (X.inH a) pins σ H s :=
  ⟨⟨I.ok.mod,I.ok.kind,I.ok.glob,I.ok.blt,I.ok.above,I.ok.inj,I.ok.has,I.ok.cab,(fun z=>nomatch z),I.ok.frames,I.ok.stk,I.ok.exf,I.ok.bs,I.ok.bsz,I.ok.noex,I.ok.exfs,I.ok.funs,I.ok.frf⟩,I.os,I.bare,I.base,I.loc,I.cell,I.free,I.freeC,I.pin,I.hok,I.len⟩
theorem Inv.unH (ok : X.Ok) (I : Inv (X.inH a) pins σ H s) : Inv X pins σ H s:=⟨ok,I.os,I.bare,I.base,I.loc,I.cell,I.free,I.freeC,I.pin,I.hok,I.len⟩
theorem SP.unH {D : Ends} {f : Flow} {s' : Shared} (ok : X.Ok) (h : SP (X.inH a) pins D f s') : SP X pins D f s':=by
  cases f with
  | next=>obtain ⟨σ',H',I,q⟩:=h; exact ⟨σ',H',I.unH ok,q⟩
  | brk=>obtain ⟨σ',H',I,q⟩:=h; exact ⟨σ',H',I.unH ok,q⟩
  | cont=>obtain ⟨σ',H',I,q⟩:=h; exact ⟨σ',H',I.unH ok,q⟩
  | ret u=>obtain ⟨v,σ',H',I,r,q⟩:=h; exact ⟨v,σ',H',I.unH ok,r,q⟩
end
end L2
namespace L2
open PySem PySem.Spec PyProof.Rows
structure Callee1 (P : Program) (w : World) (K : PySem.W.Frag) (mg : Str→Option Value) (base : Heap) (x : Str) (f : Addr) (fd : FuncData) (ps : List Str) (k : Nat) (sp : Sp) : Prop where
  ok : FnOk P w K mg base (CX1 P w) k f fd ps sp
  g : mg x = some (.ref f)
  kp : PySem.W.keepIn K (.ref f) = true
  b : Binds K fd ps []
structure Maker1 (P : Program) (w : World) (K : PySem.W.Frag) (mg : Str→Option Value) (base : Heap) (x : Str) (C f : Addr) (fd : FuncData) (ps : List Str) (k : Nat) (sp : Sp) : Prop where
  ok : FnOk P w K mg base (CX1 P w) k f fd ps sp
  g : mg x = some (.ref C)
  mm : Mk K C f
  b : Binds K fd ps []
section
variable {X : Cx} {k : Nat} {f C : Addr} {fd : FuncData} {ps : List Str} {sp : Sp} {x : Str} {p pos : Pos} {e : Expr} {es : List Expr} {t : TA}
theorem zrj (c : Callee1 X.prog X.w X.K X.mg X.base x f fd ps k sp) (hr : Room k X.A) (ha : PA X.nox (e :: es) t) (hg : Gl X x:=by rfl) (hdb : (x == ("__debug__" : Str)) = false:=by decide)
    (he : starEach (e :: es) X.env = (false,eval e X.env) :: starEach es X.env:=by rfl) (hpl : (backTo pos (starEach es X.env)).any (·.1) = false:=by rfl) : PV X (.Call (.Name x p) (e :: es) [] pos) (fun E=>uy sp [] E t) :=
  UV c.ok hr c.g c.kp c.b ha hg hdb he hpl
end
section
variable {P : Program} {w : World} {K : PySem.W.Frag} {mg : Str→Option Value} {base : Heap}
theorem Fun.ok1 {x qual : Str} {st : Stmt} {f : Addr} {fd : FuncData} {N ps : List Str} {k : Nat} {sp : Sp} (F : Fun K x qual st f fd) (S : FnScope N ps (defScope st)) (len : ∀ vs H Q E,sp vs H Q E→vs.length = ps.length)
    (hbody : ∀ (cdv : Value) (A : Around) (outer : List Env) (s : Shared) (H : Hp) (vs : List V) (Q : VK) (E : XK),Room k (A.deeper (envOfC qual (defScope st) s.heap.objs.size f cdv))→sp vs H Q E →
      ∃ t,PSs (yy (CX1 P w) P w K mg base N qual (defScope st) f cdv A outer s H E) (defBody st) t∧t { nx:=fun _ H'=>Q .non H',rt:=Q } (start N vs) H) : FnOk P w K mg base (CX1 P w) (k + 1) f fd ps sp:=by
  obtain ⟨oc,od,kV,doc,pm,an,cdv,ct,osl,rfl,lk,hcd⟩:=F.ex
  exact zeA lk hcd S len fun A outer s H vs Q E hr hsp=>hbody cdv A outer s H vs Q E hr hsp
end
end L2

namespace L2
open PySem PySem.W PySem.Spec PySem.Calls PyProof.Rows PySem.Builtin PySem.Builtin.ObjectAttr PySem.Builtin.Getset_descriptor
def ObC (x C : Addr) (h : Heap) : Prop:=∃ o,h.get? x = some o∧o.cls = .ref C
structure XIs (K : Frag) (C : Addr) : Prop where
  ga : findIn K (.ref C) "__getattribute__" = some (some (.builtin "BaseException.__getattribute__"))
  gt : findIn K (.ref C) "__getattr__" = some none
  ha : findIn K (.ref C) "__class__" = some (some (.builtin "object.__class__"))
  hn : specialIn K (.builtin "object.__class__") "__get__" = some (some (.builtin "getset_descriptor.__get__"))
  htk : takesIn K (.builtin "object.__class__") = some true
  hm : mroIn K C (.type "object") = some true
  hb : mroIn K C (.type "BaseException") = some true
  hd : hasDictIn K C = true
section
variable {K : Frag} {M : Model} {h : Heap} {x C : Addr} {name : Str}
theorem ObC.type (I : ObC x C h) : Looks M h (typeOf (.ref x)) (.ref C):=by
  obtain ⟨o,h1,h2⟩:=I
  rw [← h2]
  exact (Looks.ld h1).andThen .now
theorem Wc {a g : Value} (X : K.In h) (ha : findIn K (.ref C) name = some (some a)) (hg : specialIn K a "__get__" = some (some g)) (hd : takesIn K a = some true) :
    Looks M h (find (.ref x) (.ref C) name) (.bind g a):=by
  have L2 : Looks M h (getOf (some a)) (some g):=looks_specialIn X hg
  have L3 : Looks M h (dataDescriptor? (some a) (some g)) (some (g,a)):=(looks_takesIn X hd).andThen .now
  exact (looks_findIn X ha).andThen (L2.andThen (L3.andThen (Looks.tag .now)))
end
section
variable {prog : Program} {w : World} {A : Around} {E : Value→Shared→Prop} {K : Frag} {x C : Addr} {s : Shared}
theorem zaC {R : Result→Shared→Prop} {tp : Value} (X : K.In s.heap) (I : ObC x C s.heap) (hm : mroIn K C (.type "object") = some true) (k : R (.ok (.ret (.ref C))) s) :
    codeAny (model prog w) A (.call (.builtin "getset_descriptor.__get__") ⟨[.builtin "object.__class__",.ref x,tp],[]⟩) R s:=by
  obtain ⟨hh,gg,dr,tt,ss⟩:=s
  have T0:=I.type (M:=model prog w)
  have T1:=looks_mroIn (M:=model prog w) X hm
  refine codeAny_call_builtin KF.slot_gs.plain KF.entry_gs ?_
  refine KF.slot_gs.check _ _ _ _ _ _ _ _ KF.type_class (KF.args_gs _ _ _) ?_
  unfold Builtin.«getset_descriptor.__get__»
  unfold descrGet
  rw [dga_obj]
  refine wpAny_bind (wpAny_pure ?_)
  unfold descrGetter descrCheckInstance
  unfold descrNameAndClass isInstance
  simp only [KF.owner_class]
  repeat lk
  refine ⟨Code.quiet_builtin _ (by decide +kernel),?_⟩
  refine codeAny_builtin KF.entry_class ?_
  unfold Builtin.«object.__class__»
  unfold shownTypeOf
  repeat lk
  exact k
theorem Yc {nameV : Value} {Q : Unit→Shared→Prop} (X : K.In s.heap) (I : ObC x C s.heap) (hb : mroIn K C (.type "BaseException") = some true) (k : Q () s) :
    wpAny (model prog w) A (checkBuiltinCall "BaseException.__getattribute__" ⟨[.ref x,nameV],[]⟩) Q E s:=by
  have T0:=I.type (M:=model prog w)
  have T1:=looks_mroIn (M:=model prog w) X hb
  have hk : builtinKind "BaseException.__getattribute__" = some .slot:=by decide +kernel
  have hsplit : splitId "BaseException.__getattribute__" = some ("BaseException", "__getattribute__"):=by decide +kernel
  have ha:=F.args_bexc_ga (.ref x) nameV
  obtain ⟨hh,gg,dr,tt,ss⟩:=s
  simp only [checkBuiltinCall,hk,hsplit]
  refine wpAny_bind ?_
  unfold isInstance
  repeat lk
  exact k
theorem Wk {tk : Tok} {Q : Fin→Shared→Prop} (X : K.In s.heap) (I : ObC x C s.heap) (c : XIs K C) (k : Q (.done (.ret (.ref C))) s) :
    wpAny (model prog w) A (Builtin.«object.__getattribute__» ⟨[.ref x,.str "__class__" tk],[]⟩) Q E s:=by
  have T0:=I.type (M:=model prog w)
  have T1:=Wc (M:=model prog w) (x:=x) X c.ha c.hn c.htk
  obtain ⟨hh,gg,dr,tt,ss⟩:=s
  unfold Builtin.«object.__getattribute__»
  repeat lk
  refine wpAny_run (h:=none) ?_
  exact zaC X I c.hm (wpAny_pure (wpAny_pure k))
theorem zeF {tk : Tok} {Q : Value→Shared→Prop} (X : K.In s.heap) (I : ObC x C s.heap) (c : XIs K C) (k : Q (.ref C) s) :
    wpAny (model prog w) A (getAttrBy (.ref x) (.str "__class__" tk) false) Q E s:=by
  have T0:=I.type (M:=model prog w)
  have T1:=looks_findIn (M:=model prog w) X c.ga
  have T2:=looks_findIn (M:=model prog w) X c.gt
  have f3:=F.attr_ValueError.ga.bind (.ref x)
  obtain ⟨hh,gg,dr,tt,ss⟩:=s
  unfold getAttrBy
  refine wpAny_holding (wpAny_bind (T0.at (wpAny_bind (T1.at ?_))))
  show wpAny _ _ (if (onTheHeap (Value.ref C) && Value.builtin "BaseException.__getattribute__" == Value.builtin "object.__getattribute__") = true then _ else _) _ _ _
  have z : (Value.builtin "BaseException.__getattribute__" == Value.builtin "object.__getattribute__") = false:=by decide +kernel
  rw [z,Bool.and_false,if_neg Bool.false_ne_true]
  unfold getAttrByItsOwn
  refine wpAny_bind (T2.at ?_)
  refine wpAny_bind (wpAny_attempt (wpAny_holding ?_))
  show wpAny _ _ (boundAndCalled _ _ _) _ _ _
  unfold boundAndCalled
  rw [f3]
  refine wpAny_bind (wpAny_pure (wpAny_call ?_))
  refine codeAny_call_builtin F.attr_ValueError.ga.plain F.entry_bexc_ga ?_
  exact Yc X I c.hb (Wk X I c (wpAny_pure k))
theorem VL {Q : Option Value→Shared→Prop} (X : K.In s.heap) (I : ObC x C s.heap) (c : XIs K C) (k : Q (some (.ref C)) { s with toks:=s.toks + 1 }) :
    wpAny (model prog w) A (getAttr? (.ref x) "__class__") Q E s:=by
  obtain ⟨hh,gg,dr,tt,ss⟩:=s
  unfold getAttr? getAttrBy?
  refine wpAny_bind (wpAny_mkText (wpAny_bind (wpAny_attempt ?_)))
  exact zeF (s:=⟨hh,gg,dr,tt + 1,ss⟩) X I c (wpAny_pure k)
theorem Z6 (c : XIs K C) : KitX K (.ref x) (.ref C) (ObC x C) where
  ty:=fun _ _ _ I=>I.type
  it:=fun _ _ X _=>by
    obtain ⟨cd,hc,_⟩:=any_some c.hd
    unfold clsIn at hc
    split at hc
    · rename_i ho
      intro A' Q' E' s' k q
      unfold isType loadHead
      exact wpAny_bind (wpAny_loadPart (k _ _ (X _ _ ho)) (wpAny_pure q))
    · cases hc
  ne:=fun h tp dd its n sl X htp=>by
    obtain ⟨cd,hc,_⟩:=any_some c.hd
    refine Bool.eq_false_iff.mpr fun q=>?_
    cases Value.ref.inj (beq_iff_eq.mp q)
    unfold clsIn at hc
    split at hc
    · rename_i ho
      cases (X _ _ ho).symm.trans htp
    · cases hc
  ca:=fun X I k=>VL X I c k
end
section
variable {X : Cx}
end
end L2

namespace L2
open PySem PySem.Spec PyProof.Rows
section
variable {X : Cx} {pins : List (Addr × Obj)} {σ : St} {H : Hp} {s : Shared}
theorem YT {M : Model} {A : Around} {E : Value→Shared→Prop} {i : Nat} {x : Str} {Q : Unit→Shared→Prop} (I : Inv X pins σ H s) (hN : X.N.Nodup) (hi : X.N[i]? = some x) (hk : X.env.scope.names.lookup x = some .local) {v : V} (hv : σ[i]? = some (some v))
    (h : ∀ s',Inv X pins (σ.set i none) H s'→Q () s') : wpAny M A (unbindName X.env x) Q E s:=by
  obtain ⟨m,hn,hl⟩:=id I.loc
  have hcls : (X.env.scope.kind == .class || (X.env.scope.kind == .module && X.env.locals != X.env.globals)) = false:=by rw [I.ok.kind]; rfl
  have cne:=I.cne
  have hm : ∃ u,m x = some u:=by
    obtain ⟨u,_,q⟩:=hl i x v hi hv (.inl hk)
    rcases q with ⟨_,e⟩ | ⟨k,_⟩
    · exact ⟨u,e⟩
    · have hk' : X.env.kindOf x = some .local:=hk
      rw [hk'] at k
      rcases k with k | k <;> cases k
  obtain ⟨u0,hm⟩:=hm
  obtain ⟨oL,_,_,hoL,_⟩:=id hn
  refine wpAny_unbindName_local hk hn hm hcls fun h' u' hn' hs=>?_
  have tracked : HOk X.prog X.w H h':=fun b ob e=>by
    refine (I.hok b ob e).stay (fun c w' hc q=>(hs.2 c ?_).trans q) (fun _ q=>q) fun _ _ q=>q
    rintro rfl
    have hfree:=I.free
    rcases hc with rfl | hc
    · rw [hfree] at e; cases e
    · rw [hfree] at hc; cases hc
  refine h _ ⟨I.ok,I.os,I.bare,⟨fun b o e n hb hx=>?_,fun b o e n hb hx=>?_,I.base.free,fun b o e hx=>?_,I.base.tups,I.base.frzs,I.base.tbls⟩,⟨_,hn',fun j y v' e1 e2 e3=>?_⟩,fun y c e=>?_,I.free,I.freeC,fun p hp=>?_,tracked,by simpa using I.len⟩
  · exact (hs.2 b (Nat.ne_of_lt (Nat.lt_of_lt_of_le (Heap.lt_size e) I.ok.above))).trans (I.base.keep b o e n hb hx)
  · obtain ⟨sl,e1⟩:=I.base.slot b o e n hb hx
    exact ⟨sl,(hs.2 b (Nat.ne_of_lt (Nat.lt_of_lt_of_le (Heap.lt_size e) I.ok.above))).trans e1⟩
  · obtain ⟨o',e1⟩:=I.base.there b o e hx
    exact ⟨o',(hs.2 b (Nat.ne_of_lt (Nat.lt_of_lt_of_le (Heap.lt_size e) I.ok.above))).trans e1⟩
  · by_cases hj : j = i
    · subst hj
      rw [List.getElem?_set] at e2
      simp at e2
    · rw [List.getElem?_set_ne (Ne.symm hj)] at e2
      obtain ⟨u',r',q⟩:=hl j y v' e1 e2 e3
      refine ⟨u',r',?_⟩
      rcases q with ⟨k,e⟩ | ⟨k,c,e,z⟩
      · refine .inl ⟨k,?_⟩
        have : y ≠ x:=fun e=>hj (nodup_ix hN e1 (e ▸ hi))
        simp [this,e]
      · exact .inr ⟨k,c,e,z.sameBut hs (cne y c e)⟩
  · obtain ⟨w',z⟩:=I.cell y c e
    exact ⟨w',z.sameBut hs (cne y c e)⟩
  · obtain ⟨e,n,ne,nf,d⟩:=I.pin p hp
    exact ⟨(hs.2 p.1 ne).trans e,n,ne,nf,d⟩
theorem uc {M : Model} {A : Around} {E : Value→Shared→Prop} {i : Nat} {x : Str} {pos : Pos} {Q : Unit→Shared→Prop} (I : Inv X pins σ H s) (hN : X.N.Nodup) (hi : X.N[i]? = some x) (hk : X.env.scope.names.lookup x = some .local)
    (h : ∀ s',Inv X pins (σ.set i none) H s'→Q () s') : wpAny M A (do bindName X.env x .none; unbindBehindTheSuite X.env x pos) Q E s:=by
  have hiσ : i < σ.length:=by rw [I.len]; exact (List.getElem?_eq_some_iff.mp hi).1
  refine wpAny_bind (wpAny_bindName (store_ok (v:=.non) I hN hi (.inl hk) rfl (fun s1 I1=>?_) (.inr hk)))
  unfold unbindBehindTheSuite
  refine wpAny_onRaise (YT I1 hN hi hk (v:=.non) (List.getElem?_set_self hiσ) fun s2 I2=>h s2 ?_)
  rw [List.set_set] at I2
  exact I2
end
abbrev Ends.sans (D : Ends) (i : Nat) : Ends:={ nx:=fun σ H=>D.nx (σ.set i none) H,rt:=D.rt,bk:=fun σ H=>D.bk (σ.set i none) H,ct:=fun σ H=>D.ct (σ.set i none) H }
end L2

namespace L2
open PySem PySem.Spec PyProof.Rows
section
variable {X : Cx} {C : Addr} {x : Str} {p pos : Pos}
end
end L2

namespace L2
open PySem
section
variable {X : Cx} {es : List Expr} {t : TA} {te : TE}
theorem zd4 {c j pos} (ha : PE X (.Constant c j pos) te) (hr : PA X es t) : PA X (.Constant c j pos :: es) (xv te t):=xx ha hr rfl
theorem zrl {xs c pos} (ha : PE X (.Tuple xs c pos) te) (hr : PA X es t) : PA X (.Tuple xs c pos :: es) (xv te t):=xx ha hr rfl
theorem zpa {f xs ks pos} (ha : PE X (.Call f xs ks pos) te) (hr : PA X es t) : PA X (.Call f xs ks pos :: es) (xv te t):=xx ha hr rfl
theorem zrm {l o r pos} (ha : PE X (.BinOp l o r pos) te) (hr : PA X es t) : PA X (.BinOp l o r pos :: es) (xv te t):=xx ha hr rfl
theorem Zv {x pos} (ha : PE X (.Name x pos) te) (hr : PA X es t) : PA X (.Name x pos :: es) (xv te t):=xx ha hr rfl
end
end L2

namespace L2
open PySem PySem.Spec PyProof.Rows
section
variable {X : Cx}
end
end L2

namespace L2
open PySem PySem.Spec PyProof.Rows PySem.Builtin PySem.Builtin.Str
section
variable {X : Cx}
theorem uw : ∀ {ws : List PySem.Str} {us : List Value},Vals (ws.map V.str) us→∃ l : List (PySem.Str × Tok),strValues l = us∧l.map (·.1) = ws
  | [],_,.nil=>⟨[],rfl,rfl⟩
  | w :: ws,_,.cons ⟨t,e⟩ r=>by
    obtain ⟨l,e1,e2⟩:=uw r
    subst e
    exact ⟨(w,t) :: l,by rw [← e1]; rfl,by rw [List.map_cons,e2]⟩
theorem uz : ∀ (l : List (PySem.Str × Tok)),Vals ((l.map (·.1)).map V.str) (strValues l)
  | []=>.nil
  | (w,t) :: l=>.cons ⟨t,rfl⟩ (uz l)
def UQ : V→List V→Hp→VK→Prop:=fun x vs H Q=>∃ a b,x = .str a∧vs = [.str b]∧Q (.bl (Txt.startswith a b)) H
theorem wo : MtR X "str.startswith" UQ:=by
  intro pins s σ H x vs v us Q I rx rv h
  obtain ⟨a,b,rfl,rfl,q⟩:=h
  obtain ⟨t,rfl⟩:=rx
  obtain ⟨u,rfl,t',rfl⟩:=rv.one
  exact SC.startswith ⟨.bl _,H,I,rfl,q⟩
def UR (K : PySem.W.Frag) : V→List V→Hp→VK→Prop:=fun x vs H Q=>∃ sep p ws,x = .str sep∧vs = [.ref p]∧SqL K H p (ws.map V.str)∧JoinOk sep ws = true∧Q (.str (Txt.join sep ws)) H
theorem yA : MtR X "str.join" (UR X.K):=by
  intro pins s σ H x vs v us Q I rx rv h
  obtain ⟨sep,p,ws,rfl,rfl,hq,hok,q⟩:=h
  obtain ⟨t,rfl⟩:=rx
  obtain ⟨u,rfl,ru⟩:=rv.one
  cases ru
  obtain ⟨its,r,pl,hz⟩:=I.list hq
  obtain ⟨l,rfl,e⟩:=uw r
  exact SC.join pl.isList e hok fun t' k=>⟨.str _,H,I.tok _,⟨_,rfl⟩,q⟩
def zdC : V→List V→Hp→VK→Prop:=fun x vs H Q=>∃ a b,x = .str a∧vs = [.str b]∧(b.length == 0) = false∧a.length ≤ sizeLine∧(Txt.split a b).length ≤ sizeLine∧(partsBetween a (occurrences a b 0 a.length (a.length + 1)) b.length).length ≤ sizeLine∧∀ p,H p = none→Q (.ref p) (upd H p (.lst ((Txt.split a b).map V.str)))
theorem wL : MtR X "str.split" zdC:=by
  intro pins s σ H x vs v us Q I rx rv h
  obtain ⟨a,b,rfl,rfl,hb,hz,hz1,hz2,q⟩:=h
  obtain ⟨t,rfl⟩:=rx
  obtain ⟨u,rfl,t',rfl⟩:=rv.one
  have fin : ∀ (l : List (PySem.Str × Tok)) (k : Nat),l.map (·.1) = Txt.split a b→EP X pins σ Q (.ref s.heap.objs.size) { s with heap:=s.heap.push { cls:=.type "list",data:=.seq (strValues l).toArray },toks:=k }:=fun l k e=>by
    refine ⟨.ref s.heap.objs.size,_,I.laid (t':=k) (fun b o q=>Heap.get?_push_of_some _ q) (Nat.le_refl _) (show ObjOk X.prog X.w _ _ _ (.lst ((Txt.split a b).map V.str)) from ⟨?_,strValues l,0,?_,Heap.get?_push_size _ rfl⟩),rfl,q _ (I.hok.fresh (Nat.le_refl _))⟩
    · rw [List.length_map]; exact hz1
    · rw [← e]; exact uz l
  cases h1 : (decide (a.length < b.length) || decide (strKind a < strKind b))
  · cases hf : (occurrences a b 0 a.length (a.length + 1)).isEmpty
    · refine call_meets F.slot_str_split (typeIs_str _ _ _) F.entry_str_split (F.args_str_split_2 _ _) (meets_str_split_sep a b t t' h1 hb hf hz hz2) ?_
      show wants _ _ _ { s with toks:=_,heap:=s.heap.push { cls:=.type "list",data:=.seq (strsFrom s.toks (partsBetween a (occurrences a b 0 a.length (a.length + 1)) b.length)).toArray } }
      rw [strsFrom_eq]
      exact fin (numbered s.toks _) _ ((numbered_texts _ _).trans ((if_neg (ne_true_of_eq_false h1)).trans (if_neg (ne_true_of_eq_false hf))).symm)
    · exact call_meets F.slot_str_split (typeIs_str _ _ _) F.entry_str_split (F.args_str_split_2 _ _) (meets_str_split_not_found a b t t' h1 hb hf)
        (fin [(a,t)] s.toks ((if_neg (ne_true_of_eq_false h1)).trans (if_pos hf)).symm)
  · exact call_meets F.slot_str_split (typeIs_str _ _ _) F.entry_str_split (F.args_str_split_2 _ _) (meets_str_split_cannot_occur a b t t' h1)
      (fin [(a,t)] s.toks (if_pos h1).symm)
def zri (neg : Bool) : R2:=fun x y H Q=>∃ a b,x = .str a∧y = .str b∧Q (.bl (if neg then !Txt.contains b a else Txt.contains b a)) H
theorem XA : OpR X (compareOp .NotIn) (zri true):=by
  intro pins s σ H x y v u Q I rx ry h
  obtain ⟨a,b,rfl,rfl,q⟩:=h
  obtain ⟨t,rfl⟩:=rx
  obtain ⟨t',rfl⟩:=ry
  exact P.notIn_str ⟨.bl _,H,I,rfl,q⟩
theorem Ws : xU X (.type "int") (fun xs H Q=>∃ x n,xs = [.str x]∧intText? x = some n∧x.length ≤ 640∧Q (.int n) H):=by
  intro pins s σ H xs us Q I r h
  obtain ⟨x,n,rfl,hn,hl,q⟩:=h
  obtain ⟨u,rfl,t,rfl⟩:=Yo r
  exact PySem.W.KIN.call_text hn hl ⟨.int n,H,I.tok _,⟨_,rfl⟩,q⟩
end
end L2

namespace L2
open PySem PySem.Spec PyProof.Rows
def Its (x : PySem.Str) : It:=⟨fun i _=>i < x.cps.size,fun i H v H'=>H' = H∧∃ c,x.cps[i]? = some c∧v = .str ⟨#[c]⟩,fun i _=>x.cps.size ≤ i⟩
theorem WL {P : Program} {w : World} {K : PySem.W.Frag} {tg : Expr} (it : Addr) (x : PySem.Str) (t : Tok) : Turn P w K tg (Its x) [it] it (fun i h=>h.IsStrIter it "str_ascii_iterator" x t i) where
  mem:=List.mem_singleton.mpr rfl
  obj:=fun i h st b hb=>by
    rw [List.mem_singleton.mp hb]
    obtain ⟨o,e,_,d⟩:=st
    exact ⟨o,e,fun v z=>by rw [d] at z; cases z⟩
  keep:=fun i h h' ⟨o,e,r⟩ k=>⟨o,k it (List.mem_singleton.mpr rfl) o e,r⟩
  item:=by
    intro X hP hw hK hc i pins s σ H E I hf st hg
    subst hP hw hK
    obtain ⟨f0,f1,f2,f3,f4,f5⟩:=hf it (List.mem_singleton.mpr rfl)
    have hx : x.cps[i]? = some x.cps[i]:=Array.getElem?_eq_getElem hg
    refine wpAny_pyNext_ascii_item st hx fun h' st' sb=>?_
    have I1 : Inv X pins σ H { s with heap:=h',toks:=s.toks + 1 }:=I.turned (fun b o hb e=>(sb.2 b hb).trans e) f0 f1 f3 f4 f5
    obtain ⟨o,e,c,d⟩:=id st'
    exact ⟨_,rfl,X7 (s:={ s with heap:=h',toks:=s.toks + 1 }) e c d (by decide) ⟨.str ⟨#[x.cps[i]]⟩,H,I1,⟨_,rfl⟩,⟨rfl,_,hx,rfl⟩,st',fun b hb=>(hf b hb).1⟩⟩
  done:=by
    intro X hP hw hK hc i pins s σ H E I hf st hg
    subst hP hw hK
    obtain ⟨f0,f1,f2,f3,f4,f5⟩:=hf it (List.mem_singleton.mpr rfl)
    exact wpAny_pyNext_ascii_end (I.ok.hd hc) st (Array.getElem?_eq_none hg) fun h' eb=>⟨rfl,I.turned (t':=s.toks) (fun b o hb e=>eb b o hb e) f0 f1 f3 f4 f5⟩
  self:=fun _ _ _ _ _ st h=>wpAny_pyIter_striter_ascii st h
section
variable {X : Cx} {tg : Expr}
def zqA (te : TE) : TI:=fun σ H R=>te σ H fun v H1=>∃ x,v = .str x∧x.cps.all (· < 128) = true∧R (Its x) H1
theorem zdP {e : Expr} {te : TE} (he : PE X e te) : PI X tg e (zqA te):=by
  intro pins s σ H R I h
  refine thn (he pins s σ H _ I h) fun v s1 ⟨y,H1,I1,r1,q1⟩=>?_
  obtain ⟨x,rfl,ha,q⟩:=q1
  obtain ⟨t,rfl⟩:=r1
  refine wpAny_pyIter_ascii ha ?_
  have I2 : Inv X pins σ H1 { s1 with heap:=s1.heap.push { cls:=.type "str_ascii_iterator",data:=.fields #[.str x t,.int 0 0] } }:=I1.kept (t':=s1.toks) fun b o e=>Heap.get?_push_of_some _ e
  refine ⟨_,[s1.heap.objs.size],_,Its x,H1,rfl,I2,WL _ x t,⟨_,Heap.get?_push_size _ rfl,rfl,rfl⟩,fun b hb=>?_,q⟩
  rw [List.mem_singleton.mp hb]
  exact I1.fpOk (Nat.le_refl _) (I1.hok.fresh (Nat.le_refl _))
end
theorem zau {x : PySem.Str} {g : TG} {tb : TS} {D : Ends} {σ : St} {H : Hp} (Pv : Nat→St→Hp→Prop) (h0 : Pv 0 σ H)
    (hs : ∀ i c σ H,x.cps.toList[i]? = some c→Pv i σ H→g (.str ⟨#[c]⟩) σ H fun σ2 H2=>tb { D with nx:=Pv (i + 1),ct:=Pv (i + 1),bk:=D.nx } σ2 H2) (hd : ∀ σ H,Pv x.cps.toList.length σ H→D.nx σ H) :
    ∃ W : Nat→Nat→St→Hp→Prop,(∃ m,W 0 m σ H)∧∀ i m σ H,W i m σ H →
      ((Its x).stop i H∧D.nx σ H)∨((Its x).go i H∧∃ N : St→Hp→Prop,(∀ σ' H',N σ' H'→∃ m',m' < m∧W (i + 1) m' σ' H')∧∀ v H',(Its x).yld i H v H'→g v σ H' fun σ2 H2=>tb { D with nx:=N,ct:=N,bk:=D.nx } σ2 H2):=by
  refine ⟨fun i m σ H=>m = x.cps.size - i∧i ≤ x.cps.size∧Pv i σ H,⟨_,rfl,Nat.zero_le _,h0⟩,?_⟩
  rintro i m σ H ⟨rfl,hi,p⟩
  by_cases hlt : i < x.cps.size
  · refine .inr ⟨hlt,Pv (i + 1),fun σ' H' z=>⟨_,by omega,rfl,hlt,z⟩,fun v H' ⟨e,c,hc,ev⟩=>?_⟩
    subst e ev
    exact hs i c σ H' (by rw [← hc,Array.getElem?_toList]) p
  · refine .inl ⟨Nat.le_of_not_lt hlt,hd σ H ?_⟩
    rw [Array.length_toList,show x.cps.size = i by omega]
    exact p
def Itv (K : PySem.W.Frag) (a : Addr) (n : Nat) : It :=
  ⟨fun i H=>i < n∧∃ xs,SqL K H a xs∧xs.length = n,fun i H x H'=>H' = H∧∀ xs,SqL K H a xs→xs[n - 1 - i]? = some x,fun i _=>i = n⟩
theorem WM {P : Program} {w : World} {K : PySem.W.Frag} {tg : Expr} (a it : Addr) (n : Nat) : Turn P w K tg (Itv K a n) [it] it (fun i h=>h.IsRevIter it a ((n : Int) - 1 - (i : Int))) where
  mem:=List.mem_singleton.mpr rfl
  obj:=fun i h st b hb=>by
    rw [List.mem_singleton.mp hb]
    obtain ⟨o,e,_,d⟩:=st
    exact ⟨o,e,fun v z=>by rw [d] at z; cases z⟩
  keep:=fun i h h' st k=>st.at fun o e=>k it (List.mem_singleton.mpr rfl) o e
  item:=by
    intro X hP hw hK hc i pins s σ H E I hf st hg
    subst hP hw hK
    obtain ⟨hi,xs,hq,hn⟩:=hg
    obtain ⟨its,rv,p,hz⟩:=I.list hq
    have hl:=rv.length
    obtain ⟨f0,f1,f2,f3,f4,f5⟩:=hf it (List.mem_singleton.mpr rfl)
    have hx : xs[n - 1 - i]? = some xs[n - 1 - i]:=List.getElem?_eq_getElem (by omega)
    obtain ⟨u,hu,ru⟩:=rv.get hx
    have st : s.heap.IsRevIter it a (((n - 1 - i : Nat) : Nat) : Int):=by
      rw [show (((n - 1 - i : Nat) : Nat) : Int) = (n : Int) - 1 - (i : Int) by omega]
      exact st
    refine wpAny_pyNext_rev_item st p.isList (x:=u) (by simpa using hu) fun h' st' sb=>?_
    have I1 : Inv X pins σ H { s with heap:=h' }:=I.turned (t':=s.toks) (fun b o hb e=>(sb.2 b hb).trans e) f0 f1 f3 f4 f5
    rw [show (((n - 1 - i : Nat) : Nat) : Int) - 1 = (n : Int) - 1 - ((i + 1 : Nat) : Int) by omega] at st'
    obtain ⟨o,e,c,d⟩:=id st'
    exact ⟨u,rfl,X7 (s:={ s with heap:=h' }) e c d (by decide) ⟨_,H,I1,ru,⟨rfl,fun ys hy=>by rw [I.list_inj hy hq]; exact hx⟩,st',fun b hb=>(hf b hb).1⟩⟩
  done:=by
    intro X hP hw hK hc i pins s σ H E I hf st hg
    subst hP hw hK
    obtain ⟨f0,f1,f2,f3,f4,f5⟩:=hf it (List.mem_singleton.mpr rfl)
    have hg : i = n:=hg
    rw [hg,show (n : Int) - 1 - (n : Int) = -1 by omega] at st
    exact wpAny_pyNext_rev_end (I.ok.hd hc) st fun h' eb=>⟨rfl,I.turned (t':=s.toks) (fun b o hb e=>eb b o hb e) f0 f1 f3 f4 f5⟩
  self:=fun _ _ _ _ _ st h=>wpAny_pyIter_revIter st h
section
variable {X : Cx} {tg : Expr}
theorem boot_reversed : bootBuiltins "reversed" = some (.type "reversed"):=by decide +kernel
def zqB (K : PySem.W.Frag) (ta : TA) : TI:=fun σ H R=>ta σ H fun vs H1=>∃ a xs,vs = [.ref a]∧SqL K H1 a xs∧R (Itv K a xs.length) H1
theorem Zu {a : Expr} {ta : TA} {p pos : Pos} (hg : Gl X "reversed") (hm : X.mg "reversed" = none) (ha : PA X [a] ta) (hs : starEach [a] X.env = [(false,eval a X.env)]:=by rfl) : PI X tg (.Call (.Name "reversed" p) [a] [] pos) (zqB X.K ta):=by
  intro pins s σ H R I h
  refine Call_ (ld_blt I hg hm boot_reversed (PyProof.Rows.callWith_type1 (thn (ha pos pins s σ H _ I h) fun us s1 ⟨vs,H1,I1,r1,q1⟩=>?_) hs rfl))
  obtain ⟨b,xs,e,hq,q⟩:=q1
  subst e
  obtain ⟨u,rfl,ru⟩:=r1.one
  cases ru
  obtain ⟨its,rv,pl,hz⟩:=I1.list hq
  have hl:=rv.length
  refine call_reversed_list pl.isList ?_
  have I2 : Inv X pins σ H1 { s1 with heap:=s1.heap.push (revObj b ((its.toArray.size : Int) - 1)) }:=I1.kept (t':=s1.toks) fun b o e=>Heap.get?_push_of_some _ e
  have st : (s1.heap.push (revObj b ((its.toArray.size : Int) - 1))).IsRevIter s1.heap.objs.size b ((xs.length : Int) - 1 - ((0 : Nat) : Int)):=⟨_,Heap.get?_push_size _ rfl,rfl,by
    show Data.fields _ = _
    rw [List.size_toArray,hl]
    simp⟩
  refine wpAny_pyIter_revIter (s:={ s1 with heap:=s1.heap.push (revObj b ((its.toArray.size : Int) - 1)) }) st ?_
  refine ⟨_,[s1.heap.objs.size],_,Itv X.K b xs.length,H1,rfl,I2,WM b _ xs.length,st,fun c hc=>?_,q⟩
  rw [List.mem_singleton.mp hc]
  exact I1.fpOk (Nat.le_refl _) (I1.hok.fresh (Nat.le_refl _))
end
theorem zav {K : PySem.W.Frag} {a : Addr} {xs : List V} {g : TG} {tb : TS} {D : Ends} {σ : St} {H : Hp} (Pv : Nat→St→Hp→Prop) (h0 : Pv 0 σ H) (hl : ∀ i σ H,i ≤ xs.length→Pv i σ H→SqL K H a xs)
    (hs : ∀ i x σ H,xs.reverse[i]? = some x→Pv i σ H→g x σ H fun σ2 H2=>tb { D with nx:=Pv (i + 1),ct:=Pv (i + 1),bk:=D.nx } σ2 H2) (hd : ∀ σ H,Pv xs.length σ H→D.nx σ H) :
    ∃ W : Nat→Nat→St→Hp→Prop,(∃ m,W 0 m σ H)∧∀ i m σ H,W i m σ H →
      ((Itv K a xs.length).stop i H∧D.nx σ H)∨((Itv K a xs.length).go i H∧∃ N : St→Hp→Prop,(∀ σ' H',N σ' H'→∃ m',m' < m∧W (i + 1) m' σ' H')∧∀ v H',(Itv K a xs.length).yld i H v H'→g v σ H' fun σ2 H2=>tb { D with nx:=N,ct:=N,bk:=D.nx } σ2 H2):=by
  refine ⟨fun i m σ H=>m = xs.length - i∧i ≤ xs.length∧Pv i σ H,⟨_,rfl,Nat.zero_le _,h0⟩,?_⟩
  rintro i m σ H ⟨rfl,hi,p⟩
  have q:=hl i σ H hi p
  by_cases hlt : i < xs.length
  · refine .inr ⟨⟨hlt,xs,q,rfl⟩,Pv (i + 1),fun σ' H' z=>⟨_,by omega,rfl,hlt,z⟩,fun v H' ⟨e,hv⟩=>?_⟩
    subst e
    refine hs i v σ H' ?_ p
    rw [List.getElem?_reverse hlt]
    exact hv xs q
  · have e : i = xs.length:=by omega
    subst e
    exact .inl ⟨rfl,hd σ H p⟩
end L2

namespace PySem
namespace Zt
theorem Yg {prog : Program} {w : World} {A : Around} {k : SK} (hh : A.handled = none) (it a : Addr) (hne : a ≠ it) (items : Array Value) :
    Draws prog w A it [it,a] items.size (fun i v=>items[i]? = some v) (fun i h=>ItAt k h it a i∧SqAt k h a items) where
  live:=fun _ _ st=>by
    obtain ⟨o,ho,_⟩:=st.1.obj
    exact ⟨o,ho⟩
  frame:=fun _ _ _ st hk=>⟨st.1.at fun o e=>hk it (by simp) o e,st.2.at fun o e=>hk a (by simp) o e⟩
  item:=fun i s Q E hi st hQ=>by
    have hx : items[i]? = some items[i]:=Array.getElem?_eq_getElem hi
    exact wn st.1 st.2 hx fun h' hit' hs'=>hQ _ h' s.toks hx ⟨hit',st.2.at fun o e=>hs'.extBut _ _ hne e⟩ hs'
  done:=fun s Q E st hE=>v7 hh st.1 st.2 (Array.getElem?_eq_none (Nat.le_refl _)) hE
abbrev ud (it : Addr) : Obj:={ cls:=.type "enumerate",data:=.fields #[.none,.bool false,.ref it,rawInt 0,.none,.none] }
theorem YB (k : SK) (l : Addr) (xs : Array Value) :
    Meets (Builtin.«enumerate.__new__» ⟨[.type "enumerate",.ref l],[]⟩) (fun _ R s=>SqAt k s.heap l xs∧R (.ok (.ret (.ref (g1 k s.heap l).objs.size))) { s with heap:=(g1 k s.heap l).push (ud s.heap.objs.size) }) :=
  .of_wp fun prog w A R s h=>by
    obtain ⟨hp,g,d,tk,os⟩:=s
    obtain ⟨hl,h⟩:=h
    have hsub:=sub_enumerate
    have L1 : SqAt k (Shared.heap ⟨hp,g,d,tk,os⟩) l xs:=hl
    wp_walk
    refine wpAny_stack_any fun st=>wpAny_pure ?_
    split
    · rename_i c _ _ _ _ _
      cases (c == Value.type "enumerate") <;> (wp_walk using wj L1; exact ⟨_,rfl,h⟩)
    · wp_walk using wj L1
      exact ⟨_,rfl,h⟩
theorem Wt {prog : Program} {w : World} {A : Around} {E : Value→Shared→Prop} {s : Shared} {k : SK} {l : Addr} {xs : Array Value} {Q : Value→Shared→Prop} (hl : SqAt k s.heap l xs)
    (h : ∀ h',IsEnum h' (s.heap.objs.size + 1) s.heap.objs.size 0 .none→ItAt k h' s.heap.objs.size l 0→(∀ b o,s.heap.get? b = some o→h'.get? b = some o)→Q (.ref (s.heap.objs.size + 1)) { s with heap:=h' }) :
    wpAny (model prog w) A (call (.type "enumerate") [.ref l]) Q E s:=by
  refine callType_new F.called_enumerate (by decide) (F.typeCall_enumerate_1 _) (F.newCall_enumerate_1 _) (fun obj=>F.args_object_init_2 obj _) F.entry_enumerate_new (YB k l xs) ⟨hl,?_⟩
  have z1 : (g1 k s.heap l).objs.size = s.heap.objs.size + 1:=Heap.size_push ..
  have e2 : ((g1 k s.heap l).push (ud s.heap.objs.size)).get? (g1 k s.heap l).objs.size = some (ud s.heap.objs.size):=Heap.get?_push_size _ rfl
  have e1 : ((g1 k s.heap l).push (ud s.heap.objs.size)).get? s.heap.objs.size = some (u8 k l):=Heap.get?_push_of_some _ (Heap.get?_push_size _ (by cases k <;> rfl))
  show _∧_
  rw [z1] at e2 ⊢
  exact ⟨⟨_,e2,rfl⟩,h _ e2 (v9 e1) fun b o x=>Heap.get?_push_of_some _ (Heap.get?_push_of_some _ x)⟩
end Zt
end PySem
namespace L2
open PySem PySem.Spec PyProof.Rows PySem.Zt
def Ite (k : SK) (K : PySem.W.Frag) (a : Addr) : It :=
  ⟨fun i H=>∃ xs x,SqK k K H a xs∧xs[i]? = some x,fun i H v H'=>∃ p,H p = none∧v = .ref p∧∀ xs x,SqK k K H a xs→xs[i]? = some x→H' = upd H p (.tup [.int i,x]),fun i H=>∃ xs,SqK k K H a xs∧xs.length = i⟩
theorem YW {P : Program} {w : World} {K : PySem.W.Frag} {es : List Expr} {n : Nat} {tp : Pos} {k : SK} {e it : Addr} (a : Addr) (ne : e ≠ it) :
    Turn P w K (.Tuple es n tp) (Ite k K a) [e,it] e (fun i h=>(∃ old,IsEnum h e it (i : Nat) old)∧ItAt k h it a i) where
  mem:=by simp
  obj:=fun i h st b hb=>by
    obtain ⟨⟨old,he⟩,hit⟩:=st
    rcases List.mem_cons.mp hb with rfl | hb
    · exact ⟨_,he,fun v z=>by
        have z' : Data.fields _ = Data.cell v:=z
        cases z'⟩
    · rw [List.mem_singleton.mp hb]
      exact hit.obj
  keep:=fun i h h' ⟨⟨old,he⟩,hit⟩ k=>⟨⟨old,k e (by simp) _ he⟩,hit.at fun o q=>k it (by simp) o q⟩
  item:=by
    intro X hP hw hK hc i pins s σ H E I hf st hg
    subst hP hw hK
    obtain ⟨xs,x,ha,hx⟩:=hg
    obtain ⟨its,r,p,_⟩:=I.seqK ha
    obtain ⟨u,eu,ru⟩:=r.get hx
    have fe:=hf e (by simp)
    have fi:=hf it (by simp)
    have ae : a ≠ e:=I.off ha fe
    have ai : a ≠ it:=I.off ha fi
    obtain ⟨⟨old,he⟩,hit⟩:=st
    have eu' : its.toArray[i]? = some u:=by simpa using eu
    have hlt : i < its.toArray.size:=(Array.getElem?_eq_some_iff.mp eu').1
    refine wpAny_pyNext_enum_itemD (Yg (A:=X.A.in1) (k:=k) (I.ok.hd hc) it a ai its.toArray) he ⟨hit,p⟩ hlt ne (by simp [ne,ae.symm]) fun x' h1 tk hP O1 S1 T1 z1 kk=>?_
    rw [eu'] at hP
    cases hP
    refine ⟨_,rfl,wpAny_letOwnedTupleGo_enum O1 fun h2 E2 sb=>?_⟩
    have lt : ∀ {c o},s.heap.get? c = some o→c ≠ s.heap.objs.size:=fun q=>Nat.ne_of_lt (Heap.lt_size q)
    have te : s.heap.objs.size ≠ e:=(lt he).symm
    have ti : s.heap.objs.size ≠ it:=by
      obtain ⟨o,q,_⟩:=hit.obj
      exact (lt q).symm
    have T2:=sb.extBut _ _ te T1
    have k2 : ∀ c o,c ∉ [e,it]→s.heap.get? c = some o→h2.get? c = some o:=fun c o hc q=>by
      simp only [List.mem_cons,List.not_mem_nil,or_false,not_or] at hc
      exact sb.extBut c o hc.1 (kk c o hc.1 hc.2 q)
    have hn : H s.heap.objs.size = none:=I.fresh
    refine ⟨.ref s.heap.objs.size,upd H s.heap.objs.size (.tup [.int i,x]),I.turnedLaid (t':=tk + 1) (ch:=[e,it]) hf k2 (Nat.le_refl _) ⟨by show 2 ≤ sizeLine; decide,[.int i tk,u],.cons ⟨_,rfl⟩ (.cons ru .nil),⟨_,T2,rfl,_,rfl⟩⟩,rfl,
      ⟨_,hn,rfl,fun xs' x' ha' hx'=>?_⟩,⟨⟨_,E2⟩,S1.1.at fun o q=>sb.extBut _ _ ne.symm q⟩,fun c hc=>?_⟩
    · have:=I.seqK_inj ha ha'
      subst this
      rw [hx] at hx'
      cases hx'
      rfl
    · have hne : c ≠ s.heap.objs.size:=by
        rcases List.mem_cons.mp hc with rfl | hc
        · exact te.symm
        · rw [List.mem_singleton.mp hc]; exact ti.symm
      rw [upd_ne hne]
      exact (hf c hc).1
  done:=by
    intro X hP hw hK hc i pins s σ H E I hf st hg
    subst hP hw hK
    obtain ⟨xs,ha,hend⟩:=hg
    obtain ⟨its,r,p,_⟩:=I.seqK ha
    have l1:=r.length
    have fe:=hf e (by simp)
    have fi:=hf it (by simp)
    have ai : a ≠ it:=I.off ha fi
    obtain ⟨⟨old,he⟩,hit⟩:=st
    have ei : i = its.toArray.size:=by simp; omega
    subst ei
    refine wpAny_pyNext_enum_endD (Yg (A:=X.A.in1) (k:=k) (I.ok.hd hc) it a ai its.toArray) he ⟨hit,p⟩ fun h' kk=>⟨rfl,I.turnedL (t':=s.toks) (ch:=[e,it]) hf fun c o hc q=>?_⟩
    simp only [List.mem_cons,List.not_mem_nil,or_false,not_or] at hc
    exact kk c o hc.2 q
  self:=fun _ _ _ _ _ st h=>by
    obtain ⟨⟨old,he⟩,_⟩:=st
    exact wpAny_pyIter_enum he h
theorem boot_enum : bootBuiltins "enumerate" = some (.type "enumerate"):=by decide +kernel
def zev (K : PySem.W.Frag) (ta : TA) : TI:=fun σ H R=>ta σ H fun vs H1=>∃ k a xs,vs = [.ref a]∧SqK k K H1 a xs∧R (Ite k K a) H1
theorem U3 {X : Cx} {es : List Expr} {n : Nat} {tp : Pos} {a : Expr} {ta : TA} {p pos : Pos} (hg : Gl X "enumerate") (hm : X.mg "enumerate" = none) (ha : PA X [a] ta) (hs : starEach [a] X.env = [(false,eval a X.env)]:=by rfl) :
    PI X (.Tuple es n tp) (.Call (.Name "enumerate" p) [a] [] pos) (zev X.K ta):=by
  intro pins s σ H R I h
  refine Call_ (ld_blt I hg hm boot_enum (PyProof.Rows.callWith_type1 (thn (ha pos pins s σ H _ I h) fun us s1 ⟨vs,H1,I1,r1,q1⟩=>?_) hs rfl))
  obtain ⟨k,b,xs,e,hq,q⟩:=q1
  subst e
  obtain ⟨u,rfl,ru⟩:=r1.one
  cases ru
  obtain ⟨its,rv,pl,hz⟩:=I1.seqK hq
  refine Wt pl fun h' E1 It1 kk=>wpAny_pyIter_enum (s:={ s1 with heap:=h' }) E1 ?_
  refine ⟨_,[s1.heap.objs.size + 1,s1.heap.objs.size],_,_,H1,rfl,I1.kept (t':=s1.toks) kk,YW b (Nat.succ_ne_self _),⟨⟨_,E1⟩,It1⟩,fun c hc=>?_,q⟩
  have hle : s1.heap.objs.size ≤ c:=by
    rcases List.mem_cons.mp hc with rfl | hc
    · exact Nat.le_succ _
    · rw [List.mem_singleton.mp hc]; exact Nat.le_refl _
  exact I1.fpOk hle (I1.hok.fresh hle)
theorem VF {K : PySem.W.Frag} {k : SK} {a : Addr} {xs : List V} {g : TG} {tb : TS} {D : Ends} {σ : St} {H : Hp} (Pv : Nat→St→Hp→Prop) (h0 : Pv 0 σ H) (hl : ∀ i σ H,i ≤ xs.length→Pv i σ H→SqK k K H a xs)
    (hs : ∀ i x σ H p,xs[i]? = some x→Pv i σ H→H p = none→g (.ref p) σ (upd H p (.tup [.int i,x])) fun σ2 H2=>tb { D with nx:=Pv (i + 1),ct:=Pv (i + 1),bk:=D.nx } σ2 H2) (hd : ∀ σ H,Pv xs.length σ H→D.nx σ H) :
    ∃ W : Nat→Nat→St→Hp→Prop,(∃ m,W 0 m σ H)∧∀ i m σ H,W i m σ H →
      ((Ite k K a).stop i H∧D.nx σ H)∨((Ite k K a).go i H∧∃ N : St→Hp→Prop,(∀ σ' H',N σ' H'→∃ m',m' < m∧W (i + 1) m' σ' H')∧∀ v H',(Ite k K a).yld i H v H'→g v σ H' fun σ2 H2=>tb { D with nx:=N,ct:=N,bk:=D.nx } σ2 H2):=by
  refine ⟨fun i m σ H=>m = xs.length - i∧i ≤ xs.length∧Pv i σ H,⟨_,rfl,Nat.zero_le _,h0⟩,?_⟩
  rintro i m σ H ⟨rfl,hi,p⟩
  have q:=hl i σ H hi p
  by_cases hlt : i < xs.length
  · have hx : xs[i]? = some xs[i]:=List.getElem?_eq_getElem hlt
    refine .inr ⟨⟨xs,_,q,hx⟩,Pv (i + 1),fun σ' H' z=>⟨_,by omega,rfl,hlt,z⟩,fun v H' ⟨r,hr,ev,y⟩=>?_⟩
    subst ev
    rw [y xs _ q hx]
    exact hs i _ σ H r hx p hr
  · have e : i = xs.length:=by omega
    subst e
    exact .inl ⟨⟨xs,q,rfl⟩,hd σ H p⟩
end L2

namespace L2
open PySem PySem.Spec PyProof.Rows
structure TRow where
  x : PySem.Str
  i : Int
  t : Tok
  u : Tok
def TRow.en (w : World) (r : TRow) : DictEntry:=⟨PyData.keyHash w.params r.x,.str r.x r.t,.int r.i r.u⟩
def STab (w : World) (K : PySem.W.Frag) (a : Addr) (D : List (PySem.Str × Int)) : Prop :=
  (a == sysModules) = false∧(D.map (·.1)).Nodup∧∃ (L : List TRow) (n : Nat),K.lookup a = some ⟨.type "dict",none,.dict (L.map (TRow.en w)).toArray n,#[]⟩∧L.map (fun r=>(r.x,r.i)) = D
def xV (D : List (PySem.Str × Int)) (z : PySem.Str) : Option Int:=(D.find? fun p=>p.1 = z).map (·.2)
theorem STab.dict {X : Cx} {pins : List (Addr × Obj)} {σ : St} {H : Hp} {s : Shared} {a : Addr} {D : List (PySem.Str × Int)} (I : Inv X pins σ H s) (h : STab X.w X.K a D) :
    ∃ kvs : List (PySem.Str × Value),s.heap.DictOf (PySem.strKind X.prog X.w) a kvs∧∀ z,(xV D z = none→valueAt kvs z = none)∧∀ i,xV D z = some i→∃ t,valueAt kvs z = some (.int i t):=by
  obtain ⟨_,nd,L,n,lk,rfl⟩:=h
  refine ⟨L.map fun r=>(r.x,.int r.i r.u),⟨_,_,_,I.kIn a _ lk,⟨rfl,rfl,rfl⟩,rfl,?_,?_,?_⟩,fun z=>?_⟩
  · intro e he
    obtain ⟨r,_,rfl⟩:=List.mem_map.mp (by simpa using he)
    exact ⟨r.x,PySem.strKind_is _ _ _ _,rfl⟩
  · clear lk nd
    show Pairs _ (L.map (TRow.en X.w)).toArray.toList _
    simp only []
    induction L with
    | nil=>exact .nil
    | cons r L ih=>exact .cons (PySem.strKind_is _ _ _ _) rfl ih
  · simpa [List.map_map,Function.comp_def] using nd
  · clear lk nd
    induction L with
    | nil=>exact ⟨fun _=>rfl,fun i e=>by cases e⟩
    | cons r L ih =>
      by_cases q : r.x = z
      · refine ⟨fun e=>?_,fun i e=>⟨r.u,?_⟩⟩
        · simp [xV,q] at e
        · simp [xV,q] at e
          simp [valueAt,q,e]
      · have e1 : xV ((r :: L).map fun r=>(r.x,r.i)) z = xV (L.map fun r=>(r.x,r.i)) z:=by simp [xV,q]
        have e2 : valueAt ((r :: L).map fun r=>(r.x,Value.int r.i r.u)) z = valueAt (L.map fun r=>(r.x,Value.int r.i r.u)) z:=by simp [valueAt,q]
        rw [e1,e2]
        exact ih
section
variable {X : Cx}
def zrh (w : World) (K : PySem.W.Frag) (neg : Bool) : R2:=fun x y H Q=>∃ z a D,x = .str z∧y = .ref a∧STab w K a D∧Q (.bl (if neg then !(xV D z).isSome else (xV D z).isSome)) H
theorem Zo {kvs : List (PySem.Str × Value)} {D : List (PySem.Str × Int)} {z : PySem.Str} (h : (xV D z = none→valueAt kvs z = none)∧∀ i,xV D z = some i→∃ t,valueAt kvs z = some (.int i t)) : (valueAt kvs z).isSome = (xV D z).isSome:=by
  cases e : xV D z with
  | none=>rw [h.1 e]; rfl
  | some i =>
    obtain ⟨t,q⟩:=h.2 i e
    rw [q]; rfl
theorem Xz : OpR X (compareOp .NotIn) (zrh X.w X.K true):=by
  intro pins s σ H x y v u Q I rx ry h
  obtain ⟨z,a,D,rfl,rfl,hd,q⟩:=h
  obtain ⟨t,rfl⟩:=rx
  cases ry
  obtain ⟨kvs,dd,hv⟩:=hd.dict I
  refine wpAny_notIn_of (PySem.strKind_is _ _ z t) hd.1 dd.mapOf ?_
  rw [Zo (hv z)]
  exact ⟨.bl _,H,I.tok _,rfl,q⟩
def zrg (w : World) (K : PySem.W.Frag) : R2:=fun x y H Q=>∃ a z D i,x = .ref a∧y = .str z∧STab w K a D∧xV D z = some i∧Q (.int i) H
theorem zen : IxR X (zrg X.w X.K):=by
  intro value slice pins s σ H x y v u Q I rx ry h hs
  obtain ⟨a,z,D,i,rfl,rfl,hd,hi,q⟩:=h
  cases rx
  obtain ⟨t,rfl⟩:=ry
  obtain ⟨kvs,dd,hv⟩:=hd.dict I
  obtain ⟨t',e⟩:=(hv z).2 i hi
  exact subscriptTail_builtinR (x:=.int i t') dd.typeIs PySem.F.slot_dict_getitem.lookup
    (wpAny_getItem_of (Q:=fun r s'=>r = Value.int i t'∧EP X pins σ Q r s') (PySem.strKind_is _ _ z t) dd.mapOf e ⟨rfl,.int i,H,I.tok _,⟨_,rfl⟩,q⟩) hs
variable {o e f : Expr} {apos cpos : Pos} {td ty tx : TE}
def VW (w : World) (K : PySem.W.Frag) (td ty tx : TE) : TE:=fun σ H Q=>td σ H fun x H1=>∃ a D,x = .ref a∧STab w K a D∧ty σ H1 fun y H2=>tx σ H2 fun z H3=>∃ k j,y = .str k∧z = .int j∧Q (.int ((xV D k).getD j)) H3
theorem W2 (ho : PE X o td) (he : PE X e ty) (hf : PE X f tx) (m : M2 X o "get" apos e f cpos) : PE X (.Call (.Attribute o "get" apos) [e,f] [] cpos) (VW X.w X.K td ty tx):=by
  intro pins s σ H Q I h
  refine wpAny_Call_method m.base m.few m.line PySem.F.plainAttrs_dict PySem.F.slot_dict_get PySem.F.type_dict_get (thn (ho pins s σ H _ I h) fun u s1 ⟨x,H1,I1,rx,a,D,ex,hd,q1⟩=>?_)
  subst ex
  obtain rfl : u = Value.ref a:=rx
  obtain ⟨kvs,dd,hv⟩:=hd.dict I1
  refine ⟨dd.typeIs,dd.mapOf.noDict,?_⟩
  rw [m.trees]
  refine Calls.callWith_builtin rfl (Calls.evalArgs_plain (Calls.spliced_cons (thn (he pins s1 σ H1 _ I1 q1) fun iv s2 ⟨y,H2,I2,ry,q2⟩ =>
    Calls.spliced_cons (thn (hf pins s2 σ H2 _ I2 q2) fun fv s3 ⟨z,H3,I3,rz,k,j,ey,ez,q3⟩=>Calls.spliced_nil ?_))))
  subst ey ez
  obtain ⟨t,rfl⟩:=ry
  obtain ⟨t',rfl⟩:=rz
  obtain ⟨kvs,dd,hv⟩:=hd.dict I3
  refine call_meetsIn PySem.F.slot_dict_get dd.typeIs PySem.F.entry_dict_get (PySem.F.args_dict_get_3 _ _ _) (meets_dict_get_default (PySem.strKind X.prog X.w) a (PySem.strKind_is _ _ k t) hd.1 (.int j t')) ⟨_,dd.mapOf,?_⟩
  refine ⟨.int ((xV D k).getD j),H3,I3.tok _,?_,q3⟩
  cases e : xV D k with
  | none=>rw [(hv k).1 e]; exact ⟨_,rfl⟩
  | some i =>
    obtain ⟨t2,q⟩:=(hv k).2 i e
    rw [q]
    exact ⟨_,rfl⟩
end
end L2

namespace L2
open PySem PySem.Spec PyProof.Rows
section
variable {X : Cx} {m : Str} {o e : Expr} {es : List Expr} {ta : TE} {t : TA} {apos pos : Pos}
end
end L2

namespace L2
open PySem PySem.W PySem.Spec PySem.Calls PyProof.Rows PySem.Builtin PySem.Builtin.ObjectAttr
def vj : List Value→Bool
  | []=>false
  | v :: r=>(v :: r) == ZF || match v with
    | .ref _=>vj r
    | _=>false
structure XSet (K : Frag) (C : Addr) : Prop where
  sa : findIn K (.ref C) "__setattr__" = some (some (.builtin "object.__setattr__"))
  hm : mroIn K C (.type "object") = some true
  mt : (clsIn K C).any (fun cd=>vj cd.mro) = true
  hd : hasDictIn K C = true
theorem w8 (self : Value) : ∀ {l : List Value},vj l = true→refuseLoop self "__setattr__" l = pure ()
  | [],e=>by cases e
  | v :: r,e=>by
    unfold vj at e
    rcases Bool.or_eq_true_iff.mp e with q | q
    · rw [beq_iff_eq.mp q]
      exact PySem.F.store_ValueError.passes self
    · cases v with
      | ref a=>rw [refuseLoop_ref]; exact w8 self q
      | _=>cases q
section
variable {prog : Program} {w : World} {A : Around} {K : Frag} {x C : Addr} {s : Shared} {R : Result→Shared→Prop}
theorem W6 {ox : Obj} {od : Option Obj} {name : Str} {tk : Tok} {v : Value} (X : K.In s.heap) (I : InstAt s.heap x ox C od) (c : XSet K C) (ht : takerIn K C name = some none)
    (h : ∀ b,wpAny (model prog w) A.in1 (storeInOwnDict (.ref x) (.ref C) (.str name tk) name v b)
      (fun fin s'=>match fin with | .done f=>R (.ok f) s' | .again c'=>c'.quiet = true∧codeAny (model prog w) A c' R s') (fun e s'=>R (.error e) s') s) :
    codeAny (model prog w) A (.call (.builtin "object.__setattr__") ⟨[.ref x,.str name tk,v],[]⟩) R s:=by
  have SF:=PySem.F.store_object
  obtain ⟨cd,hc,ho⟩:=any_some c.mt
  have sub : Looks (model prog w) s.heap (isInstance (.ref x) (.type "object")) true:=I.type.andThen (looks_mroIn X c.hm)
  have hm : Looks (model prog w) s.heap (mroOf (.ref C)) cd.mro:=(looks_clsIn X hc).andThen .now
  obtain ⟨attr,ha,hr⟩:=Option.bind_eq_some_iff.mp ht
  have L3 : Looks (model prog w) s.heap (storeTaker? attr) none:=by
    cases attr with
    | none=>exact .now
    | some a =>
      obtain ⟨b,hb,q⟩:=Option.map_eq_some_iff.mp hr
      refine (looks_takesIn X hb).andThen ?_
      cases b with
      | true=>cases q
      | false=>exact .now
  refine codeAny_call_builtin SF.slot.plain SF.entry (@check_slot (model prog w) _ _ s "object.__setattr__" "object" "__setattr__" (.ref x) [.str name tk,v] [] _ SF.kind SF.split sub (SF.args (.ref x) (.str name tk) v) ?_)
  rw [osa_eq,refuse_eq]
  refine wpAny_bind (wpAny_bind (I.type.here (wpAny_bind (hm.here ?_))))
  rw [w8 _ ho]
  exact wpAny_pure (wpAny_bind (I.type.here (wpAny_bind ((looks_findIn X ha).here (wpAny_bind (L3.here (h _)))))))
theorem zqG {E : Value→Shared→Prop} {cl : Value} {vs : Array Value} {sl : Array (Option Value)} {name : Str} {v : Value} {Q : Unit→Shared→Prop} (X : K.In s.heap) (hx : s.heap.get? x = some ⟨.ref C,none,.fields vs,sl⟩) (c : XSet K C) (ht : takerIn K C name = some none)
    (h : ∀ h',h'.Ns1 s.heap.objs.size (fun y=>if y = name then some v else none)→h'.get? x = some ⟨.ref C,some s.heap.objs.size,.fields vs,sl⟩→(∀ b o,b ≠ x→s.heap.get? b = some o→h'.get? b = some o)→Q () { s with heap:=h',toks:=s.toks + 2 }) :
    wpAny (model prog w) A (setAttr (.ref x) name v) Q E s:=by
  have I : InstAt s.heap x ⟨.ref C,none,.fields vs,sl⟩ C none:=⟨hx,rfl,rfl,trivial⟩
  refine set_plain X I c.sa (W6 (s:={ s with toks:=s.toks + 1 }) X I c ht fun b=>?_)
  obtain ⟨cd,hc,hd'⟩:=any_some c.hd
  have hxs : x ≠ s.heap.objs.size:=Nat.ne_of_lt (Heap.lt_size hx)
  have hx1 : (s.heap.push { cls:=.type "dict",data:=.dict #[] }).get? x = some ⟨.ref C,none,.fields vs,sl⟩:=Heap.get?_push_of_some _ hx
  refine wpAny_bind (wpAny_pure (wpAny_bind (wpAny_bind (wpAny_loadPart hx (wpAny_bind ((looks_clsIn (M:=model prog w) X hc).here (s:={ s with toks:=s.toks + 1 }) ?_))))))
  rw [hd']
  refine wpAny_bind (wpAny_alloc (wpAny_bind (wpAny_update hx1 (wpAny_pure ?_))))
  generalize hg : (s.heap.push { cls:=.type "dict",data:=.dict #[] }).update x (fun o=>{ o with dict:=some s.heap.objs.size }) = h1
  have e1 : h1.get? s.heap.objs.size = some { cls:=.type "dict",data:=.dict #[] }:=by
    rw [← hg]
    exact (Heap.get?_update_other _ _ hxs).trans (Heap.get?_push_size s.heap rfl)
  have e2 : h1.get? x = some ⟨.ref C,some s.heap.objs.size,.fields vs,sl⟩:=by
    rw [← hg]
    exact Heap.get?_update_self _ hx1 rfl
  have e3 : ∀ b o,b ≠ x→s.heap.get? b = some o→h1.get? b = some o:=fun b o n q=>by
    rw [← hg]
    exact (Heap.get?_update_other _ _ (Ne.symm n)).trans (Heap.get?_push_of_some _ q)
  have n1 : h1.Ns s.heap.objs.size (fun _=>none):=⟨_,#[],_,e1,rfl,fun e he=>absurd he (by simp),fun _=>rfl⟩
  refine wpAny_bind (wpAny_pure (wpAny_bind ?_))
  refine wpAny_nsSet1 (Heap.Ns1.of_empty n1) fun h' hn2 hs2=>?_
  obtain ⟨oD,esD,epD,hoD,hdD,hcD⟩:=hn2.count (PySem.Within.cons name v PySem.Within.nil)
  refine wpAny_bind (wpAny_lookBehind hoD (by rw [hdD]; exact pastItsLine_dict (Nat.le_trans hcD (by rw [List.length_cons,List.length_nil,sizeLine_eq]; omega))) ?_)
  exact wpAny_pure (h _ hn2 ((hs2.2 _ hxs).trans e2) fun b o n q=>(hs2.2 b (Nat.ne_of_lt (Heap.lt_size q))).trans (e3 b o n q))
end
end L2

namespace L2
open PySem PySem.Spec PyProof.Rows
def XM (a C : Addr) (dd : Option Addr) (h : Heap) : Prop:=∃ t : Addr,h.get? a = some ⟨.ref C,dd,.fields #[.ref t,.none,.none,.none,.bool false,.none],#[]⟩
theorem zb7 {P : Program} {w : World} {H : Hp} {h : Heap} {a C : Addr} {dd : Option Addr} (x : XM a C dd h) : ObjOk P w H h a (.ext (XM a C dd)):=by
  refine ⟨x,?_,fun h1 h2 p k=>?_⟩
  · obtain ⟨t,e⟩:=x
    exact ⟨_,e⟩
  · obtain ⟨t,e⟩:=p
    exact ⟨t,k _ e⟩
def Ym (K : PySem.W.Frag) (C f : Addr) : Bool:=match K.lookup C with
  | some ⟨.type "type",_,.cls cd,sl⟩=>(match cd.mro,sl.toList with
    | .ref C' :: bm,[_,_,_,_,some (.builtin n),_]=>C' == C && n == "ValueError.__new__" && !cd.hasDel && PySem.W.tailIn K ZF bm && PySem.W.nsOkIn K cd.ns && PySem.W.nsIn K cd.ns "__init__" == some (some (.ref f))
    | _,_=>false)
  | _=>false
def zaF (h : Heap) (C f : Addr) : Prop:=∃ bm N nm qn bs hd sn sub ab col dd k0 k1 k2 k3 k5 mN,h.get? C = some (excClassObj nm qn C N bs bm hd sn sub ab col dd k0 k1 k2 k3 k5 "ValueError.__new__")∧h.Ns N mN∧mN "__init__" = some (.ref f)∧OwnTail h ZF bm
theorem zea {K : PySem.W.Frag} {h : Heap} {N : Addr} {m : Str→Option Value} {x : Str} {v : Value} (X : K.In h) (G : h.Ns N m) (q : PySem.W.nsIn K N x = some (some v)) : m x = some v:=by
  obtain ⟨o,es,ep,e1,e2,_,e3⟩:=G
  unfold PySem.W.nsIn at q
  split at q
  case h_2=>cases q
  case h_1 lk =>
    have z:=e1.symm.trans (X _ _ lk)
    cases z
    cases e2
    split at q
    case h_2 =>
      split at q <;> cases q
    case h_1 fd =>
      rw [← e3]
      unfold nsFind findBy
      rw [← Array.find?_toList,fd]
      exact Option.some.inj q
theorem wP {K : PySem.W.Frag} {C f : Addr} (x : Ym K C f = true) {h : Heap} (I : K.In h) : zaF h C f:=by
  unfold Ym at x
  split at x
  case h_2=>cases x
  case h_1 dd cd sl lk =>
    split at x
    case h_2=>cases x
    case h_1 C2 bm k0 k1 k2 k3 nid k5 em es =>
      rw [Bool.and_eq_true,Bool.and_eq_true,Bool.and_eq_true,Bool.and_eq_true,Bool.and_eq_true] at x
      obtain ⟨⟨⟨⟨⟨x1,x2⟩,x3⟩,x4⟩,x5⟩,x6⟩:=x
      cases (beq_iff_eq.mp x1)
      cases (beq_iff_eq.mp x2)
      cases cd with
      | mk nm bs mro ns qn hd sn sub ab col del =>
        have e1 : mro = .ref C :: bm:=em
        have e2 : del = false:=by
          cases del with
          | false=>rfl
          | true=>cases x3
        have e3 : sl = #[k0,k1,k2,k3,some (.builtin "ValueError.__new__"),k5]:=by
          cases sl with
          | mk l =>
            have e : l = _:=es
            rw [e]
        rw [e1,e2,e3] at lk
        have hn : h.Ns ns (h.nsMap ns):=.of_isNs (PySem.W.isNs_of_in I x5)
        exact ⟨bm,ns,nm,qn,bs,hd,sn,sub,ab,col,dd,k0,k1,k2,k3,k5,_,I _ _ lk,hn,zea I hn (beq_iff_eq.mp x6),PySem.W.tail_of_in I x4⟩
section
variable {prog : Program} {w : World} {A : Around} {E : Value→Shared→Prop} {s : Shared} {C f : Addr}
theorem YH {rest : List Value} {of : Obj} {Q : Value→Shared→Prop} (x : zaF s.heap C f) (hfo : s.heap.get? f = some of) (hfc : of.cls = .type "function")
    (hq : ∀ h' e,Heap.MadeExcOf s.heap h' e (.ref C) rest→s.heap.objs.size ≤ e →
      wpAny (model prog w) (A.under (.builtin "type.__call__" ⟨.ref C :: rest,[]⟩)) (call (.ref f) (.ref e :: rest)) (fun r s'=>r = .none∧Q (.ref e) s') E { s with heap:=h' }) (hrest : rest.length ≤ sizeLine) :
    wpAny (model prog w) A (call (.ref C) rest) Q E s:=by
  obtain ⟨h,g,d,t,os⟩:=s
  obtain ⟨bm,N,nm,qn,bs,hd,sn,sub,ab,col,dd,k0,k1,k2,k3,k5,mN,hC,hn,hi,T⟩:=x
  have F:=PySem.F.excBase_ValueError
  have f1:=tc_lookup
  have f2:=tc_bind (.ref C)
  have hT : (⟨h,g,d,t,os⟩ : Shared).TypeIs (.ref C) "type" := ⟨_,hC,rfl⟩
  refine wpAny_call (codeAny_of_tree ?_)
  show wpAny _ _ (callAny (.ref C) _) _ _ _
  repeat (any_goals (first | assumption | with_reducible refine wpAny_loadPart_at hC ?_ | wp_step))
  refine ⟨rfl,codeAny_call_builtin_at (Code.quiet_builtin _ (by decide +kernel)) entry_typeCall (wpAny_check_type_call_sub hC ?_)⟩
  repeat (first | with_reducible refine wpAny_loadPart_at hC ?_ | with_reducible refine wpAny_madeBy_exc hC ?_ | wp_step)
  refine codeAny_call_builtin_code (Code.quiet_builtin _ F.quiet) (wpAny_check_new_subT F T hC (codeAny_exc_new_subT F T hC ?_ hrest))
  show wpAny _ _ _ _ _ ⟨(h.push { cls:=.type "tuple",data:=.seq rest.toArray }).push { cls:=.ref C,data:=.fields #[.ref h.objs.size,.none,.none,.none,.bool false,.none] },g,d,t,os⟩
  generalize ht : ({ cls:=.type "tuple",data:=.seq rest.toArray } : Obj) = ot
  generalize he : ({ cls:=.ref C,data:=.fields #[.ref h.objs.size,.none,.none,.none,.bool false,.none] } : Obj) = oe
  have kp : ∀ b o,h.get? b = some o→((h.push ot).push oe).get? b = some o:=fun b o q=>Heap.get?_push_of_some _ (Heap.get?_push_of_some _ q)
  have g1 : ((h.push ot).push oe).get? (h.objs.size + 1) = some oe:=Heap.get?_push_at (by rw [Heap.size_push]) (by rw [← he]; rfl)
  have g0 : ((h.push ot).push oe).get? h.objs.size = some ot:=Heap.get?_push_of_some _ (Heap.get?_push_at rfl (by rw [← ht]; rfl))
  have oc : oe.cls = .ref C:=by rw [← he]
  have cC : (Value.ref C :: bm).contains (.ref C) = true:=by simp
  have hC1:=kp _ _ hC
  have made : Heap.MadeExcOf h ((h.push ot).push oe) (h.objs.size + 1) (.ref C) rest:=by
    subst ht he
    exact ⟨kp,Heap.get?_none_of_le (Nat.le_succ _),h.objs.size,g1,Heap.get?_none_of_le (Nat.le_refl _),g0⟩
  unfold isInstance
  repeat (first | (with_reducible refine wpAny_loadPart_at g1 ?_; rw [oc]) | (with_reducible refine wpAny_isSubtype_exc hC1 ?_; rw [cC]) | wp_step)
  show wpAny _ _ (typeLookup (.ref C) _) _ _ _
  refine wpAny_typeLookup_tail hC1 (hn.keeps kp) (T.keeps kp) F.mroIs F.init.lookup ?_
  rw [hi]
  refine wpAny_holding (wpAny_bind ?_)
  unfold bindSpecial
  refine wpAny_bind (wpAny_typeOf (T := "function") ⟨_,kp _ _ hfo,hfc⟩ ?_)
  rw [if_pos (by decide)]
  refine wpAny_pure (wpAny_bind (wpAny_mono (hq _ _ made (Nat.le_succ _)) (fun r s' hr=>?_) fun _ _ z=>z))
  obtain ⟨rfl,q⟩:=hr
  wp_walk
  exact q
end
end L2

namespace L2
open PySem PySem.Spec PyProof.Rows
def zdy (K : PySem.W.Frag) (ta tv : TE) (f : Str) : TS:=fun D σ H=>tv σ H fun y H1=>ta σ H1 fun x H2=>∃ a C,x = .ref a∧H2 a = some (.ext (XM a C none))∧XSet K C∧PySem.W.takerIn K C f = some none ∧
  ∀ d,H2 d = none→D.nx σ (upd (upd H2 d (.xd [(f,y)])) a (.ext (XM a C (some d))))
section
variable {X : Cx} {o value : Expr} {f : Str} {pos pos' : Pos} {ta tv : TE}
theorem U0 (ha : PE X o ta) (hv : PE X value tv) (hs : swapsWith value (some (.Attribute o f pos')) pos.line X.env = pure false) : PS X (.Assign [.Attribute o f pos'] value pos) (zdy X.K ta tv f):=by
  intro pins s σ H D I h
  refine plainObj_wpAny_Assign_Attribute (thn (hv pins s σ H _ I h) fun u s1 ⟨y,H1,I1,ry,q⟩=>thn (ha pins s1 σ H1 _ I1 q) fun ov s2 ⟨x,H2,I2,rx,a,C,ex,ea,c,n,q2⟩=>?_) hs
  subst ex
  obtain rfl : ov = Value.ref a:=rx
  obtain ⟨⟨t,hx⟩,_,_⟩:=(show ObjOk X.prog X.w H2 s2.heap a (.ext (XM a C none)) from I2.hok a _ ea)
  refine zqG (cl:=.none) I2.kIn hx c n fun h' hn hx' hk=>⟨σ,_,?_,q2 s2.heap.objs.size (I2.hok.fresh (Nat.le_refl _))⟩
  obtain ⟨od,es,ep,e1,rest⟩:=hn
  have hfr:=(Heap.get?_some_iff.mp e1).2
  have g0 : (s2.heap.push od).get? s2.heap.objs.size = some od:=Heap.get?_push_size s2.heap hfr
  have I3:=I2.laid (a:=s2.heap.objs.size) (o:=.xd [(f,y)]) (h':=s2.heap.push od) (t':=s2.toks + 2) (fun b u' q=>Heap.get?_push_of_some _ q) (Nat.le_refl _) ⟨_,⟨od,es,ep,g0,rest⟩,fun g=>by
    show RelO (([(f,y)] : List (Str × V)).lookup g) (if g = f then some u else none)
    rw [List.lookup_cons]
    by_cases q : g = f
    · rw [if_pos q,beq_iff_eq.mpr q]
      exact ry
    · rw [if_neg q,beq_eq_false_iff_ne.mpr q]
      exact True.intro⟩
  have na : a ≠ s2.heap.objs.size:=Nat.ne_of_lt (Heap.lt_size hx)
  refine I3.write (x:=a) (e:=a) (o:=.ext (XM a C (some s2.heap.objs.size))) (h':=h') (t':=s2.toks + 2) (by rw [upd_ne na,ea]; exact True.intro) (.inl rfl) (fun b u' hb q=>?_) ⟨_,hx'⟩ (zb7 ⟨t,hx'⟩)
  by_cases hd : b = s2.heap.objs.size
  · subst hd
    have z:=g0.symm.trans q
    cases z
    exact e1
  · refine hk b u' hb ?_
    have q' : (s2.heap.push od).get? b = some u':=q
    rw [Heap.get?_push_ne _ _ _ hd] at q'
    exact q'
end
def Xh (C : Addr) (f : Str) : Sp:=fun vs H Q _=>∃ a v,vs = [.ref a,v]∧H a = some (.ext (XM a C none))∧∀ d,H d = none→Q .non (upd (upd H d (.xd [(f,v)])) a (.ext (XM a C (some d))))
section
variable {M : Model} {A : Around} {E : Value→Shared→Prop} {s : Shared} {env : Env}
theorem raise_xm {x : Sem Value} {Q : Flow→Shared→Prop} (hh : A.handled = none) (h : wpAny M A x (fun v s1=>∃ e C f dd,v = .ref e∧zaF s1.heap C f∧XM e C dd s1.heap∧E (.ref e) s1) E s) : wpAny M A (raiseStmt env (some x) none) Q E s:=by
  unfold raiseStmt
  refine wpAny_bind (wpAny_mono h (fun v s1 h1=>?_) fun _ _ z=>z)
  obtain ⟨e,C,f,dd,rfl,⟨bm,N,nm,qn,bs,hd,sn,sub,ab,col,dd',k0,k1,k2,k3,k5,mN,hC,hn,hi,T⟩,⟨t,he⟩,hE⟩:=h1
  have cB : (Value.ref C :: bm).contains (.type "BaseException") = true:=by rw [List.contains_cons,T.hasType (b:=true) rfl,Bool.or_true]
  obtain ⟨hp,g,d,tk,os⟩:=s1
  repeat (first | with_reducible refine wpAny_loadPart_at he ?_ | with_reducible refine wpAny_loadPart_at hC ?_ | (with_reducible refine wpAny_isSubtype_exc hC ?_; rw [cB]) | wp_step)
  exact wpAny_raiseNew_none hh hE
end
end L2

namespace L2
open PySem PySem.Spec PyProof.Rows
def sans (H : Hp) (a : Addr) : Hp:=fun b=>if b = a then none else H b
theorem sans_ne {H : Hp} {a b : Addr} (h : b ≠ a) : sans H a b = H b:=if_neg h
theorem uL {H : Hp} {a b : Addr} {o : HO} (h : sans H a b = some o) : b ≠ a∧H b = some o:=by
  unfold sans at h
  split at h
  · cases h
  · rename_i n
    exact ⟨n,h⟩
section
variable {P : Program} {w : World} {K : PySem.W.Frag} {mg : Str→Option Value} {base : Heap} {N : List Str} {qual : Str} {scope : Scope} {f : Addr} {cd : Value} {A : Around} {outer : List Env} {s0 : Shared} {H0 : Hp} {E : XK}
theorem zee {pins : List (Addr × Obj)} {σ : St} {H : Hp} {s : Shared} {a C d : Addr} (I : Inv (yy (CX1 P w) P w K mg base N qual scope f cd A outer s0 H0 E) pins σ H s) (ha : H a = some (.ext (XM a C (some d)))) (young : s0.heap.get? a = none)
    (q : E (.ref C) (some d) (sans H a)) : (yy (CX1 P w) P w K mg base N qual scope f cd A outer s0 H0 E).xe (.ref a) s:=by
  obtain ⟨⟨t,hx⟩,_,_⟩:=(show ObjOk P w H s.heap a (.ext (XM a C (some d))) from I.hok a _ ha)
  have hfr:=I.ok.frames
  have sf : ∀ b,b ∈ frs (envOfC qual scope s0.heap.objs.size f cd :: outer)→H b = none:=fun b hb=>I.stkFree b hb
  have nb : ∀ b,b ∈ frs (envOfC qual scope s0.heap.objs.size f cd :: outer)→b ≠ a:=fun b hb e=>by
    have:=sf b hb
    rw [e,ha] at this
    cases this
  generalize hB : PySem.W.hideAll s.heap (a :: frs (envOfC qual scope s0.heap.objs.size f cd :: outer)) = B
  have Bs : B.StaysIn s.heap:=fun b o e=>by rw [← hB] at e; exact PySem.W.of_hideAll _ e
  have Bn : B.get? a = none:=by rw [← hB]; exact PySem.W.hideAll_none _ (List.mem_cons_self ..)
  have Bg : ∀ b o,s.heap.get? b = some o→b ≠ a→b ∉ frs (envOfC qual scope s0.heap.objs.size f cd :: outer)→B.get? b = some o:=fun b o e n1 n2=>by
    rw [← hB]
    exact PySem.W.hideAll_get _ e fun z=>(List.mem_cons.mp z).elim n1 n2
  have Bf : s.heap.FunFrames B (envOfC qual scope s0.heap.objs.size f cd :: outer):=by
    rw [← hB]
    exact PySem.W.funFrames_hide I.stack fun env he b hb=>List.mem_cons_of_mem _ (List.mem_filterMap.mpr ⟨env,he,hb⟩)
  have ns : ∀ b o,s0.heap.get? b = some o→b ∉ frs outer→b ∉ frs (envOfC qual scope s0.heap.objs.size f cd :: outer):=fun b o e hb z=>by
    rcases List.mem_cons.mp (I.stkSub b z) with e' | e'
    · exact absurd (Nat.lt_of_lt_of_le (Heap.lt_size e) I.ok.above) (by rw [e']; exact Nat.lt_irrefl _)
    · exact hb e'
  have na : ∀ b o,s0.heap.get? b = some o→b ≠ a:=fun b o e z=>by rw [z,young] at e; cases e
  refine zeC (M:=model P w) (A:=A.deeper (envOfC qual scope s0.heap.objs.size f cd)) (s:=s) (outer:=outer) (L:=s0.heap.objs.size) (base:=B) (a0:=.ref t) hfr Bf rfl hx Bs Bn rfl rfl rfl fun h2 F2 up kd=>?_
  refine ⟨a,.ref C,.ref t,sans H a,B,rfl,?_,F2,some d,fun D e=>?_,q⟩
  · refine ⟨I.os,I.bare,⟨fun b o e n hb _=>?_,fun b o e n hb _=>?_,fun b o e n _=>?_,fun b o e _=>?_,fun b xs e=>?_,fun b o u e=>?_,fun b ps e=>?_⟩,?_,fun b o e n hb=>?_,fun b o hb e=>?_,fun b o e hb=>?_⟩
    · exact F2.1 b o (Bg b o (I.base.keep b o e n hb (by simp [yy])) (na b o e) (ns b o e hb))
    · have hs : b ∈ frs (envOfC qual scope s0.heap.objs.size f cd :: outer):=by
        obtain ⟨env,he,hf⟩:=List.mem_filterMap.mp hb
        exact List.mem_filterMap.mpr ⟨env,List.mem_cons_of_mem _ he,hf⟩
      obtain ⟨z,e1⟩:=I.base.any e n (by simp [yy])
      obtain ⟨_,o',ho',hd⟩:=I.stack.mem hs
      have eo:=e1.symm.trans ho'
      cases eo
      obtain ⟨z2,e2⟩:=up b _ e1 (fun vs z=>hd vs z)
      exact ⟨z2,e2⟩
    · have:=I.base.free b o e n (by simp [yy])
      rw [sans_ne (na b o e)]
      exact this
    · obtain ⟨o',e1⟩:=I.base.there b o e (by simp [yy])
      by_cases hb : b ∈ frs (envOfC qual scope s0.heap.objs.size f cd :: outer)
      · obtain ⟨_,o2,ho2,hd⟩:=I.stack.mem hb
        obtain ⟨z2,e2⟩:=up b _ ho2 (fun vs z=>hd vs z)
        exact ⟨_,e2⟩
      · exact ⟨o',F2.1 b o' (Bg b o' e1 (na b o e) hb)⟩
    · have:=I.base.tups b xs e
      rw [sans_ne (fun z=>by rw [z,ha] at this; cases this)]
      exact this
    · have:=I.base.frzs b o u e
      rw [sans_ne (fun z=>by rw [z,ha] at this; cases this)]
      exact this
    · obtain ⟨more,this⟩:=I.base.tbls b ps e
      exact ⟨more,by rw [sans_ne (fun z=>by rw [z,ha] at this; cases this)]; exact this⟩
    · intro b u e
      obtain ⟨n,e⟩:=uL e
      refine (I.hok b u e).stay (fun c v hc z=>?_) (fun c z=>?_) fun c xs z=>?_
      · have tr : H c ≠ none:=by
          rcases hc with rfl | hc
          · rw [e]; intro z; cases z
          · rw [hc]; intro z; cases z
        have nc : c ≠ a:=by
          rcases hc with rfl | hc
          · exact n
          · intro z; rw [z,ha] at hc; cases hc
        exact F2.1 c v (Bg c v z nc fun y=>tr (sf c y))
      · rw [sans_ne (fun y=>by rw [y,ha] at z; cases z)]
        exact z
      · rw [sans_ne (fun y=>by rw [y,ha] at z; cases z)]
        exact z
    · exact Bg b o (I.base.keep b o e n hb (by simp [yy])) (na b o e) (ns b o e hb)
    · cases hq : sans H a b with
      | none=>exact absurd hq hb
      | some u =>
        obtain ⟨n,e'⟩:=uL hq
        obtain ⟨v,hv⟩:=I.hok.thr e'
        have z:=Bg b v hv n fun y=>by have:=sf b y; rw [e'] at this; cases this
        have z2:=F2.1 b v z
        have e2 : h2.get? b = some o:=e
        rw [z2] at e2
        cases e2
        exact z
    · obtain ⟨o',e1⟩:=I.base.there b o e (by simp [yy])
      exact ⟨o',Bg b o' e1 (na b o e) (ns b o e hb)⟩
  · cases e
    exact kd _ _ ⟨_,hx,rfl⟩
end
end L2

namespace L2
open PySem PySem.Spec PyProof.Rows
theorem YK {K : PySem.W.Frag} {g : Addr} (h : (K.lookup g).any (fun o=>o.cls == .type "function") = true) : ∃ o,K.lookup g = some o∧o.cls = .type "function" := by
  cases e : K.lookup g with
  | none=>rw [e] at h; cases h
  | some o =>
    rw [e] at h
    exact ⟨o,rfl,beq_iff_eq.mp h⟩
theorem WV {H : Hp} {a d : Addr} {o1 o2 o3 : HO} (h : H a = none) (n : d ≠ a) : sans (upd (upd (upd H a o1) d o2) a o3) a = upd H d o2:=by
  funext b
  unfold sans upd
  by_cases e : b = a
  · subst e
    simp [h,Ne.symm n]
  · simp [e]
section
variable {P : Program} {w : World} {K : PySem.W.Frag} {mg : Str→Option Value} {base : Heap} {N : List Str} {qual : Str} {scope : Scope} {f : Addr} {cd : Value} {A : Around} {outer : List Env} {s0 : Shared} {H0 : Hp} {E : XK}
  {x fld : Str} {C g : Addr} {e : Expr} {es : List Expr} {t : TA} {np cpos pos : Pos} {k : Nat} {fd : FuncData} {ps : List Str}
def zjD (C : Addr) (fld : Str) (E : XK) (t : TA) : TS:=fun _ σ H=>t σ H fun vs H1=>∃ v,vs = [v]∧∀ d,H1 d = none→E (.ref C) (some d) (upd H1 d (.xd [(fld,v)]))
structure XInit (P : Program) (w : World) (K : PySem.W.Frag) (mg : Str→Option Value) (base : Heap) (x : Str) (C g : Addr) (fd : FuncData) (ps : List Str) (k : Nat) (fld : Str) : Prop where
  ok : FnOk P w K mg base CX0 k g fd ps (Xh C fld)
  c : Ym K C g = true
  fn : (K.lookup g).any (fun o=>o.cls == .type "function") = true
  kp : PySem.W.keepIn K (.ref C) = true
  gl : mg x = some (.ref C)
  b : Binds K fd ps []
theorem Xl (c : XInit P w K mg base x C g fd ps k fld) (hc : (A.deeper (envOfC qual scope s0.heap.objs.size f cd)).handled = none) (hr : Room (k + 1) (yy (CX1 P w) P w K mg base N qual scope f cd A outer s0 H0 E).A) (ha : PA (yy (CX1 P w) P w K mg base N qual scope f cd A outer s0 H0 E) (e :: es) t)
    (hg : Gl (yy (CX1 P w) P w K mg base N qual scope f cd A outer s0 H0 E) x:=by rfl)
    (he : starEach (e :: es) (yy (CX1 P w) P w K mg base N qual scope f cd A outer s0 H0 E).env = (false,eval e (yy (CX1 P w) P w K mg base N qual scope f cd A outer s0 H0 E).env) :: starEach es (yy (CX1 P w) P w K mg base N qual scope f cd A outer s0 H0 E).env:=by rfl)
    (hpl : (backTo cpos (starEach es (yy (CX1 P w) P w K mg base N qual scope f cd A outer s0 H0 E).env)).any (·.1) = false:=by rfl) (hdb : (x == ("__debug__" : Str)) = false:=by decide) :
    PS (yy (CX1 P w) P w K mg base N qual scope f cd A outer s0 H0 E) (.Raise (some (.Call (.Name x np) (e :: es) [] cpos)) none pos) (zjD C fld E t):=by
  intro pins s σ H D I h
  rw [arm_exec_Raise]
  refine wpAny_bind (wpAny_standAt (raise_xm hc ?_))
  refine wpAny_bind (wpAny_mono (wpAny_Call_Name_kw (ld_glob I hg c.gl ?_ hdb)) (fun v s3 h3=>wpAny_bind (wpAny_standAt (wpAny_pure h3))) fun _ _ z=>z)
  refine PySem.W.callWith_K (h₀:=base) I.ok.mod.kin c.kp (wpAny_mono (ha cpos pins s σ H _ I h) (fun us s1 hq=>?_) (fun _ _ z=>z)) he hpl
  obtain ⟨vs,H1,I1,r,v,rfl,q⟩:=hq
  refine ⟨I1.kIn,?_⟩
  have kp1:=I1.bk
  obtain ⟨of,lk,hof⟩:=YK c.fn
  have r2 : ∀ e',Vals (V.ref e' :: [v]) (Value.ref e' :: us):=fun e'=>.cons rfl r
  have hu : us.length = 1:=r.length.symm
  refine YH (wP c.c I1.kIn) (I1.kIn _ _ lk) hof (fun h' e' hx le=>?_) (by rw [List.nil_append,hu]; decide)
  obtain ⟨tt,het,_,_⟩:=hx.there
  have He : H1 e' = none:=I1.hok.fresh le
  have I2:=I1.laid (a:=e') (o:=.ext (XM e' C none)) (t':=s1.toks) hx.keeps le (zb7 ⟨tt,het⟩)
  have hsp : Xh C fld [.ref e',v] (upd H1 e' (.ext (XM e' C none))) (fun v2 H2=>v2 = .non∧∃ d,H1 d = none∧d ≠ e'∧H2 = upd (upd (upd H1 e' (.ext (XM e' C none))) d (.xd [(fld,v)])) e' (.ext (XM e' C (some d)))) E0:=by
    refine ⟨e',v,rfl,upd_same,fun d hd=>⟨rfl,d,?_,?_,rfl⟩⟩
    · have n : d ≠ e':=fun z=>by rw [z,upd_same] at hd; cases hd
      rw [upd_ne n] at hd
      exact hd
    · intro z
      rw [z,upd_same] at hd
      cases hd
  have hl : (Value.ref e' :: us).length = ps.length:=by
    have e1:=(r2 e').length
    rw [c.ok.len _ _ _ _ hsp] at e1
    exact e1.symm
  refine wpAny_call (codeAny_mono (c.ok.run _ _ _ _ ⟨Value.ref e' :: us,[]⟩ (Value.ref e' :: us) _ _ E0 (hr.make C us []) (I2.env0.make C us []) (by have:=c.b _ (Value.ref e' :: us) I2.kIn (by rw [List.append_nil]; exact hl); rw [List.append_nil] at this; exact this) (r2 e') hsp) fun rr s' hq'=>?_)
  cases rr with
  | error e=>exact False.elim hq'
  | ok fl =>
    cases fl with
    | ret u =>
      obtain ⟨v2,H3,I3,rv,ev,d,hd,dn,e3⟩:=I2.after hq'
      subst ev
      have h3 : H3 e' = some (.ext (XM e' C (some d))):=by rw [e3]; exact upd_same
      refine ⟨rv,e',C,g,some d,rfl,wP c.c I3.kIn,?_,zee I3 h3 ?_ ?_⟩
      · obtain ⟨p,_,_⟩:=(show ObjOk P w H3 s'.heap e' (.ext (XM e' C (some d))) from I3.hok e' _ h3)
        exact p
      · exact Heap.get?_none_of_le (Nat.le_trans I1.sz le)
      · rw [e3,WV He dn]
        exact q d hd
    | next=>exact False.elim hq'
    | brk=>exact False.elim hq'
    | cont=>exact False.elim hq'
end
end L2

namespace L2
open PySem PySem.Spec PyProof.Rows
def XAny (K : PySem.W.Frag) (C : Addr) : Prop:=XCls K C∨∃ g,Ym K C g = true
def zrF (h : Heap) (C : Addr) : Prop:=∃ bm N nm qn bs hd sn sub ab col dd k0 k1 k2 k3 k5,h.get? C = some (excClassObj nm qn C N bs bm hd sn sub ab col dd k0 k1 k2 k3 k5 "ValueError.__new__")∧OwnTail h ZF bm
theorem XAny.obj {K : PySem.W.Frag} {C : Addr} (x : XAny K C) {h : Heap} (I : K.In h) : zrF h C:=by
  rcases x with x | ⟨g,x⟩
  · obtain ⟨bm,N,nm,qn,bs,hd,sn,sub,ab,col,dd,k0,k1,k2,k3,k5,mN,h1,h2,h3,h4⟩:=x.obj I
    exact ⟨bm,N,nm,qn,bs,hd,sn,sub,ab,col,dd,k0,k1,k2,k3,k5,h1,h4⟩
  · obtain ⟨bm,N,nm,qn,bs,hd,sn,sub,ab,col,dd,k0,k1,k2,k3,k5,mN,h1,h2,h3,h4⟩:=wP x I
    exact ⟨bm,N,nm,qn,bs,hd,sn,sub,ab,col,dd,k0,k1,k2,k3,k5,h1,h4⟩
def zix (K : PySem.W.Frag) (C C1 : Addr) : Option Bool:=match K.lookup C with
  | some ⟨_,_,.cls cd,_⟩=>some (cd.mro.contains (.ref C1))
  | _=>none
theorem zb6 {M : Model} {A : Around} {E : Value→Shared→Prop} {s : Shared} {K : PySem.W.Frag} {C C1 a : Addr} {b : Bool} {Q : Bool→Shared→Prop} (X : K.In s.heap) (c : XAny K C) (c1 : XAny K C1) (hs : zix K C C1 = some b) (ho : ObC a C s.heap) (hq : Q b s) :
    wpAny M A (excMatches (.ref a) (.ref C1)) Q E s:=by
  obtain ⟨bm,N,nm,qn,bs,hd,sn,sub,ab,col,dd,k0,k1,k2,k3,k5,hC,T⟩:=c.obj X
  obtain ⟨bm1,N1,nm1,qn1,bs1,hd1,sn1,sub1,ab1,col1,dd1,j0,j1,j2,j3,j5,hC1,T1⟩:=c1.obj X
  have hc : (Value.ref C :: bm).contains (.ref C1) = b:=by
    unfold zix at hs
    split at hs
    · rename_i lk
      have z:=hC.symm.trans (X _ _ lk)
      cases z
      exact Option.some.inj hs
    · cases hs
  have cB : (Value.ref C1 :: bm1).contains (.type "BaseException") = true:=by rw [List.contains_cons,T1.hasType (b:=true) rfl,Bool.or_true]
  obtain ⟨o,he,ec⟩:=ho
  obtain ⟨h,g,d,t,os⟩:=s
  have f:=tc_notTuple
  unfold excMatches
  repeat (first | (with_reducible refine wpAny_loadPart_at he ?_; rw [ec]) | with_reducible refine wpAny_loadPart_at hC1 ?_ | (with_reducible refine wpAny_isSubtype_exc hC1 ?_; rw [cB]) | (with_reducible refine wpAny_isSubtype_exc hC ?_; rw [hc]) | wp_step)
  cases b <;> (repeat wp_step) <;> exact hq
section
variable {X : Cx} {pins : List (Addr × Obj)} {σ : St} {H : Hp} {s : Shared}
theorem Inv.addE {a : Addr} {φ : Heap→Prop} (I : Inv X pins σ H s) (h0 : ∀ b o,X.s₀.heap.get? b = some o→b ∉ X.ex→b ≠ a) (hn : H a = none) (hl : X.env.locals ≠ a) (hc : ∀ x c,X.env.cells.lookup x = some c→c ≠ a) (hp : ∀ p ∈ X.pn ++ pins,p.1 ≠ a)
    (ob : ObjOk X.prog X.w (upd H a (.ext φ)) s.heap a (.ext φ)) : Inv X pins σ (upd H a (.ext φ)) s:=by
  have ne : ∀ {b : Addr} {u : HO},H b = some u→b ≠ a:=fun e=>ne_of_none e hn
  refine ⟨I.ok,I.os,I.bare,⟨I.base.keep,I.base.slot,fun b o q n hx=>?_,I.base.there,fun b xs q=>?_,fun b o u q=>?_,fun b ps q=>?_⟩,I.loc,I.cell,?_,fun x c e=>?_,fun p hq=>?_,fun b u e=>?_,I.len⟩
  · rw [upd_ne (h0 b o q hx)]
    exact I.base.free b o q n hx
  · have:=I.base.tups b xs q
    rw [upd_ne (ne this)]
    exact this
  · have:=I.base.frzs b o u q
    rw [upd_ne (ne this)]
    exact this
  · obtain ⟨more,this⟩:=I.base.tbls b ps q
    exact ⟨more,by rw [upd_ne (ne this)]; exact this⟩
  · rw [upd_ne hl]
    exact I.free
  · rw [upd_ne (hc x c e)]
    exact I.freeC x c e
  · obtain ⟨e,n,n1,n2,d⟩:=I.pin p hq
    exact ⟨e,by rw [upd_ne (hp p hq)]; exact n,n1,n2,d⟩
  · by_cases hb : b = a
    · subst hb
      rw [upd_same] at e
      cases e
      exact ob
    · rw [upd_ne hb] at e
      exact (I.hok b u e).stay (fun c v _ q=>q) (fun c q=>by rw [upd_ne (ne_of_none q hn)]; exact q) fun c xs q=>by rw [upd_ne (ne_of_none q hn)]; exact q
end
def ObX (a C : Addr) : Option Addr→Heap→Prop
  | none=>ObC a C
  | some D=>fun h=>∃ o,h.get? a = some o∧o.cls = .ref C∧o.dict = some D∧PySem.W.notCls o = true
theorem zd8 {P : Program} {w : World} {H : Hp} {h : Heap} {a C : Addr} {dd : Option Addr} (o : ∃ ob,h.get? a = some ob∧ob.cls = .ref C∧PySem.W.notCls ob = true) (d : ∀ D,dd = some D→DictAt a D h) : ObjOk P w H h a (.ext (ObX a C dd)):=by
  obtain ⟨ob,e,c,nc⟩:=o
  cases dd with
  | none=>exact ⟨⟨ob,e,c⟩,⟨ob,e⟩,fun h1 h2 ⟨o,e,c⟩ k=>⟨o,k o e,c⟩⟩
  | some D =>
    obtain ⟨o',e',d'⟩:=d D rfl
    rw [e] at e'
    cases e'
    exact ⟨⟨ob,e,c,d',nc⟩,⟨ob,e⟩,fun h1 h2 ⟨o,e,c,d,n⟩ k=>⟨o,k o e,c,d,n⟩⟩
structure Fl (X : Cx) (pins : List (Addr × Obj)) (σ : St) (H : Hp) (s : Shared) (h : Heap) (a C : Addr) (dd : Option Addr) : Prop where
  ex : ∃ H1 s1 B a0,Inv X pins σ H1 s1∧Lies X.prog X.w X.stack H1 s1 H s B∧s.heap.UpToSlots h∧Heap.FlyingW B X.stack a (.ref C) a0 h∧s1.heap.get? a = none
  ha : H a = none
  dk : ∀ D,dd = some D→DictAt a D h
section
variable {X : Cx} {pins : List (Addr × Obj)} {σ : St} {H : Hp} {s : Shared} {h : Heap} {a C : Addr} {dd : Option Addr}
theorem Fl.inv (F : Fl X pins σ H s h a C dd) : Inv X pins σ H { s with heap:=h }:=by
  obtain ⟨H1,s1,B,a0,I,L,up,W,_⟩:=F.ex
  exact Lies.inv (t2:=s.toks) I L W.1 up
theorem Fl.ob (F : Fl X pins σ H s h a C dd) : ObC a C h:=by
  obtain ⟨H1,s1,B,a0,I,L,up,W,_⟩:=F.ex
  exact W.there
theorem Fl.ob2 (F : Fl X pins σ H s h a C dd) : ∃ ob,h.get? a = some ob∧ob.cls = .ref C∧PySem.W.notCls ob = true:=by
  obtain ⟨H1,s1,B,a0,I,L,up,W,_⟩:=F.ex
  obtain ⟨oe,vs,he,hc,hd,_⟩:=W.first
  exact ⟨oe,he,hc,by unfold PySem.W.notCls; rw [hd]⟩
theorem Fl.look (F : Fl X pins σ H s h a C dd) : Inv X pins σ (upd H a (.ext (ObX a C dd))) { s with heap:=h }:=by
  have J:=F.inv
  obtain ⟨H1,s1,B,a0,I,L,up,W,young⟩:=F.ex
  refine J.addE (fun b o e hx z=>?_) F.ha (fun z=>?_) (fun y k e z=>?_) (fun p hp z=>?_) (zd8 F.ob2 F.dk)
  · obtain ⟨o',e'⟩:=I.base.there b o e hx
    rw [z,young] at e'
    cases e'
  · obtain ⟨m,⟨o,_,_,e,_⟩,_⟩:=I.loc
    rw [z,young] at e
    cases e
  · obtain ⟨w',o,e',_⟩:=I.cell y k e
    rw [z,young] at e'
    cases e'
  · have:=(I.pin p hp).1
    rw [z,young] at this
    cases this
theorem Fl.lands {M : Model} {A : Around} {E : Value→Shared→Prop} {Q : Unit→Shared→Prop} (F : Fl X pins σ H s h a C dd) (hQ : ∀ h',Fl X pins σ H s h' a C dd→Q () { s with heap:=h' }) : wpAny M A (setFlight (.ref a) none) Q E { s with heap:=h }:=by
  obtain ⟨H1,s1,B,a0,I,L,up,W,young⟩:=F.ex
  exact zaq (s:={ s with heap:=h }) W fun h' W' up' kd=>hQ h' ⟨⟨H1,s1,B,a0,I,L,up.trans up',W',young⟩,F.ha,fun D e=>kd _ _ (F.dk D e)⟩
end
def PH (X : Cx) (hs : List ExceptHandler) (th : Addr→Option Addr→TS) : Prop:=∀ (pins : List (Addr × Obj)) (σ : St) (H : Hp) (D : Ends) (s : Shared) (h : Heap) (a C : Addr) (dd : Option Addr),Fl X pins σ H s h a C dd→th C dd D σ H →
  wpAny (model X.prog X.w) X.A (handleBy (.ref a) X.env hs) (SP X pins D) X.xe { s with heap:=h }
abbrev ziB : Addr→Option Addr→TS:=fun _ _ _ _ _=>False
def ziC (K : PySem.W.Frag) (C1 : Addr) (i : Nat) (th : TS) (tr : Addr→Option Addr→TS) : Addr→Option Addr→TS:=fun C dd D σ H =>
  (C = C1∧∀ a,H a = none→th (D.sans i) (σ.set i (some (.ref a))) (upd H a (.ext (ObX a C dd))))∨(zix K C C1 = some false∧XAny K C∧tr C dd D σ H)
section
variable {X : Cx} {suite : List Stmt} {b0 : Stmt} {i : Nat} {x n : Str} {C1 : Addr} {np hpos : Pos} {th : TS} {tr : Addr→Option Addr→TS} {rest : List ExceptHandler}
theorem zjf : PH X [] ziB:=fun _ _ _ _ _ _ _ _ _ _ h=>h.elim
theorem zjg (hN : X.N.Nodup) (hi : X.N[i]? = some n) (hk : X.env.scope.names.lookup n = some .local) (c : XAny X.K C1) (hm : X.mg x = some (.ref C1)) (hh : ∀ a,PSs (X.inH a) (b0 :: suite) th) (hr : PH X rest tr)
    (hg : Gl X x:=by rfl) (hdb : (x == ("__debug__" : Str)) = false:=by decide) : PH X (.ExceptHandler (some (.Name x np)) (some n) (b0 :: suite) hpos :: rest) (ziC X.K C1 i th tr):=by
  intro pins σ H D s h a C dd F q
  have I5:=F.inv
  have J5:=I5.inH a
  refine wpAny_handleBy_cons (codeAny_handlers_test (ld_glob J5 hg hm ?_ hdb)) (by intro q; cases q)
  rcases q with ⟨rfl,hts⟩ | ⟨hs,cC,q⟩
  · obtain ⟨bm,Nn,nm,qn,bs,hd,sn,sub,ab,col,dd',k0,k1,k2,k3,k5,h1,h4⟩:=c.obj I5.kIn
    obtain ⟨ob,hob,hobc⟩:=F.ob
    obtain ⟨sh,sg,sd,stk,sos⟩:=s
    refine wpAny_excMatches_sub_self h1 hob hobc (h4.hasType rfl) ?_
    refine codeAny_handlers_suite_as (F.lands fun h6 F6=>?_)
    have I7:=F6.look
    refine store_ok (v:=.ref a) I7 hN hi (.inl hk) rfl (fun s8 I8=>?_) (.inr hk)
    refine wpAny_mono (hh a pins _ _ _ (D.sans i) (I8.inH a) (hts a F.ha)) (fun fl s9 q=>?_) (fun _ _ z=>False.elim z)
    have q:=SP.unH (X:=X) I5.ok q
    cases fl with
    | next =>
      obtain ⟨σ',H9,I9,q⟩:=q
      exact uc I9 hN hi hk fun s' I'=>⟨_,_,I',q⟩
    | brk =>
      obtain ⟨σ',H9,I9,q⟩:=q
      exact uc I9 hN hi hk fun s' I'=>⟨_,_,I',q⟩
    | cont =>
      obtain ⟨σ',H9,I9,q⟩:=q
      exact uc I9 hN hi hk fun s' I'=>⟨_,_,I',q⟩
    | ret u =>
      obtain ⟨v,σ',H9,I9,r,q⟩:=q
      exact uc I9 hN hi hk fun s' I'=>⟨v,_,_,I',r,q⟩
  · exact zb6 I5.kIn cC c hs F.ob (hr pins σ H D s h a C dd F q)
end
def UD (tb : XK→TS) (th : Addr→Option Addr→TS) : TS:=fun D σ H=>tb (fun cls dd H'=>∃ C,cls = .ref C∧th C dd D σ H') D σ H
theorem UY {X : Cx} {body : List Stmt} {h0 : ExceptHandler} {hs : List ExceptHandler} {pos : Pos} {tb : XK→TS} {th : Addr→Option Addr→TS} (hst : X.stack = X.env :: X.outer) (hfr : X.env.frame = some X.env.locals) (hb : PX X body tb) (hh : PH X (h0 :: hs) th) :
    PS X (.Try body (h0 :: hs) [] [] pos) (UD tb th):=by
  intro pins s σ H D I h
  refine wpAny_Try_except (wpAny_mono (hb pins s σ H D _ I h) (fun fl s1 q=>?_) (fun e s1 hx=>?_))
  · cases fl with
    | next=>exact wpAny_execs_nil q
    | ret v=>exact q
    | brk=>exact q
    | cont=>exact q
  · obtain ⟨H1,s2,I1,a,cls,a0,H',B,rfl,L,F,dd,hdd,C,rfl,hts⟩:=hx
    obtain ⟨sh,sg,sd,stk,sos⟩:=s1
    -- the exception is younger than the call
    have young : s2.heap.get? a = none:=by
      cases e : s2.heap.get? a with
      | none=>rfl
      | some o =>
        obtain ⟨_,f2,f3,oe,vs,_,_,_,he,_,hd,_⟩:=id F
        by_cases hf : a ∈ frs X.stack
        · obtain ⟨_,o',ho',hnf⟩:=f3.mem hf
          have z:=ho'.symm.trans he
          cases z
          exact absurd hd (hnf vs)
        · obtain ⟨o',e'⟩:=L.c3 a o e hf
          rw [f2] at e'
          cases e'
    have Ha : H' a = none:=by
      cases e : H' a with
      | none=>rfl
      | some o =>
        obtain ⟨u,hu⟩:=L.hok.thr e
        have:=L.c2 a u (by rw [e]; intro z; cases z) hu
        rw [F.2.1] at this
        cases this
    have F':=F
    rw [hst] at F'
    refine zed (s:=⟨sh,sg,sd,stk,sos⟩) (outer:=X.outer) (L:=X.env.locals) (by rw [I.ok.frames,hst]) hfr F' fun h4 Hd4 up4 kd4=>zeh (s:=⟨h4,sg,sd,stk,sos⟩) Hd4 fun h5 F5 up5 kd5=>?_
    refine hh pins σ H' D ⟨sh,sg,sd,stk,sos⟩ h5 a C dd ⟨⟨H1,s2,B,a0,I1,L,up4.trans up5,?_,young⟩,Ha,fun D e=>kd5 _ _ (kd4 _ _ (hdd D e))⟩ hts
    rw [hst]
    exact F5
section
variable {X : Cx} {f : Str}
structure XGet (K : PySem.W.Frag) (C : Addr) (f : Str) : Prop where
  ga : PySem.W.findIn K (.ref C) "__getattribute__" = some (some (.builtin "BaseException.__getattribute__"))
  gt : PySem.W.findIn K (.ref C) "__getattr__" = some none
  hb : PySem.W.mroIn K C (.type "BaseException") = some true
  hd : PySem.W.hasDictIn K C = true
  na : PySem.W.findIn K (.ref C) f = some none
end
end L2

namespace L2
open PySem PySem.W PySem.Spec PySem.Calls PyProof.Rows PySem.Builtin PySem.Builtin.ObjectAttr PySem.Builtin.Getset_descriptor
section
variable {prog : Program} {w : World} {A : Around} {E : Value→Shared→Prop} {K : Frag} {x C : Addr} {s : Shared} {ox od : Obj} {f : Str} {v : Value}
theorem Wb {tk : Tok} {Q : Fin→Shared→Prop} (X : K.In s.heap) (I : InstAt s.heap x ox C (some od)) (c : XGet K C f) (hl : lookIn f od = some (some v)) (k : Q (.done (.ret v)) s) :
    wpAny (model prog w) A (Builtin.«object.__getattribute__» ⟨[.ref x,.str f tk],[]⟩) Q E s:=by
  have T0:=I.type (M:=model prog w)
  have T1:=looks_find (M:=model prog w) X I (findObj_own c.hd c.na rfl hl)
  obtain ⟨hh,gg,dr,tt,ss⟩:=s
  unfold Builtin.«object.__getattribute__»
  repeat lk
  exact k
theorem zeB {tk : Tok} {fill expr : Bool} {Q : Value→Shared→Prop} (X : K.In s.heap) (I : InstAt s.heap x ox C (some od)) (c : XGet K C f) (hl : lookIn f od = some (some v)) (hv : handedIn v = true) (k : Q v s) :
    wpAny (model prog w) A (getAttrBy (.ref x) (.str f tk) fill expr) Q E s:=by
  have T0:=I.type (M:=model prog w)
  have T1:=looks_findIn (M:=model prog w) X c.ga
  have T2:=looks_findIn (M:=model prog w) X c.gt
  have f3:=F.attr_ValueError.ga.bind (.ref x)
  have ob : ObC x C s.heap:=⟨ox,I.at_,I.cls⟩
  obtain ⟨hh,gg,dr,tt,ss⟩:=s
  unfold getAttrBy
  refine wpAny_holding (wpAny_bind (T0.at (wpAny_bind (T1.at ?_))))
  show wpAny _ _ (if (onTheHeap (Value.ref C) && Value.builtin "BaseException.__getattribute__" == Value.builtin "object.__getattribute__") = true then _ else _) _ _ _
  have z : (Value.builtin "BaseException.__getattribute__" == Value.builtin "object.__getattribute__") = false:=by decide +kernel
  rw [z,Bool.and_false,if_neg Bool.false_ne_true]
  unfold getAttrByItsOwn
  refine wpAny_bind (T2.at ?_)
  refine wpAny_bind (wpAny_attempt (wpAny_holding ?_))
  have hx0 : (expr && onTheHeap (Value.builtin "BaseException.__getattribute__")) = false:=by cases expr <;> rfl
  unfold callGetattribute
  rw [hx0]
  show wpAny _ _ (boundAndCalled _ _ _) _ _ _
  unfold boundAndCalled
  rw [f3]
  refine wpAny_bind (wpAny_pure (wpAny_call ?_))
  refine codeAny_call_builtin F.attr_ValueError.ga.plain F.entry_bexc_ga ?_
  refine Yc X ob c.hb (Wb X I c hl ?_)
  show wpAny _ _ (handedOut v) _ _ _
  rw [handedOut_of hv]
  exact wpAny_pure k
theorem zaw {expr : Bool} {Q : Value→Shared→Prop} (X : K.In s.heap) (I : InstAt s.heap x ox C (some od)) (c : XGet K C f) (hl : lookIn f od = some (some v)) (hv : handedIn v = true) (k : Q v { s with toks:=s.toks + 1 }) :
    wpAny (model prog w) A (getAttr (.ref x) f expr) Q E s:=by
  unfold getAttr
  exact wpAny_bind (wpAny_mkText (zeB (s:={ s with toks:=s.toks + 1 }) X I c hl hv k))
end
def UF (K : Frag) (ta : TE) (f : Str) : TE:=fun σ H Q=>ta σ H fun x H1=>∃ a C d fs v,x = .ref a∧H1 a = some (.ext (ObX a C (some d)))∧H1 d = some (.xd fs)∧XGet K C f∧fs.lookup f = some v∧Q v H1
theorem U6 {X : Cx} {e : Expr} {f : Str} {pos : Pos} {ta : TE} (he : PE X e ta) (hb : attributeBase e f X.env (eval e X.env) = eval e X.env) : PE X (.Attribute e f pos) (UF X.K ta f):=by
  intro pins s σ H Q I h
  refine attr_of hb (thn (he pins s σ H _ I h) fun u s1 ⟨x,H1,I1,rx,a,C,d,fs,v,ex,ea,ed,c,l,q⟩=>?_)
  subst ex
  obtain rfl : u = Value.ref a:=rx
  obtain ⟨⟨o,e1,e2,e3,nc⟩,_,_⟩:=(show ObjOk X.prog X.w H1 s1.heap a (.ext (ObX a C (some d))) from I1.hok a _ ea)
  obtain ⟨mA,ns,r⟩:=(show ObjOk X.prog X.w H1 s1.heap d (.xd fs) from I1.hok d _ ed)
  obtain ⟨od,ho,hl⟩:=u6 ns
  obtain ⟨u',hu,ru⟩:=RelO.some_of (v:=v) (o:=mA f) (by rw [← l]; exact r f)
  have Io : InstAt s1.heap a o C (some od):=⟨e1,e2,nc,by rw [e3]; exact ho⟩
  exact zaw I1.kIn Io c (by rw [hl,hu]) (Za ru) ⟨v,H1,I1.tok _,ru,q⟩
end L2

namespace L2
open PySem PySem.Spec PyProof.Rows
section
variable {P : Program} {w : World} {K : PySem.W.Frag} {mg : Str→Option Value} {base : Heap} {N : List Str} {qual : Str} {scope : Scope} {f : Addr} {cd : Value} {A : Around} {outer : List Env} {s0 : Shared} {H0 : Hp} {E : XK}
  {k : Nat} {f' C : Addr} {fd : FuncData} {ps : List Str} {sp : Sp} {x : Str} {p pos : Pos} {e : Expr} {es : List Expr} {t : TA}
theorem zjj (c : Maker1 P w K mg base x C f' fd ps k sp) (hr : Room (k + 1) (yy (CX1 P w) P w K mg base N qual scope f cd A outer s0 H0 E).A) (ha : PA (yy (CX1 P w) P w K mg base N qual scope f cd A outer s0 H0 E) (e :: es) t)
    (hg : Gl (yy (CX1 P w) P w K mg base N qual scope f cd A outer s0 H0 E) x:=by rfl) (hdb : (x == ("__debug__" : Str)) = false:=by decide)
    (he : starEach (e :: es) (yy (CX1 P w) P w K mg base N qual scope f cd A outer s0 H0 E).env = (false,eval e (yy (CX1 P w) P w K mg base N qual scope f cd A outer s0 H0 E).env) :: starEach es (yy (CX1 P w) P w K mg base N qual scope f cd A outer s0 H0 E).env:=by rfl)
    (hpl : (backTo pos (starEach es (yy (CX1 P w) P w K mg base N qual scope f cd A outer s0 H0 E).env)).any (·.1) = false:=by rfl) :
    PE (yy (CX1 P w) P w K mg base N qual scope f cd A outer s0 H0 E) (.Call (.Name x p) (e :: es) [] pos) (Y1 C sp [] E t) :=
  Xv (X:=yy (CX1 P w) P w K mg base N qual scope f cd A outer s0 H0 E) (CX:=CX1 P w) c.mm c.ok hr hg c.g c.b .nil zjn ha hdb he hpl
theorem calm {k : Nat} {f : Addr} {fd : FuncData} {ps : List Str} {sp : Sp} (F : FnOk P w K mg base (CX1 P w) k f fd ps sp) : FnOk P w K mg base CX0 k f fd ps (fun vs H Q _=>sp vs H Q E0) :=
  ⟨fun vs H Q E h=>F.len vs H Q E0 h,fun A outer s H args us vs Q E hr e0 hb r h=>codeAny_mono (F.run A outer s H args us vs Q E0 hr e0 hb r h) fun r s' hq=>by
    cases r with
    | error e =>
      obtain ⟨_,_,_,_,_,_,_,_,_,_,z⟩:=hq
      exact False.elim z
    | ok fl=>cases fl <;> exact hq⟩
end
section
variable {X : Cx}
end
end L2

namespace L2
open PySem PySem.Spec PyProof.Rows
section
variable {X : Cx} {body suite suite2 : List Stmt} {b0 c0 : Stmt} {i i2 : Nat} {x n x2 n2 : Str} {C1 C2 : Addr} {np hpos np2 hpos2 pos : Pos} {tb : XK→TS} {th th2 : TS}
theorem UZ (hst : X.stack = X.env :: X.outer) (hfr : X.env.frame = some X.env.locals) (hN : X.N.Nodup) (hi : X.N[i]? = some n) (hk : X.env.scope.names.lookup n = some .local) (c : XAny X.K C1) (hm : X.mg x = some (.ref C1)) (hb : PX X body tb) (hh : ∀ a,PSs (X.inH a) (b0 :: suite) th)
    (hg : Gl X x:=by rfl) (hdb : (x == ("__debug__" : Str)) = false:=by decide) :
    PS X (.Try body [.ExceptHandler (some (.Name x np)) (some n) (b0 :: suite) hpos] [] [] pos) (UD tb (ziC X.K C1 i th ziB)):=UY hst hfr hb (zjg hN hi hk c hm hh zjf hg hdb)
end
theorem U7 {X : Cx} {K : PySem.W.Frag} {e : Expr} {f : Str} {pos : Pos} {ta : TE} (hK : X.K = K) (he : PE X e ta) (hb : attributeBase e f X.env (eval e X.env) = eval e X.env) : PE X (.Attribute e f pos) (UF K ta f):=by
  subst hK
  exact U6 he hb
end L2

namespace L2
open PySem PySem.W PySem.Spec PySem.Calls PyProof.Rows
theorem ObX.ob {a C : Addr} {dd : Option Addr} {h : Heap} (x : ObX a C dd h) : ObC a C h:=by
  cases dd with
  | none=>exact x
  | some D =>
    obtain ⟨o,e,c,_⟩:=x
    exact ⟨o,e,c⟩
section
variable {X : Cx}
def zjb (K : Frag) : List V→Hp→VK→Prop:=fun xs H Q=>∃ (x C : Addr) (dd : Option Addr) (c : V) (cv : Value) (b : Bool),xs = [.ref x,c]∧zb4 c = some cv∧H x = some (.ext (ObX x C dd))∧XIs K C∧kitOne K (.ref C) cv = some b∧Q (.bl b) H
theorem Wr {K : Frag} (hK : X.K = K) : xU X (.builtin "isinstance") (zjb K):=by
  subst hK
  intro pins s σ H xs us Q I r h
  obtain ⟨x,C,dd,c,cv,b,rfl,hc,hx,xi,e,q⟩:=h
  obtain ⟨u,v,rfl,r1,r2⟩:=r.two
  obtain rfl:=ug hc r2
  cases (show u = Value.ref x from r1)
  obtain ⟨p,_,_⟩:=(show ObjOk X.prog X.w H s.heap x (.ext (ObX x C dd)) from I.hok x _ hx)
  exact kia_one (Z6 xi) I.kIn p.ob e (fun z=>nomatch z) fun tk=>⟨.bl b,H,I.tok tk,rfl,q⟩
theorem Wq {K : Frag} (hK : X.K = K) : xU X (.builtin "isinstance") (zo7 K):=by
  subst hK
  exact ym
theorem Zc : ∀ {cs : List V} {cvs us : List Value},cs.map zb4 = cvs.map some→Vals cs us→us = cvs
  | [],[],_,_,r=>by cases r; rfl
  | c :: cs,v :: cvs,_,h,r=>by
    cases r with
    | cons r1 r2 =>
      have h:=List.cons.inj h
      rw [ug h.1 r1,Zc h.2 r2]
  | [],_ :: _,_,h,_=>by cases h
  | _ :: _,[],_,h,_=>by cases h
def zja (K : Frag) : List V→Hp→VK→Prop:=fun xs H Q=>∃ (x C p : Addr) (dd : Option Addr) (cs : List V) (cvs : List Value) (b : Bool),xs = [.ref x,.ref p]∧H x = some (.ext (ObX x C dd))∧H p = some (.tup cs)∧cs.map zb4 = cvs.map some∧XIs K C∧kitAny K (.ref C) cvs = some b∧Q (.bl b) H
theorem Wp {K : Frag} (hK : X.K = K) : xU X (.builtin "isinstance") (zja K):=by
  subst hK
  intro pins s σ H xs us Q I r h
  obtain ⟨x,C,p,dd,cs,cvs,b,rfl,hx,hp,hc,xi,e,q⟩:=h
  obtain ⟨u,v,rfl,r1,r2⟩:=r.two
  cases (show u = Value.ref x from r1)
  cases (show v = Value.ref p from r2)
  obtain ⟨z,_,_⟩:=(show ObjOk X.prog X.w H s.heap x (.ext (ObX x C dd)) from I.hok x _ hx)
  obtain ⟨_,its,ri,o,ho,hcl,n,hd⟩:=(show ObjOk X.prog X.w H s.heap p (.tup cs) from I.hok p _ hp)
  obtain rfl:=Zc hc ri
  obtain ⟨oc,od,odt,osl⟩:=o
  cases hcl
  cases hd
  exact kia_tup (Z6 xi) I.kIn z.ob ho e (fun z=>nomatch z) fun tk=>⟨.bl b,H,I.tok tk,rfl,q⟩
theorem Vp : MtR X "str.upper" (fun x vs H Q=>∃ a,x = .str a∧vs = []∧(Txt.upper a).length ≤ 10000∧Q (.str (Txt.upper a)) H):=by
  intro pins s σ H x vs v us Q I rx rv h
  obtain ⟨a,rfl,rfl,hz,q⟩:=h
  obtain ⟨t,rfl⟩:=rx
  cases rv
  refine SC.upper ?_ ⟨.str _,H,I.tok _,⟨_,rfl⟩,q⟩
  unfold Builtin.Str.tooLong
  have e2 : sizeLine = 16777216:=rfl
  rw [decide_eq_false_iff_not,e2]
  omega
end
end L2

namespace L2
open PySem PySem.Spec PyProof.Rows
structure Bx (p : Prop) : Prop where
  of : p
theorem yh {X : Cx} {body : List Stmt} {q : TS→Prop} {t : TS} (h : Bx (PSs X body t)) (k : q t) : ∃ t,PSs X body t∧q t:=⟨t,h.of,k⟩
theorem zaI {X : Cx} {e : Expr} {t : TT} (h : Bx (PW X e t)) : Bx (PT X e t):=⟨h.of.pt⟩
section
variable {X : Cx}
theorem zb {i j pos} : Bx (PE X (.Constant (.int i) j pos) (tC (.int i))):=⟨zdX⟩
theorem yz {b j pos} : Bx (PE X (.Constant (.bool b) j pos) (tC (.bl b))):=⟨zjm⟩
theorem yl {j pos} : Bx (PE X (.Constant .none j pos) (tC .non)):=⟨zdW⟩
theorem ze {x j pos} : Bx (PE X (.Constant (.str x) j pos) (tC (.str x))):=⟨uR⟩
theorem yj {x : Str} {v : V} {u : Value} {pos : Pos} (hg : Gl X x) (hm : X.mg x = some u) (r : RelV v u) (hd : (x == ("__debug__" : Str)) = false:=by decide) : Bx (PE X (.Name x pos) (tC v)):=⟨xw hg hm r hd⟩
end
section
variable {X : Cx}
variable {a b : Expr} {ta tb : TE} {pos : Pos}
theorem zX {e : Expr} {t : TE} (h : Bx (PE X e t)) (he : ∀ whole,isTrue e X.env whole = (do let v ← whole; standAt e.pos; holding [v] (truthy v)):=by intro _; rfl) : Bx (PT X e (tB t)):=⟨ZW h.of he⟩
end
section
variable {X : Cx}
variable {a b : Expr} {ta tb : TE} {pos : Pos}
variable {tA tB' : TT} {rest : List Expr}
theorem xK (ha : Bx (PT X a tA)) : Bx (PW X (.BoolOp .Or [a] pos) tA):=⟨zdE ha.of⟩
theorem xC (ha : Bx (PT X a tA)) (hb : Bx (PW X (.BoolOp .Or (b :: rest) pos) tB')) : Bx (PW X (.BoolOp .Or (a :: b :: rest) pos) (tOr tA tB')):=⟨zjc ha.of hb.of⟩
theorem vJ (ha : Bx (PT X a tA)) : Bx (PT X (.UnaryOp .Not a pos) (zjG tA)):=⟨ZX ha.of⟩
theorem xf {op} {t : TE} (h : Bx (PE X a t)) : Bx (PE X (.BoolOp op [a] pos) t):=⟨zdU h.of⟩
theorem xg (ha : Bx (PE X a ta)) (hb : Bx (PE X (.BoolOp .And (b :: rest) pos) tb)) : Bx (PE X (.BoolOp .And (a :: b :: rest) pos) (tAndV ta tb)):=⟨zd3 ha.of hb.of⟩
theorem Uy (ha : Bx (PE X a ta)) (hb : Bx (PE X (.BoolOp .Or (b :: rest) pos) tb)) : Bx (PE X (.BoolOp .Or (a :: b :: rest) pos) (zjF ta tb)):=⟨zjh ha.of hb.of⟩
theorem ZJ (ha : Bx (PE X a ta)) : Bx (PE X (.UnaryOp .Not a pos) (zcf ta)):=⟨zdV ha.of⟩
theorem xo {c : Expr} (hc : Bx (PT X c tA)) (ha : Bx (PE X a ta)) (hb : Bx (PE X b tb)) : Bx (PE X (.IfExp c a b pos) (tIf tA ta tb)):=⟨W4 hc.of ha.of hb.of⟩
end
section
variable {X : Cx} {st : Stmt} {rest : List Stmt} {t u : TS} {e : Expr} {te : TE} {pos : Pos}
theorem zo  : Bx (PSs X [] WP):=⟨va⟩
theorem zd (h1 : Bx (PS X st t)) (h2 : Bx (PSs X rest u)) : Bx (PSs X (st :: rest) (zaJ t u)):=⟨xj h1.of h2.of⟩
theorem zf (h1 : Bx (PS X st t)) : Bx (PSs X [st] t):=⟨x9 h1.of⟩
theorem ur (he : Bx (PE X e te)) (hs : swapsWith e none pos.line X.env = pure false:=by rfl) : Bx (PS X (.Expr e pos) (WQ te)):=⟨U1 he.of hs⟩
theorem zk (he : Bx (PE X e te)) : Bx (PS X (.Return (some e) pos) (zjE te)):=⟨V7 he.of⟩
theorem zx {c : Expr} {a b : List Stmt} {tc : TT} (hc : Bx (PT X c tc)) (ha : Bx (PSs X a t)) (hb : Bx (PSs X b u)) : Bx (PS X (.If c a b pos) (zeO tc t u)):=⟨Xm hc.of ha.of hb.of⟩
end
section
variable {X : Cx} {pos : Pos}
theorem zY {i : Nat} {x : Str} (hN : X.N.Nodup) (hi : X.N[i]? = some x) (hx : Loc X.env.scope x) (hf : X.fn x = true∨X.env.scope.names.lookup x = some .local:=by first | exact .inl rfl | exact .inr rfl | assumption) : Bx (PG X (.Name x pos) (vz i)):=⟨Xu hN hi hx hf⟩
theorem uu  : Bx (PGs X [] gNil):=⟨U4⟩
theorem xM {e : Expr} {es : List Expr} {t : TG} {u : TGs} (h1 : Bx (PG X e t)) (h2 : Bx (PGs X es u)) (hs : (assignEach (e :: es) X.env).map (·.2) = assign e X.env :: (assignEach es X.env).map (·.2):=by rfl) : Bx (PGs X (e :: es) (zez t u)):=⟨W1 h1.of h2.of hs⟩
theorem ZI {es : List Expr} {k : Nat} {t : TGs} {n : Nat} (hc : X.calm = true) (h : Bx (PGs X es t)) (hn : (assignEach es X.env).length = n:=by rfl) (hst : (assignEach es X.env).findIdx? (·.1) = none:=by rfl) : Bx (PG X (.Tuple es k pos) (zqD X.K n t)):=⟨zdQ hc h.of hn hst⟩
theorem wG {o i : Expr} {to ti : TE} {t : ziw} (ho : Bx (PE X o to)) (hi : Bx (PE X i ti)) (hs : zjz X t) (ha : ∀ v,assign (.Subscript o i pos) X.env v = (do
      let ov ← holding [v] (eval o X.env)
      let iv ← holding [v,ov] (eval i X.env)
      standAt pos
      holding [v,ov,iv] (setItem ov iv v)
      release [v,ov,iv] []):=by intro _; rfl) : Bx (PG X (.Subscript o i pos) (zqE to ti t)):=⟨zdR ho.of hi.of hs ha⟩
theorem wF {tg e : Expr} {te : TE} {g : TG} (he : Bx (PE X e te)) (hg : Bx (PG X tg g)) (hs : swapsWithSole [tg] e pos.line X.env = pure false:=by rfl) (hw : swappedStores [tg] e X.env = pure none:=by rfl) (h1 : (assignEach [tg] X.env).map (·.2) = [assign tg X.env]:=by rfl) : Bx (PS X (.Assign [tg] e pos) (WS te g)):=⟨zdH he.of hg.of hs hw h1⟩
theorem zr {i : Nat} {x : Str} {e : Expr} {te : TE} {pos' : Pos} (hN : X.N.Nodup) (hi : X.N[i]? = some x) (hx : Loc X.env.scope x) (he : Bx (PE X e te)) (hs : swapsWith e (some (.Name x pos')) pos.line X.env = pure false:=by rfl) (hf : X.fn x = true∨X.env.scope.names.lookup x = some .local:=by first | exact .inl rfl | exact .inr rfl | assumption) : Bx (PS X (.Assign [.Name x pos'] e pos) (WS te (vz i))):=⟨zdF hN hi hx he.of hs hf⟩
end
section
variable {X : Cx} {tg : Expr}
theorem ut {l : Expr} {tl : TE} (hl : Bx (PE X l tl)) : Bx (PI X tg l (zeu X.K tl)):=⟨Xs hl.of⟩
theorem WG {l : Expr} {tl : TE} (hl : Bx (PE X l tl)) : Bx (PI X tg l (zqz X.K tl)):=⟨zdO hl.of⟩
theorem Zm {a : Expr} {ta : TA} {p pos : Pos} (hg : Gl X "range") (hm : X.mg "range" = none) (ha : Bx (PA X [a] ta)) (hs : starEach [a] X.env = [(false,eval a X.env)]:=by rfl) : Bx (PI X tg (.Call (.Name "range" p) [a] [] pos) (zet ta)):=⟨Xr hg hm ha.of hs⟩
theorem Zl {a b : Expr} {ta : TA} {p pos : Pos} (hg : Gl X "range") (hm : X.mg "range" = none) (ha : Bx (PA X [a,b] ta)) (hs : starEach [a,b] X.env = [(false,eval a X.env),(false,eval b X.env)]:=by rfl) (hs2 : starEach [b] X.env = [(false,eval b X.env)]:=by rfl) : Bx (PI X tg (.Call (.Name "range" p) [a,b] [] pos) (zes ta)):=⟨Xq hg hm ha.of hs hs2⟩
theorem xL {iter : Expr} {body : List Stmt} {wi : TI} {g : TG} {tb : TS} {pos : Pos} (hp : PassesOwn (model X.prog X.w) X.A X.env X.xe) (hc : X.calm = true) (hi : Bx (PI X tg iter wi)) (hg : Bx (PG X tg g)) (hb : Bx (PSs X body tb)) (hs : ∀ x,foldedSetIterable iter X.env x = pure x:=by intro _; rfl) : Bx (PS X (.For tg iter body [] pos) (zjH wi g tb)):=⟨zdG hp hc hi.of hg.of hb.of hs⟩
end
section
variable {X : Cx} {a b c : Expr} {ta tb tc : TE} {pos : Pos}
theorem zi {op : Operator} {r : R2} (ho : OpR X (binaryOp op) r) (ha : Bx (PE X a ta)) (hb : Bx (PE X b tb)) : Bx (PE X (.BinOp a op b pos) (tOp r ta tb)):=⟨zji ho ha.of hb.of⟩
theorem yo {op : CmpOp} {r : R2} (ho : OpR X (compareOp op) r) (ha : Bx (PE X a ta)) (hb : Bx (PE X b tb)) (hm : behindInMarks op b = false) : Bx (PE X (.Compare a [op] [b] pos) (tOp r ta tb)):=⟨U8 ho ha.of hb.of hm⟩
theorem zn {op : CmpOp} {r : R2} (ho : OpR X (compareOp op) r) (ha : Bx (PE X a ta)) (hb : Bx (PE X b tb)) (hm : behindInMarks op b = false) : Bx (PT X (.Compare a [op] [b] pos) (UE (tOp r ta tb))):=⟨Xk ho ha.of hb.of hm⟩
end
section
variable {X : Cx} {o e value : Expr} {f : Str} {pos pos' tpos : Pos} {ta tv : TE}
theorem zC (he : Bx (PE X e ta)) (hb : attributeBase e f X.env (eval e X.env) = eval e X.env) : Bx (PE X (.Attribute e f pos) (zjI X.K ta f)):=⟨zdY he.of hb⟩
theorem yn (ha : Bx (PE X o ta)) (hv : Bx (PE X value tv)) (hs : swapsWith value (some (.Attribute o f pos')) pos.line X.env = pure false) : Bx (PS X (.Assign [.Attribute o f pos'] value pos) (zo4 X.K ta tv f)):=⟨uN ha.of hv.of hs⟩
end
section
variable {X : Cx} {e : Expr} {es : List Expr} {te : TE} {t : TA} {pos : Pos}
theorem za  : Bx (PA X [] YZ):=⟨xq⟩
theorem zg (ha : Bx (PE X e te)) (hr : Bx (PA X es t)) (hs : starEach (e :: es) X.env = (false,eval e X.env) :: starEach es X.env:=by rfl) : Bx (PA X (e :: es) (xv te t)):=⟨xx ha.of hr.of hs⟩
theorem yS {x1} (h : Bx (PA X es t)) : Bx (PE X (.Tuple es x1 pos) (zjC t)):=⟨zdT h.of⟩
theorem zp (h : Bx (PA X es t)) : Bx (PE X (.List es pos) (zaK t)):=⟨Xw h.of⟩
end
section
variable {X : Cx} {CX : CXT} {k : Nat} {f C : Addr} {fd : FuncData} {ps : List Str} {sp : Sp} {dvs : List V} {ds : List Value} {E : XK} {x m : Str} {p pos apos : Pos} {e o : Expr} {es : List Expr} {ta : TE} {t : TA}
theorem zca {pl : Sem Bool} (he : Bx (PE X o ta)) (c : Cls X.K C) (hm : Meth X.K C m f) (F : FnOk X.prog X.w X.K X.mg X.base CX k f fd ps sp) (hr : Room k X.A) (hb : Binds X.K fd ps ds) (hd : Vals dvs ds) (hx : wB CX X E) (ha : Bx (PA X (e :: es) t)) (hst : starEach (e :: es) X.env = (false,eval e X.env) :: starEach es X.env:=by rfl) (hpl : (backTo pos (starEach es X.env)).any (·.1) = false:=by rfl) (ht : eval (.Call (.Attribute o m apos) (e :: es) [] pos) X.env = (do
      let ov ← eval o X.env
      standAt apos.atName
      let (f,first) ← holding [ov] (getMethod ov m pl)
      callWith pos f first (backTo pos (starEach (e :: es) X.env)) (backToKw pos (keywordEach [] X.env))):=by rfl) : Bx (PE X (.Call (.Attribute o m apos) (e :: es) [] pos) (zcg C m sp dvs E ta t)):=⟨U5 he.of c hm F hr hb hd hx ha.of hst hpl ht⟩
end
section
variable {X : Cx} {CX : CXT} {k : Nat} {f C : Addr} {fd : FuncData} {ps ks : List Str} {sp : Sp} {E : XK} {x m : Str} {p pos apos kpos : Pos} {e o : Expr} {es : List Expr} {kws : List Keyword} {te ta : TE} {t tk : TA} {nm : Option Str}
end
section
variable {X : Cx} {CX : CXT} {k : Nat} {f C : Addr} {fd : FuncData} {ps ks : List Str} {sp : Sp} {E : XK} {x m : Str} {p pos apos kpos : Pos} {e o : Expr} {es : List Expr} {kws : List Keyword} {te ta : TE} {t tk : TA} {nm : Option Str}
variable {g : List Value→List Value→List Value} {gV : List V→List V→List V}
end
section
variable {X : Cx} {x : Str} {p pos : Pos} {e : Expr} {es : List Expr} {t : TA} {id T : String} {r : List V→Hp→VK→Prop}
theorem zq (hc : xU X (.builtin id) r) (hg : Gl X x) (hm : X.mg x = none) (hv : bootBuiltins x = some (.builtin id)) (ha : Bx (PA X (e :: es) t)) (hn : x ≠ "__name__" := by decide) (hdb : (x == ("__debug__" : Str)) = false:=by decide) (he : starEach (e :: es) X.env = (false,eval e X.env) :: starEach es X.env:=by rfl) (hpl : (backTo pos (starEach es X.env)).any (·.1) = false:=by rfl) : Bx (PE X (.Call (.Name x p) (e :: es) [] pos) (tCB r t)):=⟨vV hc hg hm hv ha.of hn hdb he hpl⟩
theorem yU (hc : xU X (.type T) r) (hg : Gl X x) (hm : X.mg x = none) (hv : bootBuiltins x = some (.type T)) (ha : Bx (PA X (e :: es) t)) (hn : x ≠ "__name__" := by decide) (hdb : (x == ("__debug__" : Str)) = false:=by decide) (he : starEach (e :: es) X.env = (false,eval e X.env) :: starEach es X.env:=by rfl) (hpl : (backTo pos (starEach es X.env)).any (·.1) = false:=by rfl) : Bx (PE X (.Call (.Name x p) (e :: es) [] pos) (tCB r t)):=⟨Xy hc hg hm hv ha.of hn hdb he hpl⟩
end
section
variable {X : Cx} {e : Expr} {te : TE} {lo hi : Option Expr} {tl th : TO} {pos p2 : Pos}
theorem zA  : Bx (PO X none Zn):=⟨U2⟩
theorem zy (h : Bx (PE X e te)) : Bx (PO X (some e) (YY te)):=⟨po_some h.of⟩
theorem zv {r : V→Option Int→Option Int→Hp→VK→Prop} (hr : SlR X r) (he : Bx (PE X e te)) (hl : Bx (PO X lo tl)) (hu : Bx (PO X hi th)) : Bx (PE X (.Subscript e (.Slice lo hi none p2) pos) (tSl r te tl th)):=⟨W3 hr he.of hl.of hu.of⟩
end
section
variable {X : Cx} {a b : Expr} {ta tb : TE} {pos : Pos}
theorem zm {r : R2} (hr : IxR X r) (ha : Bx (PE X a ta)) (hb : Bx (PE X b tb)) (hs : WA b) : Bx (PE X (.Subscript a b pos) (tOp r ta tb)):=⟨zjk hr ha.of hb.of hs⟩
end
section
variable {X : Cx} {a b : Expr} {ta tb : TE} {pos : Pos}
variable {o e : Expr} {es : List Expr} {to : TE} {t : TA} {name : Str} {apos cpos : Pos} {T id : String} {r : V→List V→Hp→VK→Prop}
theorem WI (pa : PlainAttrs T) (slot : Slot T name id) (hty : typeOf (.builtin id) = pure (.type "method_descriptor")) (hm : MtR X id r) (ho : Bx (PE X o to)) (hbase : attributeBase o name X.env (eval o X.env) = eval o X.env:=by rfl) (hline : (apos.endLine == cpos.line) = true:=by rfl) : Bx (PE X (.Call (.Attribute o name apos) [] [] cpos) (zjJ X.K T r to)):=⟨zd2 pa slot hty hm ho.of hbase hline⟩
theorem zO (pa : PlainAttrs T) (slot : Slot T name id) (hty : typeOf (.builtin id) = pure (.type "method_descriptor")) (hm : MtR X id r) (ho : Bx (PE X o to)) (ha : Bx (PA X (e :: es) t)) (hbase : attributeBase o name X.env (eval o X.env) = eval o X.env:=by rfl) (hfew : ((backTo cpos (starEach (e :: es) X.env)).all (fun x=>!x.1) && (backToKw cpos (keywordEach [] X.env)).all (fun x=>x.1.isSome)
      && decide ((e :: es).length + ([] : List Keyword).length + (if ([] : List Keyword).isEmpty then 0 else 1) < 30)) = true:=by rfl) (hline : (apos.endLine == cpos.line) = true:=by rfl) (hs : starEach (e :: es) X.env = (false,eval e X.env) :: starEach es X.env:=by rfl) (hplain : (backTo cpos (starEach es X.env)).any (·.1) = false:=by rfl) : Bx (PE X (.Call (.Attribute o name apos) (e :: es) [] cpos) (tBM X.K T r to t)):=⟨zjl pa slot hty hm ho.of ha.of hbase hfew hline hs hplain⟩
end
section
variable {X : Cx} {o i e value : Expr} {pos pos' tpos : Pos} {td ty tv : TE}
end
section
variable {X : Cx} {pos : Pos}
end
section
end
section
variable {X : Cx} {o e f : Expr} {apos cpos : Pos} {td ty tx : TE}
end
section
variable {X : Cx}
theorem zj (i : Nat) {x : Str} {pos : Pos} (hN : X.N[i]? = some x:=by rfl) (hv : Vis X.env.scope x:=by first | exact Or.inl rfl | exact Or.inr (Or.inl rfl) | exact Or.inr (Or.inr rfl)) (hd : (x == ("__debug__" : Str)) = false:=by decide) (hcd : (x == ("__classdict__" : Str)) = false:=by decide) : Bx (PE X (.Name x pos) (WO i)):=⟨pv i hN hv hd hcd⟩
end
section
theorem wc {X : Cx} {st : Stmt} {rest : List Stmt} {t u : TS} (h1 : Bx (PS X st t)) (h2 : Bx (PSs X rest u)) : Bx (PSs X (st :: rest) (zce t u)):=⟨UX h1.of h2.of⟩
theorem uo {X : Cx} : Bx (PTs X [] zeN):=⟨Xj⟩
theorem YN {X : Cx} {c : Expr} {t : TT} (h : Bx (PT X c t)) : Bx (PTs X [c] t):=⟨UW h.of⟩
end
section
variable {X : Cx} {tg iter elt : Expr} {ifs : List Expr} {scope : Scope} {pos : Pos} {N' : List Str} {t : Nat} {caps : List Nat} {g : Blk→TG} {tc : Blk→TT} {te : Blk→TE} {wi : TI}
theorem uv (hc : X.calm = true) (S : CompOk X scope N' t caps) (hi : Bx (PI X tg iter wi)) (hg : ∀ b,Bx (PG (cxB X scope N' b) tg (g b))) (ht : ∀ b,Bx (PTs (cxB X scope N' b) ifs (tc b))) (he : ∀ b,Bx (PE (cxB X scope N' b) elt (te b))) (hs : ∀ x,foldedSetIterable iter X.env x = pure x:=by intro _; rfl) : Bx (PE X (.ListComp elt [⟨tg,iter,ifs,0⟩] scope pos) (WR wi g tc te t caps)):=⟨Xx hc S hi.of (fun x0=>(hg x0).of) (fun x0=>(ht x0).of) (fun x0=>(he x0).of) hs⟩
theorem uq {i : Nat} {y : Str} {py spos : Pos} (hc : X.calm = true) (hN : X.N.Nodup) (hiy : X.N[i]? = some y) (hy : Loc X.env.scope y) (S : CompOk X scope N' t caps) (hi : Bx (PI X tg iter wi)) (hg : ∀ b,Bx (PG (cxB X scope N' b) tg (g b))) (ht : ∀ b,Bx (PTs (cxB X scope N' b) ifs (tc b))) (he : ∀ b,Bx (PE (cxB X scope N' b) elt (te b))) (hsw : swapsWith (.ListComp elt [⟨tg,iter,ifs,0⟩] scope pos) (some (.Name y py)) spos.line X.env = pure true:=by rfl) (hs : ∀ x,foldedSetIterable iter X.env x = pure x:=by intro _; rfl) (hf : X.fn y = true∨X.env.scope.names.lookup y = some .local:=by first | exact .inl rfl | exact .inr rfl | assumption) : Bx (PS X (.Assign [.Name y py] (.ListComp elt [⟨tg,iter,ifs,0⟩] scope pos) spos) (WS (WR wi g tc te t caps) (vz i))):=⟨Yv hc hN hiy hy S hi.of (fun x0=>(hg x0).of) (fun x0=>(ht x0).of) (fun x0=>(he x0).of) hsw hs hf⟩
end
section
variable {X : Cx} {k : Nat} {f C : Addr} {fd : FuncData} {ps : List Str} {sp : Sp} {x m : Str} {p pos apos : Pos} {e o : Expr} {es : List Expr} {ta : TE} {t : TA}
theorem zt (c : Callee X.prog X.w X.K X.mg X.base x f fd ps k sp) (hr : Room k X.A) (ha : Bx (PA X (e :: es) t)) (hg : Gl X x:=by rfl) (hdb : (x == ("__debug__" : Str)) = false:=by decide) (he : starEach (e :: es) X.env = (false,eval e X.env) :: starEach es X.env:=by rfl) (hpl : (backTo pos (starEach es X.env)).any (·.1) = false:=by rfl) : Bx (PE X (.Call (.Name x p) (e :: es) [] pos) (uy sp [] E0 t)):=⟨zd0 c hr ha.of hg hdb he hpl⟩
theorem xD (c : Maker X.prog X.w X.K X.mg X.base x C f fd ps k sp) (hr : Room (k + 1) X.A) (ha : Bx (PA X (e :: es) t)) (hg : Gl X x:=by rfl) (hdb : (x == ("__debug__" : Str)) = false:=by decide) (he : starEach (e :: es) X.env = (false,eval e X.env) :: starEach es X.env:=by rfl) (hpl : (backTo pos (starEach es X.env)).any (·.1) = false:=by rfl) : Bx (PE X (.Call (.Name x p) (e :: es) [] pos) (Y1 C sp [] E0 t)):=⟨zrk c hr ha.of hg hdb he hpl⟩
theorem zZ {pl : Sem Bool} (he : Bx (PE X o ta)) (ht : eval (.Call (.Attribute o m apos) [] [] pos) X.env = (do
      let ov ← eval o X.env
      standAt apos.atName
      let (f,first) ← holding [ov] (getMethod ov m pl)
      callWith pos f first (backTo pos (starEach [] X.env)) (backToKw pos (keywordEach [] X.env))):=by rfl) : Bx (PE X (.Call (.Attribute o m apos) [] [] pos) (Y0 X m ta YZ)):=⟨uS he.of ht⟩
end
section
theorem yT {X : Cx} {x : Str} {C : Addr} {pos : Pos} (hm : X.mg x = some (.ref C)) (hg : Gl X x:=by rfl) (hd : (x == ("__debug__" : Str)) = false:=by decide) : Bx (PE X (.Name x pos) (tC (.ref C))):=⟨zdZ hm hg hd⟩
theorem xN {X : Cx} {x : Str} {n : String} {pos : Pos} (hm : X.mg x = none) (hv : bootBuiltins x = some (.type n)) (hg : Gl X x:=by rfl) (hn : x ≠ "__name__" := by decide) (hd : (x == ("__debug__" : Str)) = false:=by decide) : Bx (PE X (.Name x pos) (tC (.ty n))):=⟨zd1 hm hv hg hn hd⟩
theorem WF {X : Cx} {es : List Expr} {n : Nat} {tp : Pos} {a b : Expr} {ta : TA} {p pos : Pos} (hg : Gl X "zip") (hm : X.mg "zip" = none) (ha : Bx (PA X [a,b] ta)) (hs : starEach [a,b] X.env = [(false,eval a X.env),(false,eval b X.env)]:=by rfl) (hs2 : starEach [b] X.env = [(false,eval b X.env)]:=by rfl) : Bx (PI X (.Tuple es n tp) (.Call (.Name "zip" p) [a,b] [] pos) (zqy X.K ta)):=⟨zdN hg hm ha.of hs hs2⟩
end
section
variable {P : Program} {w : World} {A : Around} {R : Result→Shared→Prop} {I S : Addr} {fp wr : List Addr} {n : Nat} {Is : Nat→Value→Prop} {St : Nat→Heap→Prop} {kw : List (Str × Value)}
end
section
end
section
variable {X : Cx} {C : Addr} {x : Str} {p pos : Pos}
end
section
variable {X : Cx} {es : List Expr} {t : TA} {te : TE}
theorem zl {c j pos} (ha : Bx (PE X (.Constant c j pos) te)) (hr : Bx (PA X es t)) : Bx (PA X (.Constant c j pos :: es) (xv te t)):=⟨zd4 ha.of hr.of⟩
theorem VU {xs c pos} (ha : Bx (PE X (.Tuple xs c pos) te)) (hr : Bx (PA X es t)) : Bx (PA X (.Tuple xs c pos :: es) (xv te t)):=⟨zrl ha.of hr.of⟩
theorem zF {f xs ks pos} (ha : Bx (PE X (.Call f xs ks pos) te)) (hr : Bx (PA X es t)) : Bx (PA X (.Call f xs ks pos :: es) (xv te t)):=⟨zpa ha.of hr.of⟩
theorem zL {l o r pos} (ha : Bx (PE X (.BinOp l o r pos) te)) (hr : Bx (PA X es t)) : Bx (PA X (.BinOp l o r pos :: es) (xv te t)):=⟨zrm ha.of hr.of⟩
theorem zh {x pos} (ha : Bx (PE X (.Name x pos) te)) (hr : Bx (PA X es t)) : Bx (PA X (.Name x pos :: es) (xv te t)):=⟨Zv ha.of hr.of⟩
end
section
variable {X : Cx}
end
section
variable {P : Program} {w : World} {K : PySem.W.Frag} {mg : Str→Option Value} {base : Heap} {N : List Str} {qual : Str} {scope : Scope} {f : Addr} {cd : Value} {A : Around} {outer : List Env} {s0 : Shared} {H0 : Hp} {E : XK}
end
section
variable {X : Cx} {k : Nat} {f C : Addr} {fd : FuncData} {ps : List Str} {sp : Sp} {dvs : List V} {ds : List Value} {x : Str} {p pos : Pos} {e : Expr} {es : List Expr} {t : TA}
theorem YM {te : XK→TE} (h : Bx (PV X e te)) (hs : swapsWith e none pos.line X.env = pure false:=by rfl) : Bx (PX X [.Expr e pos] (fun E=>WQ (te E))):=⟨UU h.of hs⟩
end
section
end
section
variable {X : Cx} {k : Nat} {f C : Addr} {fd : FuncData} {ps : List Str} {sp : Sp} {x : Str} {p pos : Pos} {e : Expr} {es : List Expr} {t : TA}
theorem zb9 (c : Callee1 X.prog X.w X.K X.mg X.base x f fd ps k sp) (hr : Room k X.A) (ha : Bx (PA X.nox (e :: es) t)) (hg : Gl X x:=by rfl) (hdb : (x == ("__debug__" : Str)) = false:=by decide) (he : starEach (e :: es) X.env = (false,eval e X.env) :: starEach es X.env:=by rfl) (hpl : (backTo pos (starEach es X.env)).any (·.1) = false:=by rfl) : Bx (PV X (.Call (.Name x p) (e :: es) [] pos) (fun E=>uy sp [] E t)):=⟨zrj c hr ha.of hg hdb he hpl⟩
end
section
end
section
variable {X : Cx} {tg : Expr}
theorem WH {e : Expr} {te : TE} (he : Bx (PE X e te)) : Bx (PI X tg e (zqA te)):=⟨zdP he.of⟩
theorem vK {a : Expr} {ta : TA} {p pos : Pos} (hg : Gl X "reversed") (hm : X.mg "reversed" = none) (ha : Bx (PA X [a] ta)) (hs : starEach [a] X.env = [(false,eval a X.env)]:=by rfl) : Bx (PI X tg (.Call (.Name "reversed" p) [a] [] pos) (zqB X.K ta)):=⟨Zu hg hm ha.of hs⟩
end
section
theorem YR {X : Cx} {es : List Expr} {n : Nat} {tp : Pos} {a : Expr} {ta : TA} {p pos : Pos} (hg : Gl X "enumerate") (hm : X.mg "enumerate" = none) (ha : Bx (PA X [a] ta)) (hs : starEach [a] X.env = [(false,eval a X.env)]:=by rfl) : Bx (PI X (.Tuple es n tp) (.Call (.Name "enumerate" p) [a] [] pos) (zev X.K ta)):=⟨U3 hg hm ha.of hs⟩
end
section
variable {X : Cx}
variable {o e f : Expr} {apos cpos : Pos} {td ty tx : TE}
theorem Yn (ho : Bx (PE X o td)) (he : Bx (PE X e ty)) (hf : Bx (PE X f tx)) (m : M2 X o "get" apos e f cpos) : Bx (PE X (.Call (.Attribute o "get" apos) [e,f] [] cpos) (VW X.w X.K td ty tx)):=⟨W2 ho.of he.of hf.of m⟩
end
section
variable {X : Cx} {m : Str} {o e : Expr} {es : List Expr} {ta : TE} {t : TA} {apos pos : Pos}
end
section
variable {X : Cx} {o value : Expr} {f : Str} {pos pos' : Pos} {ta tv : TE}
theorem YQ (ha : Bx (PE X o ta)) (hv : Bx (PE X value tv)) (hs : swapsWith value (some (.Attribute o f pos')) pos.line X.env = pure false) : Bx (PS X (.Assign [.Attribute o f pos'] value pos) (zdy X.K ta tv f)):=⟨U0 ha.of hv.of hs⟩
end
section
variable {P : Program} {w : World} {K : PySem.W.Frag} {mg : Str→Option Value} {base : Heap} {N : List Str} {qual : Str} {scope : Scope} {f : Addr} {cd : Value} {A : Around} {outer : List Env} {s0 : Shared} {H0 : Hp} {E : XK}
theorem xX (c : XInit P w K mg base x C g fd ps k fld) (hc : (A.deeper (envOfC qual scope s0.heap.objs.size f cd)).handled = none) (hr : Room (k + 1) (yy (CX1 P w) P w K mg base N qual scope f cd A outer s0 H0 E).A) (ha : Bx (PA (yy (CX1 P w) P w K mg base N qual scope f cd A outer s0 H0 E) (e :: es) t)) (hg : Gl (yy (CX1 P w) P w K mg base N qual scope f cd A outer s0 H0 E) x:=by rfl) (he : starEach (e :: es) (yy (CX1 P w) P w K mg base N qual scope f cd A outer s0 H0 E).env = (false,eval e (yy (CX1 P w) P w K mg base N qual scope f cd A outer s0 H0 E).env) :: starEach es (yy (CX1 P w) P w K mg base N qual scope f cd A outer s0 H0 E).env:=by rfl) (hpl : (backTo cpos (starEach es (yy (CX1 P w) P w K mg base N qual scope f cd A outer s0 H0 E).env)).any (·.1) = false:=by rfl) (hdb : (x == ("__debug__" : Str)) = false:=by decide) : Bx (PS (yy (CX1 P w) P w K mg base N qual scope f cd A outer s0 H0 E) (.Raise (some (.Call (.Name x np) (e :: es) [] cpos)) none pos) (zjD C fld E t)):=⟨Xl c hc hr ha.of hg he hpl hdb⟩
end
section
variable {X : Cx} {suite : List Stmt} {b0 : Stmt} {i : Nat} {x n : Str} {C1 : Addr} {np hpos : Pos} {th : TS} {tr : Addr→Option Addr→TS} {rest : List ExceptHandler}
end
section
end
section
variable {P : Program} {w : World} {K : PySem.W.Frag} {mg : Str→Option Value} {base : Heap} {N : List Str} {qual : Str} {scope : Scope} {f : Addr} {cd : Value} {A : Around} {outer : List Env} {s0 : Shared} {H0 : Hp} {E : XK}
theorem Uz (c : Maker1 P w K mg base x C f' fd ps k sp) (hr : Room (k + 1) (yy (CX1 P w) P w K mg base N qual scope f cd A outer s0 H0 E).A) (ha : Bx (PA (yy (CX1 P w) P w K mg base N qual scope f cd A outer s0 H0 E) (e :: es) t)) (hg : Gl (yy (CX1 P w) P w K mg base N qual scope f cd A outer s0 H0 E) x:=by rfl) (hdb : (x == ("__debug__" : Str)) = false:=by decide) (he : starEach (e :: es) (yy (CX1 P w) P w K mg base N qual scope f cd A outer s0 H0 E).env = (false,eval e (yy (CX1 P w) P w K mg base N qual scope f cd A outer s0 H0 E).env) :: starEach es (yy (CX1 P w) P w K mg base N qual scope f cd A outer s0 H0 E).env:=by rfl) (hpl : (backTo pos (starEach es (yy (CX1 P w) P w K mg base N qual scope f cd A outer s0 H0 E).env)).any (·.1) = false:=by rfl) : Bx (PE (yy (CX1 P w) P w K mg base N qual scope f cd A outer s0 H0 E) (.Call (.Name x p) (e :: es) [] pos) (Y1 C sp [] E t)):=⟨zjj c hr ha.of hg hdb he hpl⟩
end
section
variable {X : Cx} {body suite suite2 : List Stmt} {b0 c0 : Stmt} {i i2 : Nat} {x n x2 n2 : Str} {C1 C2 : Addr} {np hpos np2 hpos2 pos : Pos} {tb : XK→TS} {th th2 : TS}
theorem YO (hst : X.stack = X.env :: X.outer) (hfr : X.env.frame = some X.env.locals) (hN : X.N.Nodup) (hi : X.N[i]? = some n) (hk : X.env.scope.names.lookup n = some .local) (c : XAny X.K C1) (hm : X.mg x = some (.ref C1)) (hb : Bx (PX X body tb)) (hh : ∀ a,Bx (PSs (X.inH a) (b0 :: suite) th)) (hg : Gl X x:=by rfl) (hdb : (x == ("__debug__" : Str)) = false:=by decide) : Bx (PS X (.Try body [.ExceptHandler (some (.Name x np)) (some n) (b0 :: suite) hpos] [] [] pos) (UD tb (ziC X.K C1 i th ziB))):=⟨UZ hst hfr hN hi hk c hm hb.of (fun x0=>(hh x0).of) hg hdb⟩
end
section
theorem YS {X : Cx} {K : PySem.W.Frag} {e : Expr} {f : Str} {pos : Pos} {ta : TE} (hK : X.K = K) (he : Bx (PE X e ta)) (hb : attributeBase e f X.env (eval e X.env) = eval e X.env) : Bx (PE X (.Attribute e f pos) (UF K ta f)):=⟨U7 hK he.of hb⟩
end
end L2

namespace L2
open PySem PySem.Spec PyProof.Rows PySem.Builtin PySem.Builtin.Str
section
variable {X : Cx}
def zre : V→Option Int→Option Int→Hp→VK→Prop:=fun x lo hi H Q=>∃ z,x = .str z∧z.length ≤ sizeLine∧Q (.str (Txt.slice z lo hi)) H
theorem V6 : SlR X zre:=by
  intro pins s σ H x v vl vu lo hi sl Q I rx hs pl pu h
  obtain ⟨z,rfl,hz,q⟩:=h
  obtain ⟨t,rfl⟩:=rx
  refine ⟨"str",_,F.slot_str_getitem.lookup,typeIs_str _ _ _,?_⟩
  cases pl with
  | none =>
    cases pu with
    | none=>exact wpAny_getItem_str_slice (l:=none) (u:=none) (st:=none) hs rfl (post_val_or_str ⟨Nat.le_trans (Txt.slice_le z _ _) hz,fun t' k=>⟨.str _,H,I.tok _,⟨_,rfl⟩,q⟩⟩)
    | int j u=>exact wpAny_getItem_str_slice (l:=none) (u:=some (j,u)) (st:=none) hs rfl (post_val_or_str ⟨Nat.le_trans (Txt.slice_le z _ _) hz,fun t' k=>⟨.str _,H,I.tok _,⟨_,rfl⟩,q⟩⟩)
  | int i v =>
    cases pu with
    | none=>exact wpAny_getItem_str_slice (l:=some (i,v)) (u:=none) (st:=none) hs rfl (post_val_or_str ⟨Nat.le_trans (Txt.slice_le z _ _) hz,fun t' k=>⟨.str _,H,I.tok _,⟨_,rfl⟩,q⟩⟩)
    | int j u=>exact wpAny_getItem_str_slice (l:=some (i,v)) (u:=some (j,u)) (st:=none) hs rfl (post_val_or_str ⟨Nat.le_trans (Txt.slice_le z _ _) hz,fun t' k=>⟨.str _,H,I.tok _,⟨_,rfl⟩,q⟩⟩)
end
end L2

namespace K04
open PySem L2 PySem.NumText PySem.W.KIN
theorem wR {x y : Str} (h : x.cps.toList = y.cps.toList) : x = y:=by
  apply Str.ext'
  exact Array.toList_inj.mp h
def dg (m : Nat) : List Nat:=(Nat.toDigits 10 m).map Char.toNat
theorem Wf {m : Nat} (h : m < 10) : dg m = [48 + m]:=by
  unfold dg
  rw [Nat.toDigits_of_lt_base h]
  have : ∀ d : Nat,d < 10→(Nat.digitChar d).toNat = 48 + d:=by decide
  show [(Nat.digitChar m).toNat] = _
  rw [this m h]
theorem ZD {m : Nat} (h : ¬ m < 10) : dg m = dg (m / 10) ++ [48 + m % 10]:=by
  have hm : m % 10 < 10:=Nat.mod_lt m (by decide)
  have t : Nat.toDigits 10 (m / 10) ++ Nat.toDigits 10 (m % 10) = Nat.toDigits 10 (10 * (m / 10) + m % 10):=Nat.toDigits_append_toDigits (by decide) (by omega) hm
  rw [Nat.div_add_mod] at t
  rw [← Wf hm]
  unfold dg
  rw [← t,List.map_append]
theorem vI (m : Nat) : AllDigits (dg m):=by
  intro c hc
  obtain ⟨ch,hch,e⟩:=List.mem_map.mp hc
  have r:=PyProof.Rows.digit_range (Nat.isDigit_of_mem_toDigits (by decide) (by decide) hch)
  rw [← e]
  exact r
theorem dg_ne (m : Nat) : dg m ≠ []:=by
  by_cases h : m < 10
  · rw [Wf h]; simp
  · rw [ZD h]; simp
theorem Us : ∀ (k m : Nat),m < 10 ^ (k + 1)→(dg m).length ≤ k + 1
  | 0,m,h=>by rw [Wf (by simpa using h)]; simp
  | k + 1,m,h=>by
    by_cases q : m < 10
    · rw [Wf q]; simp
    · rw [ZD q,List.length_append]
      have:=Us k (m / 10) (by rw [Nat.pow_succ] at h; omega)
      simp
      omega
theorem zaB (m : Nat) (h : 0 < m) : ∃ c r,dg m = c :: r∧49 ≤ c∧c ≤ 57:=by
  induction m using Nat.strongRecOn with
  | _ m ih =>
    by_cases q : m < 10
    · exact ⟨48 + m,[],Wf q,by omega,by omega⟩
    · obtain ⟨c,r,e,b⟩:=ih (m / 10) (by omega) (by omega)
      exact ⟨c,r ++ [48 + m % 10],by rw [ZD q,e]; rfl,b⟩
theorem Ur (m : Nat) : digitsVal (dg m) = m:=val_back m
def nT (i : Int) : Str:=toString i
theorem vF (m : Nat) : (nT (m : Int)).cps.toList = dg m:=signs_num m
theorem vE (m : Nat) : (nT (Int.negSucc m)).cps.toList = 45 :: dg (m + 1):=by
  unfold nT
  show (Str.ofString (toString (Int.negSucc m))).cps.toList = _
  rw [PyProof.Rows.signs_ofString]
  show ("-" ++ Nat.repr (m + 1)).toList.map Char.toNat = _
  rw [String.toList_append,List.map_append,Nat.toList_repr]
  rfl
abbrev VS (i : Int) : Prop:=-100000000000000000000 < i∧i < 100000000000000000000
theorem Yh {m : Nat} (h : m < 100000000000000000000) : (dg m).length ≤ 20:=Us 19 m (by simpa using h)
theorem XO {i : Int} (h : VS i) : (nT i).length ≤ 21:=by
  show (nT i).cps.size ≤ 21
  rw [← Array.length_toList]
  obtain ⟨h1,h2⟩:=h
  cases i with
  | ofNat m =>
    have e : (nT (Int.ofNat m)).cps.toList = dg m:=vF m
    rw [e]
    have h2 : (m : Int) < 100000000000000000000:=h2
    have:=Yh (m:=m) (by omega)
    omega
  | negSucc m =>
    rw [vE,List.length_cons]
    have:=Yh (m:=m + 1) (by omega)
    omega
theorem Vn {i : Int} (h : VS i) : intText? (nT i) = some i:=by
  have hl:=XO h
  clear h
  cases i with
  | ofNat m =>
    have e : (nT (Int.ofNat m)).cps.toList = dg m:=vF m
    have r:=intText_digits (x:=nT (Int.ofNat m)) (by rw [e]; exact vI m) (by rw [e]; exact dg_ne m) (by omega)
    rw [e,Ur] at r
    exact r
  | negSucc m =>
    have r:=intText_neg (vE m) (vI _) (dg_ne _) (by omega)
    rw [Ur] at r
    exact r
theorem XJ {i : Int} {c : Nat} (h : c ∈ (nT i).cps.toList) : c = 45∨(48 ≤ c∧c ≤ 57):=by
  match i,h with
  | .ofNat m,h =>
    have e : (nT (Int.ofNat m)).cps.toList = dg m:=vF m
    rw [e] at h
    exact .inr (vI m c h)
  | .negSucc m,h =>
    rw [vE] at h
    rcases List.mem_cons.mp h with rfl | h
    · exact .inl rfl
    · exact .inr (vI _ c h)
theorem Vo {i : Int} : ∃ c r,(nT i).cps.toList = c :: r∧(c = 45∨(48 ≤ c∧c ≤ 57)):=by
  cases e : (nT i).cps.toList with
  | nil =>
    match i,e with
    | .ofNat m,e =>
      have e' : (nT (Int.ofNat m)).cps.toList = dg m:=vF m
      rw [e'] at e
      exact absurd e (dg_ne m)
    | .negSucc m,e=>rw [vE] at e; cases e
  | cons c r=>exact ⟨c,r,rfl,XJ (by rw [e]; exact List.mem_cons_self ..)⟩
theorem starts_one (x : Str) (c : Nat) : Txt.startswith x ⟨#[c]⟩ = decide (x.cps.toList.head? = some c):=by
  rw [Bool.eq_iff_iff,decide_eq_true_eq]
  unfold Txt.startswith
  rw [Bool.and_eq_true,decide_eq_true_eq,StrLaws.subAt_one,List.head?_eq_getElem?]
theorem xZ {x : Str} {c : Nat} {r : List Nat} (h : x.cps.toList = c :: r) : (Txt.slice x (some 1) none).cps.toList = r:=by
  have hl : x.length = r.length + 1:=by
    show x.cps.size = _
    rw [← Array.length_toList,h]; rfl
  have e:=eq_of_beq (PyProof.Rows.slice_closes_fromL (x:=x) (i:=1) (b:=x.length) (by decide) (by omega) rfl)
  rw [e,h]
  show ((List.drop 1 (c :: r)).take _) = r
  rw [List.drop_succ_cons,List.drop_zero]
  exact List.take_of_length_le (by omega)
theorem vB {x : Str} (h : x.length ≤ 22) : Txt.slice x none (some 22) = x:=by
  rw [PyProof.Rows.slice_to_beyond (by omega)]
  have e:=eq_of_beq (PyProof.Rows.slice_closes_toL (x:=x) (j:=x.length) (by omega) (by omega))
  rw [e]
  apply wR
  show ((x.cps.toList.drop 0).take _) = _
  rw [List.drop_zero]
  exact List.take_of_length_le (by rw [Array.length_toList]; show x.length ≤ _; omega)
def u9 (c : Nat) : Bool:=decide (c ∈ ("0123456789" : Str).cps.toList)
theorem Vy {c : Nat} (h : 48 ≤ c∧c ≤ 57) : u9 c = true:=by
  have : ∀ d : Nat,d < 58→48 ≤ d→u9 d = true:=by decide +kernel
  exact this c (by omega) h.1
def yk (x : Str) : Str:=if Txt.startswith x "-" then Txt.slice x (some 1) none else x
def tailW (x : Str) : Bool:=decide (yk x ≠ "") && (decide (x = "0") || !Txt.startswith (yk x) "0")
def numW (x : Str) : Bool:=(yk x).cps.toList.all u9 && tailW x
theorem wq : ("-" : Str) = ⟨#[45]⟩:=by decide +kernel
theorem zero_one : ("0" : Str) = ⟨#[48]⟩:=by decide +kernel
theorem VH (m : Nat) : yk (nT (Int.ofNat m)) = nT (Int.ofNat m):=by
  unfold yk
  rw [wq,starts_one]
  have e : (nT (Int.ofNat m)).cps.toList = dg m:=vF m
  rw [e]
  refine if_neg ?_
  rw [decide_eq_true_eq]
  intro z
  have:=vI m 45 (List.mem_of_mem_head? z)
  omega
theorem VG (m : Nat) : (yk (nT (Int.negSucc m))).cps.toList = dg (m + 1):=by
  unfold yk
  rw [wq,starts_one,vE]
  rw [if_pos (by rfl)]
  exact xZ (vE m)
theorem zec (i : Int) : numW (nT i) = true:=by
  have fin : ∀ {x f : Str} {m : Nat},yk x = f→f.cps.toList = dg m→(m = 0→x = "0")→numW x = true:=by
    intro x f m e1 e2 hz
    unfold numW tailW
    rw [e1,zero_one,starts_one,e2]
    have a1 : (dg m).all u9 = true:=List.all_eq_true.mpr fun c hc=>Vy (vI m c hc)
    have a2 : decide (f ≠ "") = true:=by
      rw [decide_eq_true_eq]
      intro z
      rw [z] at e2
      exact dg_ne m e2.symm
    rw [a1,a2]
    by_cases q : m = 0
    · rw [decide_eq_true (by rw [← zero_one]; exact hz q)]; rfl
    · obtain ⟨c,r,e,b⟩:=zaB m (by omega)
      rw [e]
      have : decide ((c :: r).head? = some 48) = false:=by
        rw [decide_eq_false_iff_not]
        intro z
        have : c = 48:=by simpa using z
        omega
      rw [this]
      simp
  match i with
  | .ofNat m=>exact fin (VH m) (vF m) fun z=>by subst z; decide +kernel
  | .negSucc m=>exact fin rfl (VG m) fun z=>by omega
theorem contains_one (x : Str) (c : Nat) : Txt.contains x ⟨#[c]⟩ = decide (c ∈ x.cps.toList):=StrLaws.found_one x c
def uj (c : Nat) : List (List Nat)→List Nat
  | []=>[]
  | [x]=>x
  | x :: y :: r=>x ++ c :: uj c (y :: r)
theorem xb (c : Nat) : ∀ ws : List Str,(Str.join ⟨#[c]⟩ ws).cps.toList = uj c (ws.map (·.cps.toList))
  | []=>rfl
  | [x]=>rfl
  | x :: y :: r=>by
    show (x ++ ⟨#[c]⟩ ++ Str.join ⟨#[c]⟩ (y :: r)).cps.toList = _
    rw [Str.cps_append,Str.cps_append,Array.toList_append,Array.toList_append,xb c (y :: r)]
    simp [uj]
theorem Wi {c : Nat} : ∀ {x y a b : List Nat},c ∉ x→c ∉ y→x ++ c :: a = y ++ c :: b→x = y∧a = b
  | [],[],a,b,_,_,h=>⟨rfl,by simpa using h⟩
  | [],y :: ys,a,b,_,hy,h=>by
    have : c = y:=by simpa using (List.cons.inj h).1
    exact absurd (this ▸ List.mem_cons_self ..) hy
  | x :: xs,[],a,b,hx,_,h=>by
    have : x = c:=by simpa using (List.cons.inj h).1
    exact absurd (this ▸ List.mem_cons_self ..) hx
  | x :: xs,y :: ys,a,b,hx,hy,h=>by
    have e:=List.cons.inj h
    obtain ⟨h1,h2⟩:=Wi (fun z=>hx (List.mem_cons_of_mem _ z)) (fun z=>hy (List.mem_cons_of_mem _ z)) e.2
    exact ⟨by rw [e.1,h1],h2⟩
theorem Ye {c : Nat} : ∀ {us vs : List (List Nat)},us ≠ []→vs ≠ []→(∀ u ∈ us,c ∉ u)→(∀ v ∈ vs,c ∉ v)→uj c us = uj c vs→us = vs
  | [u],[v],_,_,_,_,h=>by
    have : u = v:=h
    rw [this]
  | [u],v :: v' :: vs,_,_,hu,_,h=>by
    have h : u = v ++ c :: uj c (v' :: vs):=h
    have:=hu u (List.mem_singleton.mpr rfl)
    rw [h] at this
    exact absurd (by simp) this
  | u :: u' :: us,[v],_,_,_,hv,h=>by
    have h : u ++ c :: uj c (u' :: us) = v:=h
    have:=hv v (List.mem_singleton.mpr rfl)
    rw [← h] at this
    exact absurd (by simp) this
  | u :: u' :: us,v :: v' :: vs,_,_,hu,hv,h=>by
    have h : u ++ c :: uj c (u' :: us) = v ++ c :: uj c (v' :: vs):=h
    obtain ⟨e1,e2⟩:=Wi (hu u (List.mem_cons_self ..)) (hv v (List.mem_cons_self ..)) h
    have ih:=Ye (us:=u' :: us) (vs:=v' :: vs) (by simp) (by simp) (fun x hx=>hu x (List.mem_cons_of_mem _ hx)) (fun x hx=>hv x (List.mem_cons_of_mem _ hx)) e2
    rw [e1,ih]
theorem XT : ∀ {us vs : List Str},us.map (·.cps.toList) = vs.map (·.cps.toList)→us = vs
  | [],[],_=>rfl
  | [],_ :: _,h=>by cases h
  | _ :: _,[],h=>by cases h
  | u :: us,v :: vs,h=>by
    have e:=List.cons.inj h
    rw [wR e.1,XT e.2]
theorem ZO (x y : Str) : Txt.split x y ≠ []:=by
  unfold Txt.split
  split
  · simp
  · split
    · simp
    · rw [StrLaws.partsBetween_eq]
      obtain ⟨p,r,e⟩:=StrLaws.partsFrom_ne x y.length 0 (Builtin.Str.occurrences x y 0 x.length (x.length + 1))
      rw [e]; simp
theorem xO {c : Nat} {ws : List Str} (hn : ws ≠ []) (hf : ∀ w ∈ ws,c ∉ w.cps.toList) : Txt.split (Txt.join ⟨#[c]⟩ ws) ⟨#[c]⟩ = ws:=by
  have e0 : Txt.join ⟨#[c]⟩ ws = Str.join ⟨#[c]⟩ ws:=StrLaws.glued_eq_join _ _
  have e1:=StrLaws.join_split (Txt.join ⟨#[c]⟩ ws) ⟨#[c]⟩
  have e2 : (Str.join ⟨#[c]⟩ (Txt.split (Txt.join ⟨#[c]⟩ ws) ⟨#[c]⟩)).cps.toList = (Str.join ⟨#[c]⟩ ws).cps.toList:=by rw [e1,e0]
  rw [xb,xb] at e2
  refine XT (Ye (c:=c) (by simpa using ZO _ _) (by simpa using hn) ?_ ?_ e2)
  · intro u hu
    obtain ⟨p,hp,rfl⟩:=List.mem_map.mp hu
    exact StrLaws.split_free _ c p hp
  · intro u hu
    obtain ⟨p,hp,rfl⟩:=List.mem_map.mp hu
    exact hf p hp
theorem wl (x y : Str) : (Builtin.Str.partsBetween x (Builtin.Str.occurrences x y 0 x.length (x.length + 1)) y.length).length ≤ x.length + 2:=by
  unfold Builtin.Str.partsBetween
  have:=StrLaws.occ_length_le x y 0 x.length (x.length + 1)
  simp
  omega
end K04

namespace K04
open PySem L2
abbrev allNs : List Str:=["worth", "me", "round", "lines", "to", "sum", "least", "most", "count"]
abbrev rowWs : List Str:=["start", "send", "when", "reckon"]
abbrev xk : List (Str × Int):=[("add",2),("sub",2),("min",2),("max",2),("mod",2),("less",4)]
def zjt (w : Str) (es : List Ex) : Option (List Ex):=match intText? w with
  | some n=>if w.length ≤ 22 then some (.num n :: es) else none
  | none=>none
def zao : List Ex→Option (List Ex)
  | e1 :: e2 :: e3 :: e4 :: r=>some (.less e1 e2 e3 e4 :: r)
  | _=>none
def zju : List Ex→Option (List Ex)
  | e1 :: .num n :: r=>some (.mod e1 n :: r)
  | _=>none
def ziA (w : Str) : List Ex→Option (List Ex)
  | e1 :: e2 :: r=>some (.two w e1 e2 :: r)
  | _=>none
def we (w : Str) (es : List Ex) : Option (List Ex) :=
  if inV (.str w) (allNs.map V.str) = true then some (.name w :: es)
  else if numW w = true then zjt w es
  else if w = "less" then zao es
  else if w = "mod" then zju es
  else if w ∈ twoWs then ziA w es
  else none
theorem less_no : inV (.str "less") (allNs.map V.str) = false∧numW "less" = false∧xV xk "less" = some 4:=by decide +kernel
theorem mod_no : inV (.str "mod") (allNs.map V.str) = false∧numW "mod" = false∧xV xk "mod" = some 2:=by decide +kernel
theorem xE {w : Str} (h : VR w) : inV (.str w) (allNs.map V.str) = false∧numW w = false∧xV xk w = some 2:=by
  rcases h with rfl | rfl | rfl | rfl <;> decide +kernel
theorem YU {w : Str} (h : VR w) : w ≠ "less" ∧ w ≠ "mod" := by
  rcases h with rfl | rfl | rfl | rfl <;> decide +kernel
theorem vM {w : Str} {i : Int} (h : xV xk w = some i) : w = "less" ∨ w = "mod" ∨ VR w:=by
  unfold xV at h
  obtain ⟨p,hp,_⟩:=Option.map_eq_some_iff.mp h
  have hm:=List.mem_of_find?_eq_some hp
  have he:=List.find?_some hp
  have he : p.1 = w:=by simpa using he
  subst he
  simp only [List.mem_cons,List.not_mem_nil,or_false] at hm
  rcases hm with rfl | rfl | rfl | rfl | rfl | rfl
  · exact .inr (.inr (.inl rfl))
  · exact .inr (.inr (.inr (.inl rfl)))
  · exact .inr (.inr (.inr (.inr (.inl rfl))))
  · exact .inr (.inr (.inr (.inr (.inr rfl))))
  · exact .inr (.inl rfl)
  · exact .inl rfl
theorem ZK {w : Str} (h : inV (.str w) (allNs.map V.str) = true∨numW w = true) : xV xk w = none:=by
  cases e : xV xk w with
  | none=>rfl
  | some i =>
    have z : inV (.str w) (allNs.map V.str) = false∧numW w = false:=by
      rcases vM e with rfl | rfl | t
      · exact ⟨less_no.1,less_no.2.1⟩
      · exact ⟨mod_no.1,mod_no.2.1⟩
      · exact ⟨(xE t).1,(xE t).2.1⟩
    rw [z.1,z.2] at h
    rcases h with h | h <;> cases h
def rdO (w : Str) (acc : Option (List Ex)) : Option (List Ex):=acc.bind (we w)
theorem XN (i : Int) : inV (.str (nT i)) (allNs.map V.str) = false:=by
  rw [Bool.eq_false_iff]
  intro h
  have h:=inV_str.mp h
  obtain ⟨c,r,e,hc⟩:=Vo (i:=i)
  have : ∀ x ∈ allNs,∀ c,x.cps.toList.head? = some c→58 ≤ c:=by
    intro x hx c hc
    have all : allNs.all (fun x=>match x.cps.toList.head? with | some c=>decide (58 ≤ c) | none=>true) = true:=by decide +kernel
    have:=List.all_eq_true.mp all x hx
    rw [hc] at this
    simpa using this
  have:=this _ h c (by rw [e]; rfl)
  omega
theorem ZN {i : Int} (h : VS i) (st : List Ex) : we (nT i) st = some (.num i :: st):=by
  have hl:=XO h
  unfold we
  rw [if_neg (by rw [XN]; simp),if_pos (zec i)]
  unfold zjt
  rw [Vn h]
  exact if_pos (by omega)
theorem Y4 {x : Str} (h : x ∈ allNs) (st : List Ex) : we x st = some (.name x :: st):=by
  unfold we
  exact if_pos (inV_str.mpr h)
theorem Y5 (e1 e2 e3 e4 : Ex) (r : List Ex) : we "less" (e1 :: e2 :: e3 :: e4 :: r) = some (.less e1 e2 e3 e4 :: r):=by
  unfold we
  rw [if_neg (by rw [less_no.1]; simp),if_neg (by rw [less_no.2.1]; simp),if_pos rfl]
  rfl
theorem WU (e1 : Ex) (n : Int) (r : List Ex) : we "mod" (e1 :: .num n :: r) = some (.mod e1 n :: r):=by
  unfold we
  rw [if_neg (by rw [mod_no.1]; simp),if_neg (by rw [mod_no.2.1]; simp),if_neg (by decide +kernel),if_pos rfl]
  rfl
theorem WT {w : Str} (h : VR w) (e1 e2 : Ex) (r : List Ex) : we w (e1 :: e2 :: r) = some (.two w e1 e2 :: r):=by
  unfold we
  rw [if_neg (by rw [(xE h).1]; simp),if_neg (by rw [(xE h).2.1]; simp),if_neg (YU h).1,if_neg (YU h).2,if_pos (by simpa using h)]
  rfl
theorem xh {names : List Str} (sub : ∀ x ∈ names,x ∈ allNs) : ∀ (e : Ex),e.ok names→∀ st,e.words.foldr rdO (some st) = some (e :: st)
  | .num i,o,st=>ZN o st
  | .name x,o,st=>Y4 (sub x o) st
  | .two w e f,⟨hw,o1,o2⟩,st=>by
    show rdO w ((e.words ++ f.words).foldr rdO (some st)) = _
    rw [List.foldr_append,xh sub f o2,xh sub e o1]
    exact WT hw e f st
  | .mod e n,⟨hn,o1⟩,st=>by
    show rdO "mod" ((e.words ++ [nT n]).foldr rdO (some st)) = _
    rw [List.foldr_append]
    show rdO "mod" (e.words.foldr rdO (we (nT n) st)) = _
    rw [ZN ⟨by omega,by omega⟩,xh sub e o1]
    exact WU e n st
  | .less e f g h,⟨o1,o2,o3,o4⟩,st=>by
    show rdO "less" ((e.words ++ (f.words ++ (g.words ++ h.words))).foldr rdO (some st)) = _
    rw [List.foldr_append,List.foldr_append,List.foldr_append,xh sub h o4,xh sub g o3,xh sub f o2,xh sub e o1]
    exact Y5 e f g h st
def ui (w : Str) : Prop:=(∀ c ∈ w.cps.toList,33 ≤ c∧c < 127)∧w.length ≤ 21
def ZZ (w : Str) : Bool:=w.cps.toList.all (fun c=>decide (33 ≤ c∧c < 127)) && decide (w.length ≤ 21)
theorem wk {w : Str} (h : ZZ w = true) : ui w:=by
  unfold ZZ at h
  obtain ⟨h1,h2⟩:=Bool.and_eq_true_iff.mp h
  exact ⟨fun c hc=>of_decide_eq_true (List.all_eq_true.mp h1 c hc),of_decide_eq_true h2⟩
theorem uP {i : Int} (h : VS i) : ui (nT i):=⟨fun c hc=>by have:=XJ hc; omega,XO h⟩
theorem Xp : ∀ x ∈ allNs,ui x:=fun x hx=>by
  have : allNs.all ZZ = true:=by decide +kernel
  exact wk (List.all_eq_true.mp this x hx)
theorem vb : ∀ x ∈ rowWs,ui x:=fun x hx=>by
  have : rowWs.all ZZ = true:=by decide +kernel
  exact wk (List.all_eq_true.mp this x hx)
theorem Xo {w : Str} (h : VR w) : ui w:=by
  rcases h with rfl | rfl | rfl | rfl <;> exact wk (by decide +kernel)
theorem yg {names : List Str} (sub : ∀ x ∈ names,x ∈ allNs) : ∀ (e : Ex),e.ok names→∀ w ∈ e.words,ui w
  | .num i,o,w,hw=>by
    rw [List.mem_singleton.mp hw]
    exact uP o
  | .name x,o,w,hw=>by
    rw [List.mem_singleton.mp hw]
    exact Xp x (sub x o)
  | .two v e f,⟨hv,o1,o2⟩,w,hw=>by
    rcases List.mem_cons.mp hw with rfl | hw
    · exact Xo hv
    rcases List.mem_append.mp hw with hw | hw
    · exact yg sub e o1 w hw
    · exact yg sub f o2 w hw
  | .mod e n,⟨hn,o1⟩,w,hw=>by
    rcases List.mem_cons.mp hw with rfl | hw
    · exact wk (by decide +kernel)
    rcases List.mem_append.mp hw with hw | hw
    · exact yg sub e o1 w hw
    · rw [List.mem_singleton.mp hw]
      exact uP (i:=n) ⟨by omega,by omega⟩
  | .less e f g h,⟨o1,o2,o3,o4⟩,w,hw=>by
    rcases List.mem_cons.mp hw with rfl | hw
    · exact wk (by decide +kernel)
    rcases List.mem_append.mp hw with hw | hw
    · exact yg sub e o1 w hw
    rcases List.mem_append.mp hw with hw | hw
    · exact yg sub f o2 w hw
    rcases List.mem_append.mp hw with hw | hw
    · exact yg sub g o3 w hw
    · exact yg sub h o4 w hw
theorem ZL {B : Nat} : ∀ {ws : List Str},(∀ w ∈ ws,w.length ≤ B)→(ws.map (·.length)).sum ≤ ws.length * B
  | [],_=>by simp
  | w :: ws,h=>by
    have:=ZL (ws:=ws) fun x hx=>h x (List.mem_cons_of_mem _ hx)
    have:=h w (List.mem_cons_self ..)
    simp only [List.map_cons,List.sum_cons,List.length_cons,Nat.succ_mul]
    omega
theorem wN {c B : Nat} {ws : List Str} (h : ∀ w ∈ ws,w.length ≤ B) : (Txt.join ⟨#[c]⟩ ws).length ≤ ws.length * B + ws.length:=by
  have e0 : Txt.join ⟨#[c]⟩ ws = Str.join ⟨#[c]⟩ ws:=StrLaws.glued_eq_join _ _
  rw [e0]
  have h1:=StrLaws.join_length_le ⟨#[c]⟩ ws
  have h2:=ZL h
  have e : (⟨#[c]⟩ : Str).length = 1:=rfl
  rw [e] at h1
  omega
theorem XW {c B : Nat} {ws : List Str} (h : ∀ w ∈ ws,w.length ≤ B) (hz : ws.length * B + ws.length ≤ 100000) : JoinOk ⟨#[c]⟩ ws = true:=by
  unfold JoinOk
  rw [StrLaws.joinTotal,Bool.not_eq_true']
  have h2:=ZL h
  have e : (⟨#[c]⟩ : Str).length = 1:=rfl
  rw [e]
  unfold Builtin.Str.tooLong
  have e2 : sizeLine = 16777216:=rfl
  rw [decide_eq_false_iff_not,e2,Nat.mul_one]
  omega
theorem Z3 {c d : Nat} : ∀ {ws : List (List Nat)},d ∈ uj c ws→d = c∨∃ w ∈ ws,d ∈ w
  | [],h=>by cases h
  | [x],h=>.inr ⟨x,List.mem_singleton.mpr rfl,h⟩
  | x :: y :: r,h=>by
    have h : d ∈ x ++ c :: uj c (y :: r):=h
    rcases List.mem_append.mp h with h | h
    · exact .inr ⟨x,List.mem_cons_self ..,h⟩
    rcases List.mem_cons.mp h with h | h
    · exact .inl h
    · rcases Z3 h with h | ⟨w,hw,h⟩
      · exact .inl h
      · exact .inr ⟨w,List.mem_cons_of_mem _ hw,h⟩
theorem mem_join {c d : Nat} {ws : List Str} (h : d ∈ (Txt.join ⟨#[c]⟩ ws).cps.toList) : d = c∨∃ w ∈ ws,d ∈ w.cps.toList:=by
  have e0 : Txt.join ⟨#[c]⟩ ws = Str.join ⟨#[c]⟩ ws:=StrLaws.glued_eq_join _ _
  rw [e0,xb] at h
  rcases Z3 h with h | ⟨w,hw,h⟩
  · exact .inl h
  · obtain ⟨p,hp,rfl⟩:=List.mem_map.mp hw
    exact .inr ⟨p,hp,h⟩
def xr (first : Str) (e : Ex) : Str:=Txt.join " " (first :: e.words)
def Zs (e1 e2 e3 e4 : Ex) : Str:=Txt.join "\n" [xr "start" e1,xr "send" e2,xr "when" e3,xr "reckon" e4]
theorem yx : (" " : Str) = ⟨#[32]⟩:=by decide +kernel
theorem xz : ("\n" : Str) = ⟨#[10]⟩:=by decide +kernel
structure Rdb (e : Ex) : Prop where
  pl : ∀ w ∈ e.words,ui w
  rd : ∀ st,e.words.foldr rdO (some st) = some (e :: st)
  sz : e.size ≤ 60
theorem ZU {names : List Str} (sub : ∀ x ∈ names,x ∈ allNs) {e : Ex} (o : e.ok names) (z : e.size ≤ 60) : Rdb e:=⟨yg sub e o,xh sub e o,z⟩
section
variable {first : Str} {e : Ex} (hf : first ∈ rowWs) (h : Rdb e)
include hf h
theorem xG : ∀ w ∈ first :: e.words,ui w:=fun w hw=>by
  rcases List.mem_cons.mp hw with rfl | hw
  · exact vb _ hf
  · exact h.pl w hw
theorem vT : (first :: e.words).length ≤ 61:=by
  have:=h.sz
  rw [List.length_cons,e.words_len]
  omega
theorem zdz : JoinOk " " (first :: e.words) = true:=by
  rw [yx]
  have:=vT hf h
  exact XW (B:=21) (fun w hw=>(xG hf h w hw).2) (by omega)
theorem w6 : (xr first e).length ≤ 1342:=by
  unfold xr
  rw [yx]
  have:=vT hf h
  have:=wN (c:=32) (B:=21) (fun w hw=>(xG hf h w hw).2)
  omega
theorem wZ : Txt.split (xr first e) " " = first :: e.words:=by
  unfold xr
  rw [yx]
  exact xO (by simp) fun w hw z=>by have:=(xG hf h w hw).1 _ z; omega
theorem xP : 10 ∉ (xr first e).cps.toList:=by
  unfold xr
  rw [yx]
  intro z
  rcases mem_join z with z | ⟨w,hw,z⟩
  · cases z
  · have:=(xG hf h w hw).1 _ z
    omega
end
section
variable {e1 e2 e3 e4 : Ex} (h1 : Rdb e1) (h2 : Rdb e2) (h3 : Rdb e3) (h4 : Rdb e4)
include h1 h2 h3 h4
theorem ZS : ∀ w ∈ [xr "start" e1,xr "send" e2,xr "when" e3,xr "reckon" e4],w.length ≤ 1342:=fun w hw=>by
  simp only [List.mem_cons,List.not_mem_nil,or_false] at hw
  rcases hw with rfl | rfl | rfl | rfl
  · exact w6 (by simp) h1
  · exact w6 (by simp) h2
  · exact w6 (by simp) h3
  · exact w6 (by simp) h4
theorem prog_ok : JoinOk "\n" [xr "start" e1,xr "send" e2,xr "when" e3,xr "reckon" e4] = true:=by
  rw [xz]
  exact XW (ZS h1 h2 h3 h4) (by simp)
theorem WZ : (Zs e1 e2 e3 e4).length ≤ 5372:=by
  unfold Zs
  rw [xz]
  have:=wN (c:=10) (ZS h1 h2 h3 h4)
  simpa using this
theorem Yw : Txt.split (Zs e1 e2 e3 e4) "\n" = [xr "start" e1,xr "send" e2,xr "when" e3,xr "reckon" e4]:=by
  unfold Zs
  rw [xz]
  refine xO (by simp) fun w hw=>?_
  simp only [List.mem_cons,List.not_mem_nil,or_false] at hw
  rcases hw with rfl | rfl | rfl | rfl
  · exact xP (by simp) h1
  · exact xP (by simp) h2
  · exact xP (by simp) h3
  · exact xP (by simp) h4
end
end K04

namespace K04
open PySem L2 PySem.NumText PySem.W.KIN
theorem zeG (x y : Str) : (x ++ y).cps.toList = x.cps.toList ++ y.cps.toList:=by rw [Str.cps_append,Array.toList_append]
theorem zaD (ws : List Str) : (Txt.join " " ws).cps.toList = uj 32 (ws.map (·.cps.toList)):=by
  rw [yx]
  have e0 : Txt.join ⟨#[32]⟩ ws = Str.join ⟨#[32]⟩ ws:=StrLaws.glued_eq_join _ _
  rw [e0,xb]
theorem Wn (x : Str) : x.cps.toList.length = x.length:=Array.length_toList
theorem wT (x : Str) : (Txt.slice x none (some 22)).cps.toList = x.cps.toList.take 22:=by
  by_cases h : x.length ≤ 22
  · rw [vB h,List.take_of_length_le (by rw [Wn]; exact h)]
  · have e:=eq_of_beq (PyProof.Rows.slice_closes_toL (x:=x) (j:=22) (by omega) (by omega))
    rw [show (some 22 : Option Int) = some ((22 : Nat) : Int) from rfl] at e ⊢
    rw [e]
    show ((x.cps.toList.drop 0).take _) = _
    rw [List.drop_zero]
    rfl
theorem zax {l : List Nat} (h : l.all u9 = true) : AllDigits l:=fun c hc=>by
  have:=List.all_eq_true.mp h c hc
  have:=of_decide_eq_true this
  have e : ("0123456789" : Str).cps.toList = [48,49,50,51,52,53,54,55,56,57]:=by decide +kernel
  rw [e] at this
  simp only [List.mem_cons,List.not_mem_nil,or_false] at this
  omega
def Uj (w : Str) : Int:=(intText? (Txt.slice w none (some 22))).getD 0
theorem XI {x : Str} (h : numW x = true) : intText? (Txt.slice x none (some 22)) = some (Uj x):=by
  have key : ∃ n,intText? (Txt.slice x none (some 22)) = some n:=by
    unfold numW at h
    rw [Bool.and_eq_true] at h
    obtain ⟨h1,h2⟩:=h
    have d1:=zax h1
    have hl : (Txt.slice x none (some 22)).length ≤ 22:=by
      rw [← Wn,wT]
      exact Nat.le_trans (List.length_take_le _ _) (Nat.le_refl _)
    have ne : yk x ≠ "" := by
      unfold tailW at h2
      rw [Bool.and_eq_true] at h2
      exact of_decide_eq_true h2.1
    have ne' : (yk x).cps.toList ≠ []:=fun z=>ne (wR (by rw [z]; decide +kernel))
    by_cases q : Txt.startswith x "-" = true
    · have q':=q
      rw [wq,starts_one,decide_eq_true_eq] at q'
      cases e : x.cps.toList with
      | nil=>rw [e] at q'; cases q'
      | cons c r =>
        rw [e] at q'
        have hc : c = 45:=Option.some.inj q'
        subst hc
        have ef : (yk x).cps.toList = r:=by
          unfold yk
          rw [if_pos q]
          exact xZ e
        rw [ef] at d1 ne'
        refine ⟨_,intText_neg (cs:=r.take 21) ?_ (fun c hc=>d1 c (List.mem_of_mem_take hc)) ?_ (by omega)⟩
        · rw [wT,e]
          rfl
        · intro z
          cases r with
          | nil=>exact ne' rfl
          | cons a b=>cases z
    · have ef : yk x = x:=by
        unfold yk
        exact if_neg q
      rw [ef] at d1 ne'
      refine ⟨_,intText_digits (x:=Txt.slice x none (some 22)) ?_ ?_ (by omega)⟩
      · rw [wT]
        exact fun c hc=>d1 c (List.mem_of_mem_take hc)
      · rw [wT]
        intro z
        cases hx : x.cps.toList with
        | nil=>exact ne' hx
        | cons a b=>rw [hx] at z; cases z
  obtain ⟨n,e⟩:=key
  unfold Uj
  rw [e]
  rfl
def yR (w : Str) (es : List Ex) : Option (List Ex) :=
  if inV (.str w) (allNs.map V.str) = true then some (.name w :: es)
  else if numW w = true then some (.num (Uj w) :: es)
  else if w = "less" then zao es
  else if w = "mod" then zju es
  else if w ∈ twoWs then ziA w es
  else none
theorem zdp {w : Str} {es es' : List Ex} (h : we w es = some es') : yR w es = some es':=by
  unfold we at h
  unfold yR
  split at h
  · rename_i h1
    rw [if_pos h1]
    exact h
  · rename_i h1
    rw [if_neg h1]
    split at h
    · rename_i h2
      rw [if_pos h2]
      unfold zjt at h
      split at h
      · rename_i n hn
        split at h
        · rename_i hl
          rw [← h]
          unfold Uj
          rw [vB hl,hn]
          rfl
        · cases h
      · cases h
    · rename_i h2
      rw [if_neg h2]
      exact h
def rdG (w : Str) (acc : Option (List Ex)) : Option (List Ex):=acc.bind (yR w)
theorem vU : ∀ ws : List Str,ws.foldr rdG none = none
  | []=>rfl
  | w :: ws=>by
    show rdG w (ws.foldr rdG none) = none
    rw [vU ws]; rfl
theorem zi7 : ∀ {ws : List Str} {st es : List Ex},ws.foldr rdO (some st) = some es→ws.foldr rdG (some st) = some es
  | [],_,_,h=>h
  | w :: ws,st,es,h=>by
    have h : rdO w (ws.foldr rdO (some st)) = some es:=h
    show rdG w (ws.foldr rdG (some st)) = some es
    cases e : ws.foldr rdO (some st) with
    | none=>rw [e] at h; cases h
    | some m =>
      rw [e] at h
      rw [zi7 e]
      exact zdp h
def zeS : Option (List Ex)→Option Ex
  | some [e]=>some e
  | _=>none
def xH (ws : List Str) : Option Ex:=zeS (ws.foldr rdG (some []))
def Zj (first row : Str) : Option Ex:=match Txt.split row " " with
  | w :: ws=>if w = first then xH ws else none
  | []=>none
theorem UO {first row : Str} {ws : List Str} (h : Txt.split row " " = first :: ws) : Zj first row = xH ws:=by
  unfold Zj
  rw [h]
  exact if_pos rfl
theorem ZT {first : Str} {e : Ex} (hf : first ∈ rowWs) (h : Rdb e) : Zj first (xr first e) = some e:=by
  rw [UO (wZ hf h)]
  unfold xH
  rw [zi7 (h.rd [])]
  rfl
theorem xY {w : Str} {es : List Ex} (h1 : inV (.str w) (allNs.map V.str) = false) (h2 : numW w = false) :
    (xV xk w = none∧yR w es = none)∨(w = "less" ∧ yR w es = zao es)∨(w = "mod" ∧ yR w es = zju es)∨(VR w∧yR w es = ziA w es):=by
  unfold yR
  rw [if_neg (by rw [h1]; simp),if_neg (by rw [h2]; simp)]
  by_cases h3 : w = "less"
  · exact .inr (.inl ⟨h3,if_pos h3⟩)
  rw [if_neg h3]
  by_cases h4 : w = "mod"
  · exact .inr (.inr (.inl ⟨h4,if_pos h4⟩))
  rw [if_neg h4]
  by_cases h5 : w ∈ twoWs
  · exact .inr (.inr (.inr ⟨by simpa using h5,if_pos h5⟩))
  · refine .inl ⟨?_,if_neg h5⟩
    cases e : xV xk w with
    | none=>rfl
    | some i =>
      rcases vM e with h | h | h
      · exact absurd h h3
      · exact absurd h h4
      · exact absurd (by simpa using h) h5
theorem Yr {w : Str} {es es' : List Ex} (h : yR w es = some es') : ∃ e',es' = e' :: es.drop ((xV xk w).getD 0).toNat:=by
  by_cases h1 : inV (.str w) (allNs.map V.str) = true
  · unfold yR at h
    rw [if_pos h1] at h
    cases h
    exact ⟨_,by rw [ZK (.inl h1)]; rfl⟩
  by_cases h2 : numW w = true
  · unfold yR at h
    rw [if_neg h1,if_pos h2] at h
    cases h
    exact ⟨_,by rw [ZK (.inr h2)]; rfl⟩
  rcases xY (es:=es) (Bool.eq_false_iff.mpr h1) (Bool.eq_false_iff.mpr h2) with ⟨_,e⟩ | ⟨rfl,e⟩ | ⟨rfl,e⟩ | ⟨t,e⟩
  · rw [e] at h; cases h
  · rw [e] at h
    match es,h with
    | e1 :: e2 :: e3 :: e4 :: r,h=>cases h; exact ⟨_,by rw [less_no.2.2]; rfl⟩
  · rw [e] at h
    match es,h with
    | e1 :: .num n :: r,h=>cases h; exact ⟨_,by rw [mod_no.2.2]; rfl⟩
  · rw [e] at h
    match es,h with
    | e1 :: e2 :: r,h=>cases h; exact ⟨_,by rw [(xE t).2.2]; rfl⟩
end K04

namespace K04
open PySem L2 PySem.NumText PySem.W.KIN
theorem Yf {c : Nat} : ∀ {us vs : List (List Nat)},us ≠ []→vs ≠ []→uj c (us ++ vs) = uj c us ++ c :: uj c vs
  | [u],v :: vs,_,_=>rfl
  | u :: u' :: us,v :: vs,_,h=>by
    show u ++ c :: uj c (u' :: us ++ v :: vs) = (u ++ c :: uj c (u' :: us)) ++ c :: uj c (v :: vs)
    rw [Yf (us:=u' :: us) (by simp) h]
    simp
theorem Z7 (x : Str) : Txt.join " " [x] = x:=by
  apply wR
  rw [zaD]
  rfl
theorem UP (us vs : List Str) : xH (us ++ vs) = zeS (us.foldr rdG (vs.foldr rdG (some []))):=by
  unfold xH
  rw [List.foldr_append]
theorem WY (w : Str) (l : List Ex) : rdG w (some l) = yR w l:=rfl
theorem UL {x : Str} (h : x ∈ allNs) (st : List Ex) : yR x st = some (.name x :: st):=by
  unfold yR
  exact if_pos (inV_str.mpr h)
theorem zdw {x : Str} (h1 : inV (.str x) (allNs.map V.str) = false) (h2 : numW x = true) (st : List Ex) : yR x st = some (.num (Uj x) :: st):=by
  unfold yR
  rw [if_neg (by rw [h1]; simp),if_pos h2]
structure Fg (x : Str) (n : Int) : Prop where
  no : inV (.str x) (allNs.map V.str) = false
  nw : numW x = true
  v : Uj x = n
theorem Fg.st {x : Str} {n : Int} (h : Fg x n) (st : List Ex) : yR x st = some (.num n :: st):=by rw [zdw h.no h.nw,h.v]
theorem fg5 : Fg "5" 5:=⟨by decide +kernel,by decide +kernel,by decide +kernel⟩
def Wd (w : Str) : Prop:=(∀ c ∈ w.cps.toList,33 ≤ c∧c < 127)∧w.length ≤ 70
def wdB (w : Str) : Bool:=w.cps.toList.all (fun c=>decide (33 ≤ c∧c < 127)) && decide (w.length ≤ 70)
theorem um {w : Str} (h : wdB w = true) : Wd w:=by
  unfold wdB at h
  rw [Bool.and_eq_true,List.all_eq_true] at h
  exact ⟨fun c hc=>of_decide_eq_true (h.1 c hc),of_decide_eq_true h.2⟩
theorem zb8 {ws : List Str} (h : ws.all wdB = true) : ∀ w ∈ ws,Wd w:=fun w hw=>um (List.all_eq_true.mp h w hw)
section
variable {at_ : Nat} {word great : Str} {g : Int}
theorem yQ {w : Str} {ws : List Str} (h : Wd w) (t : ∀ x ∈ ws,Wd x) : ∀ x ∈ w :: ws,Wd x:=fun x hx=>by
  rcases List.mem_cons.mp hx with rfl | hx
  · exact h
  · exact t x hx
theorem ww : ∀ x ∈ ([] : List Str),Wd x:=fun x hx=>by cases hx
end
end K04

namespace K04
open PySem L2 PySem.NumText PySem.W.KIN
def nwB (w : Str) : Bool:=!inV (.str w) (allNs.map V.str) && !numW w && (xV xk w).isNone
theorem zam {w : Str} (h : nwB w = true) (es : List Ex) : yR w es = none:=by
  unfold nwB at h
  rw [Bool.and_eq_true,Bool.and_eq_true,Bool.not_eq_true',Bool.not_eq_true'] at h
  obtain ⟨⟨h1,h2⟩,h3⟩:=h
  rcases xY (es:=es) h1 h2 with ⟨_,e⟩ | ⟨rfl,_⟩ | ⟨rfl,_⟩ | ⟨t,_⟩
  · exact e
  · rw [less_no.2.2] at h3; cases h3
  · rw [mod_no.2.2] at h3; cases h3
  · rw [(xE t).2.2] at h3; cases h3
theorem zdB {us vs : List Str} {w : Str} (h : nwB w = true) (st : Option (List Ex)) : (us ++ w :: vs).foldr rdG st = none:=by
  rw [List.foldr_append]
  have : (w :: vs).foldr rdG st = none:=by
    show rdG w (vs.foldr rdG st) = none
    cases vs.foldr rdG st with
    | none=>rfl
    | some l=>exact zam h l
  rw [this]
  exact vU us
theorem Xi {us vs : List Str} {w : Str} (h : nwB w = true) : xH (us ++ w :: vs) = none:=by
  unfold xH
  rw [zdB h]
  rfl
abbrev oddL : List Str:=["05", "+5", "-0", "5.0", "Me", "-", "--5", "1_0", "mul", "5-", "num", "00", "a", "starts", "(me)", "-05"]
theorem zd7 : ∀ w ∈ oddL,nwB w = true∧wdB w = true:=by decide +kernel
theorem zdA : ∀ w ∈ rowWs,nwB w = true:=by decide +kernel
theorem Uk : nwB "" = true:=by decide +kernel
theorem Z2 : Wd "" := um (by decide +kernel)
theorem UB : ∀ w ∈ rowWs,Txt.upper w ≠ w∧wdB (Txt.upper w) = true∧(Txt.upper w).length ≤ 10:=by decide +kernel
theorem ziy : ∀ w ∈ rowWs,("x" : Str) ≠ w∧("" : Str) ≠ w:=by decide +kernel
structure Spoil (f : Str) (ws : List Str) : Prop where
  wd : ∀ w ∈ ws,Wd w
  len : ws.length ≤ 130
  no : ∃ w r,ws = w :: r∧(w ≠ f∨xH r = none)
section
variable {f : Str} {e : Ex} (hf : f ∈ rowWs) (h : Rdb e)
include hf h
theorem zeE : ∀ w ∈ e.words,Wd w:=fun w hw=>⟨(h.pl w hw).1,Nat.le_trans (h.pl w hw).2 (by decide)⟩
theorem ziv : Wd f:=⟨(vb f hf).1,Nat.le_trans (vb f hf).2 (by decide)⟩
theorem ue : 1 ≤ e.words.length∧e.words.length ≤ 60:=by
  have:=h.sz
  have h2:=e.words_len
  have : 1 ≤ e.words.length:=by
    cases hw : e.words with
    | nil =>
      have:=h.rd []
      rw [hw] at this
      cases this
    | cons a b=>simp
  omega
theorem We : ∀ w ∈ f :: e.words,Wd w:=yQ (ziv hf h) (zeE hf h)
theorem rde (st : List Ex) : e.words.foldr rdG (some st) = some (e :: st):=zi7 (h.rd st)
theorem vv {us vs : List Str} (h1 : ∀ w ∈ us,Wd w) (h2 : ∀ w ∈ vs,Wd w) : ∀ w ∈ us ++ vs,Wd w:=fun w hw=>(List.mem_append.mp hw).elim (h1 w) (h2 w)
theorem sp1 : Spoil f ("x" :: e.words):=⟨yQ (um (by decide +kernel)) (zeE hf h),by have:=ue hf h; simp; omega,_,_,rfl,.inl (ziy f hf).1⟩
theorem sp2 : Spoil f e.words:=by
  have hl:=ue hf h
  refine ⟨zeE hf h,by omega,?_⟩
  cases hw : e.words with
  | nil=>rw [hw] at hl; simp at hl
  | cons a b =>
    refine ⟨a,b,rfl,.inl fun z=>?_⟩
    have:=rde hf h []
    rw [hw,z] at this
    rw [show f :: b = [] ++ f :: b from rfl,zdB (zdA f hf)] at this
    cases this
theorem sp3 : Spoil f (Txt.upper f :: e.words):=⟨yQ (um (UB f hf).2.1) (zeE hf h),by have:=ue hf h; simp; omega,_,_,rfl,.inl (UB f hf).1⟩
theorem sp4 : Spoil f ("" :: f :: e.words):=⟨yQ Z2 (We hf h),by have:=ue hf h; simp; omega,_,_,rfl,.inl (ziy f hf).2⟩
theorem sp5 : Spoil f (f :: e.words ++ ([""] : List Str)):=⟨vv hf h (We hf h) (yQ Z2 ww),by have:=ue hf h; simp; omega,_,_,rfl,.inr (Xi Uk)⟩
theorem sp6 : Spoil f [f]:=⟨yQ (ziv hf h) ww,by simp,_,_,rfl,.inr rfl⟩
theorem UC {ws : List Str} (hw : ∀ w ∈ ws,Wd w) (k : Nat) : ∀ w ∈ ws.take k,Wd w:=fun w z=>hw w (List.mem_of_mem_take z)
theorem zaz {ws : List Str} (hw : ∀ w ∈ ws,Wd w) (k : Nat) : ∀ w ∈ ws.drop k,Wd w:=fun w z=>hw w (List.mem_of_mem_drop z)
theorem spN {w : Str} (hw : nwB w = true) (hd : Wd w) (i j : Nat) : Spoil f ((f :: e.words).take (i + 1) ++ [w] ++ (f :: e.words).drop j):=by
  have hl:=ue hf h
  refine ⟨vv hf h (vv hf h (UC hf h (We hf h) _) (yQ hd ww)) (zaz hf h (We hf h) _),?_,f,e.words.take i ++ w :: (f :: e.words).drop j,?_,.inr (Xi hw)⟩
  · have h1 : ((f :: e.words).take (i + 1)).length ≤ i + 1:=List.length_take_le _ _
    have h3 : ((f :: e.words).take (i + 1)).length ≤ e.words.length + 1:=List.length_take_le' _ _
    have h2 : ((f :: e.words).drop j).length ≤ e.words.length + 1:=by simp
    rw [List.length_append,List.length_append,List.length_singleton]
    omega
  · simp
theorem spE {w : Str} {x : Ex} (hs : yR w [] = some [x]) (hd : Wd w) : Spoil f (f :: e.words ++ [w]):=by
  have hl:=ue hf h
  refine ⟨vv hf h (We hf h) (yQ hd ww),by simp; omega,f,e.words ++ [w],rfl,.inr ?_⟩
  rw [UP]
  show zeS (List.foldr rdG (yR w []) e.words) = none
  rw [hs,rde hf h]
  rfl
theorem sp8 : Spoil f (f :: e.words ++ (["5"] : List Str)):=spE hf h (fg5.st []) (um (by decide +kernel))
theorem sp9 : Spoil f (f :: e.words ++ (["me"] : List Str)):=spE hf h (UL (by decide +kernel) []) (um (by decide +kernel))
theorem zrc : Spoil f ([f] ++ (["add"] : List Str) ++ e.words):=by
  have hl:=ue hf h
  refine ⟨vv hf h (vv hf h (yQ (ziv hf h) ww) (yQ (um (by decide +kernel)) ww)) (zeE hf h),by simp; omega,f, "add" :: e.words,rfl,.inr ?_⟩
  show zeS (rdG "add" (e.words.foldr rdG (some []))) = none
  rw [rde hf h,WY]
  rfl
theorem zo2 : Spoil f [""]:=⟨yQ Z2 ww,by simp,_,_,rfl,.inl (ziy f hf).2⟩
theorem spC {ws : List Str} (hw : ws.all wdB = true) (hl : ws.length ≤ 10) (hr : (xH ws).isNone = true) : Spoil f ([f] ++ ws):=by
  refine ⟨vv hf h (yQ (ziv hf h) ww) (zb8 hw),by simp; omega,f,ws,rfl,.inr ?_⟩
  cases e : xH ws with
  | none=>rfl
  | some x=>rw [e] at hr; cases hr
theorem zrb : Spoil f ([f] ++ (["mod", "me", "me"] : List Str)):=spC hf h (by decide +kernel) (by decide) (by decide +kernel)
theorem zra : Spoil f ([f] ++ (["mod", "me", "add", "1", "2"] : List Str)):=spC hf h (by decide +kernel) (by decide) (by decide +kernel)
theorem zq9 : Spoil f ([f] ++ (["less", "1", "2", "3"] : List Str)):=spC hf h (by decide +kernel) (by decide) (by decide +kernel)
theorem zq8 : Spoil f ([f] ++ ([""] : List Str)):=spC hf h (by decide +kernel) (by decide) (by decide +kernel)
end
end K04

namespace K04
open PySem L2
def top (i : Nat) : Stmt:=PySem.Challenge.pw_beatless_k10_texts_that_are_none.main.body.getD i (.Pass ⟨0,0,0,0⟩)
abbrev yW : Stmt:=top 14
abbrev zM : Stmt:=top 26
abbrev yq : Stmt:=top 27
abbrev yr : Stmt:=top 28
abbrev yD : Stmt:=top 29
abbrev yX : Stmt:=top 30
abbrev zV : Stmt:=top 31
abbrev zQ : Stmt:=top 33
abbrev zR : Stmt:=top 34
abbrev yC : Stmt:=top 35
abbrev yB : Stmt:=top 36
abbrev yp : Stmt:=top 37
abbrev yV : Stmt:=top 38
abbrev z0 : Stmt:=top 39
abbrev yc : Stmt:=top 41
abbrev yt : Stmt:=top 42
abbrev yI : Stmt:=top 43
abbrev yF : Stmt:=top 44
abbrev yH : Stmt:=top 45
abbrev yE : Stmt:=top 46
abbrev yG : Stmt:=top 47
abbrev yb : Stmt:=top 48
abbrev ya : Stmt:=top 49
abbrev yY : Stmt:=top 50
abbrev uB : Stmt:=top 51
abbrev ye : Stmt:=inClass (top 8) 0
abbrev yL : Stmt:=inClass (top 8) 3
abbrev zT : Stmt:=inClass (top 9) 0
abbrev yu : Stmt:=inClass (top 9) 3
abbrev yd : Stmt:=inClass (top 10) 0
abbrev yJ : Stmt:=inClass (top 10) 3
abbrev yf : Stmt:=inClass (top 11) 0
abbrev yM : Stmt:=inClass (top 11) 3
abbrev zU : Stmt:=inClass (top 12) 0
abbrev yv : Stmt:=inClass (top 12) 3
abbrev zJ : Stmt:=inClass (top 32) 0
abbrev zN : Stmt:=inClass (top 5) 0
theorem Zp : FnScope ["value"] ["value"] (defScope yW):=⟨rfl,rfl,rfl,by decide +kernel,rfl,by decide +kernel,by decide +kernel⟩
theorem wf : FnScope ["value"] ["value"] (defScope zM):=⟨rfl,rfl,rfl,by decide +kernel,rfl,by decide +kernel,by decide +kernel⟩
theorem vP : FnScope ["word", "words"] ["word", "words"] (defScope yq):=⟨rfl,rfl,rfl,by decide +kernel,rfl,by decide +kernel,by decide +kernel⟩
theorem vQ : FnScope ["number"] ["number"] (defScope yr):=⟨rfl,rfl,rfl,by decide +kernel,rfl,by decide +kernel,by decide +kernel⟩
theorem sc_are_sound : FnScope ["parts", "names", "deep", "part"] ["parts", "names", "deep"] (defScope yD):=⟨rfl,rfl,rfl,by decide +kernel,rfl,by decide +kernel,by decide +kernel⟩
theorem Zq : FnScope ["expr", "names", "deep"] ["expr", "names", "deep"] (defScope yX):=⟨rfl,rfl,rfl,by decide +kernel,rfl,by decide +kernel,by decide +kernel⟩
theorem vx : FnScope ["exprs"] ["exprs"] (defScope zV):=⟨rfl,rfl,rfl,by decide +kernel,rfl,by decide +kernel,by decide +kernel⟩
theorem sc_program_text : FnScope ["program", "exprs"] ["program"] (defScope zQ):=⟨rfl,rfl,rfl,by decide +kernel,rfl,by decide +kernel,by decide +kernel⟩
theorem sc_is_number_word : FnScope ["word", "figures", "figure"] ["word"] (defScope zR):=⟨rfl,rfl,rfl,by decide +kernel,rfl,by decide +kernel,by decide +kernel⟩
theorem uF : FnScope ["word"] ["word"] (defScope yC):=⟨rfl,rfl,rfl,by decide +kernel,rfl,by decide +kernel,by decide +kernel⟩
theorem uE : FnScope ["word", "parts"] ["word", "parts"] (defScope yB):=⟨rfl,rfl,rfl,by decide +kernel,rfl,by decide +kernel,by decide +kernel⟩
theorem sc_read_words : FnScope ["words", "parts", "word", "part"] ["words"] (defScope yp):=⟨rfl,rfl,rfl,by decide +kernel,rfl,by decide +kernel,by decide +kernel⟩
theorem sc_read_row : FnScope ["row", "first", "words"] ["row", "first"] (defScope yV):=⟨rfl,rfl,rfl,by decide +kernel,rfl,by decide +kernel,by decide +kernel⟩
theorem sc_read_program : FnScope ["text", "rows", "exprs", "at", "first", "expr"] ["text"] (defScope z0):=⟨rfl,rfl,rfl,by decide +kernel,rfl,by decide +kernel,by decide +kernel⟩
theorem wV : FnScope ["_law_script", "_law_k"] ["_law_script", "_law_k"] (defScope yc):=⟨rfl,rfl,rfl,by decide +kernel,rfl,by decide +kernel,by decide +kernel⟩
theorem sc__law_digit : FnScope ["_law_state", "_law_base", "_law_cell", "_law_found", "_law_number"] ["_law_state", "_law_base"] (defScope yt):=⟨rfl,rfl,rfl,by decide +kernel,rfl,by decide +kernel,by decide +kernel⟩
theorem sc__law_expr : FnScope ["_law_state", "_law_names", "_law_deep", "_law_kind", "_law_number", "_law_word", "_law_one", "_law_parts"] ["_law_state", "_law_names", "_law_deep"] (defScope yI):=⟨rfl,rfl,rfl,by decide +kernel,rfl,by decide +kernel,by decide +kernel⟩
theorem uH : FnScope ["_law_told"] ["_law_told"] (defScope yF):=⟨rfl,rfl,rfl,by decide +kernel,rfl,by decide +kernel,by decide +kernel⟩
theorem sc__law_fits : FnScope ["_law_state", "_law_names", "_law_deep", "_law_told"] ["_law_state", "_law_names", "_law_deep"] (defScope yH):=⟨rfl,rfl,rfl,by decide +kernel,rfl,by decide +kernel,by decide +kernel⟩
theorem uG : FnScope ["_law_told"] ["_law_told"] (defScope yE):=⟨rfl,rfl,rfl,by decide +kernel,rfl,by decide +kernel,by decide +kernel⟩
theorem sc__law_four : FnScope ["_law_state", "_law_ahead", "_law_at_send", "_law_at_end", "_law_start", "_law_send", "_law_when"] ["_law_state"] (defScope yG):=⟨rfl,rfl,rfl,by decide +kernel,rfl,by decide +kernel,by decide +kernel⟩
theorem wU : FnScope ["_law_four_here"] ["_law_four_here"] (defScope yb):=⟨rfl,rfl,rfl,by decide +kernel,rfl,by decide +kernel,by decide +kernel⟩
theorem sc__law_spoiled : FnScope ["_law_row_here", "_law_cell", "_law_words", "_law_at", "_law_some", "_law_odd"] ["_law_row_here", "_law_cell"] (defScope ya):=⟨rfl,rfl,rfl,by decide +kernel,rfl,by decide +kernel,by decide +kernel⟩
theorem sc__law_row : FnScope ["_law_text", "_law_row_here", "e"] ["_law_text"] (defScope yY):=⟨rfl,rfl,rfl,by decide +kernel,rfl,by decide +kernel,by decide +kernel⟩
theorem sc_law : FnScope ["_law_script", "_law_rows", "_law_k", "_law_cell", "_law_at", "_law_bad", "_law_odd"] ["_law_script"] (defScope uB):=⟨rfl,rfl,rfl,by decide +kernel,rfl,by decide +kernel,by decide +kernel⟩
theorem wX : FnScope ["self", "value"] ["self", "value"] (defScope ye):=⟨rfl,rfl,rfl,by decide +kernel,rfl,by decide +kernel,by decide +kernel⟩
theorem uJ : FnScope ["self"] ["self"] (defScope yL):=⟨rfl,rfl,rfl,by decide +kernel,rfl,by decide +kernel,by decide +kernel⟩
theorem wD : FnScope ["self", "word"] ["self", "word"] (defScope zT):=⟨rfl,rfl,rfl,by decide +kernel,rfl,by decide +kernel,by decide +kernel⟩
theorem vR : FnScope ["self"] ["self"] (defScope yu):=⟨rfl,rfl,rfl,by decide +kernel,rfl,by decide +kernel,by decide +kernel⟩
theorem wW : FnScope ["self", "word", "one", "other"] ["self", "word", "one", "other"] (defScope yd):=⟨rfl,rfl,rfl,by decide +kernel,rfl,by decide +kernel,by decide +kernel⟩
theorem uI : FnScope ["self"] ["self"] (defScope yJ):=⟨rfl,rfl,rfl,by decide +kernel,rfl,by decide +kernel,by decide +kernel⟩
theorem wY : FnScope ["self", "inner", "number"] ["self", "inner", "number"] (defScope yf):=⟨rfl,rfl,rfl,by decide +kernel,rfl,by decide +kernel,by decide +kernel⟩
theorem uK : FnScope ["self"] ["self"] (defScope yM):=⟨rfl,rfl,rfl,by decide +kernel,rfl,by decide +kernel,by decide +kernel⟩
theorem wE : FnScope ["self", "one", "other", "third", "fourth"] ["self", "one", "other", "third", "fourth"] (defScope zU):=⟨rfl,rfl,rfl,by decide +kernel,rfl,by decide +kernel,by decide +kernel⟩
theorem vS : FnScope ["self"] ["self"] (defScope yv):=⟨rfl,rfl,rfl,by decide +kernel,rfl,by decide +kernel,by decide +kernel⟩
theorem x8 : FnScope ["self", "start", "send", "when", "renew"] ["self", "start", "send", "when", "renew"] (defScope zJ):=⟨rfl,rfl,rfl,by decide +kernel,rfl,by decide +kernel,by decide +kernel⟩
theorem wg : FnScope ["self", "row"] ["self", "row"] (defScope zN):=⟨rfl,rfl,rfl,by decide +kernel,rfl,by decide +kernel,by decide +kernel⟩
structure Ad where
  f_is_whole : Addr
  d_is_whole : FuncData
  f_is_short_number : Addr
  d_is_short_number : FuncData
  f_is_word_of : Addr
  d_is_word_of : FuncData
  f_is_divisor : Addr
  d_is_divisor : FuncData
  f_are_sound : Addr
  d_are_sound : FuncData
  f_is_sound : Addr
  d_is_sound : FuncData
  f_count_words : Addr
  d_count_words : FuncData
  f_program_text : Addr
  d_program_text : FuncData
  f_is_number_word : Addr
  d_is_number_word : FuncData
  f_number_of : Addr
  d_number_of : FuncData
  f_read_part : Addr
  d_read_part : FuncData
  f_read_words : Addr
  d_read_words : FuncData
  f_read_row : Addr
  d_read_row : FuncData
  f_read_program : Addr
  d_read_program : FuncData
  f__law_cell_at : Addr
  d__law_cell_at : FuncData
  f__law_digit : Addr
  d__law_digit : FuncData
  f__law_expr : Addr
  d__law_expr : FuncData
  f__law_made : Addr
  d__law_made : FuncData
  f__law_fits : Addr
  d__law_fits : FuncData
  f__law_size : Addr
  d__law_size : FuncData
  f__law_four : Addr
  d__law_four : FuncData
  f__law_program : Addr
  d__law_program : FuncData
  f__law_spoiled : Addr
  d__law_spoiled : FuncData
  f__law_row : Addr
  d__law_row : FuncData
  f_law : Addr
  d_law : FuncData
  f_Num___init__ : Addr
  d_Num___init__ : FuncData
  f_Num_words : Addr
  d_Num_words : FuncData
  f_Name___init__ : Addr
  d_Name___init__ : FuncData
  f_Name_words : Addr
  d_Name_words : FuncData
  f_Two___init__ : Addr
  d_Two___init__ : FuncData
  f_Two_words : Addr
  d_Two_words : FuncData
  f_Mod___init__ : Addr
  d_Mod___init__ : FuncData
  f_Mod_words : Addr
  d_Mod_words : FuncData
  f_Less___init__ : Addr
  d_Less___init__ : FuncData
  f_Less_words : Addr
  d_Less_words : FuncData
  f_Program___init__ : Addr
  d_Program___init__ : FuncData
  f_NoText___init__ : Addr
  d_NoText___init__ : FuncData
  c_Num : Addr
  c_Name : Addr
  c_Two : Addr
  c_Mod : Addr
  c_Less : Addr
  c_Program : Addr
  c_NoProgram : Addr
  c_NoWeb : Addr
  c_BeatlessError : Addr
  c_NoText : Addr
  t_START_NAMES : Addr
  t_SEND_NAMES : Addr
  t_RENEW_NAMES : Addr
  t_TWO_WORDS : Addr
  t_MOST_WORDS : Tok
  t_MOST_DEEP : Tok
  t_ALL_NAMES : Addr
  t_ROW_WORDS : Addr
  t_PARTS : Addr
  t_FIGURES : Tok
structure Txt (w : World) (K : PySem.W.Frag) (mg : Str→Option Value) (a : Ad) : Prop where
  n_len : mg "len" = none
  n_int : mg "int" = none
  n_min : mg "min" = none
  n_max : mg "max" = none
  n_range : mg "range" = none
  n_isinstance : mg "isinstance" = none
  n_zip : mg "zip" = none
  n_abs : mg "abs" = none
  n_str : mg "str" = none
  n_sum : mg "sum" = none
  n_bool : mg "bool" = none
  n_tuple : mg "tuple" = none
  n_enumerate : mg "enumerate" = none
  n_reversed : mg "reversed" = none
  n_ValueError : mg "ValueError" = none
  F_is_whole : Fun K "is_whole" "is_whole" yW a.f_is_whole a.d_is_whole
  b_is_whole : Binds K a.d_is_whole ["value"] []
  g_is_whole : mg "is_whole" = some (.ref a.f_is_whole)
  F_is_short_number : Fun K "is_short_number" "is_short_number" zM a.f_is_short_number a.d_is_short_number
  b_is_short_number : Binds K a.d_is_short_number ["value"] []
  g_is_short_number : mg "is_short_number" = some (.ref a.f_is_short_number)
  F_is_word_of : Fun K "is_word_of" "is_word_of" yq a.f_is_word_of a.d_is_word_of
  b_is_word_of : Binds K a.d_is_word_of ["word", "words"] []
  g_is_word_of : mg "is_word_of" = some (.ref a.f_is_word_of)
  F_is_divisor : Fun K "is_divisor" "is_divisor" yr a.f_is_divisor a.d_is_divisor
  b_is_divisor : Binds K a.d_is_divisor ["number"] []
  g_is_divisor : mg "is_divisor" = some (.ref a.f_is_divisor)
  F_are_sound : Fun K "are_sound" "are_sound" yD a.f_are_sound a.d_are_sound
  b_are_sound : Binds K a.d_are_sound ["parts", "names", "deep"] []
  g_are_sound : mg "are_sound" = some (.ref a.f_are_sound)
  F_is_sound : Fun K "is_sound" "is_sound" yX a.f_is_sound a.d_is_sound
  b_is_sound : Binds K a.d_is_sound ["expr", "names", "deep"] []
  g_is_sound : mg "is_sound" = some (.ref a.f_is_sound)
  F_count_words : Fun K "count_words" "count_words" zV a.f_count_words a.d_count_words
  b_count_words : Binds K a.d_count_words ["exprs"] []
  g_count_words : mg "count_words" = some (.ref a.f_count_words)
  F_program_text : Fun K "program_text" "program_text" zQ a.f_program_text a.d_program_text
  b_program_text : Binds K a.d_program_text ["program"] []
  g_program_text : mg "program_text" = some (.ref a.f_program_text)
  F_is_number_word : Fun K "is_number_word" "is_number_word" zR a.f_is_number_word a.d_is_number_word
  b_is_number_word : Binds K a.d_is_number_word ["word"] []
  g_is_number_word : mg "is_number_word" = some (.ref a.f_is_number_word)
  F_number_of : Fun K "number_of" "number_of" yC a.f_number_of a.d_number_of
  b_number_of : Binds K a.d_number_of ["word"] []
  g_number_of : mg "number_of" = some (.ref a.f_number_of)
  F_read_part : Fun K "read_part" "read_part" yB a.f_read_part a.d_read_part
  b_read_part : Binds K a.d_read_part ["word", "parts"] []
  g_read_part : mg "read_part" = some (.ref a.f_read_part)
  F_read_words : Fun K "read_words" "read_words" yp a.f_read_words a.d_read_words
  b_read_words : Binds K a.d_read_words ["words"] []
  g_read_words : mg "read_words" = some (.ref a.f_read_words)
  F_read_row : Fun K "read_row" "read_row" yV a.f_read_row a.d_read_row
  b_read_row : Binds K a.d_read_row ["row", "first"] []
  g_read_row : mg "read_row" = some (.ref a.f_read_row)
  F_read_program : Fun K "read_program" "read_program" z0 a.f_read_program a.d_read_program
  b_read_program : Binds K a.d_read_program ["text"] []
  g_read_program : mg "read_program" = some (.ref a.f_read_program)
  F__law_cell_at : Fun K "_law_cell_at" "_law_cell_at" yc a.f__law_cell_at a.d__law_cell_at
  b__law_cell_at : Binds K a.d__law_cell_at ["_law_script", "_law_k"] []
  g__law_cell_at : mg "_law_cell_at" = some (.ref a.f__law_cell_at)
  F__law_digit : Fun K "_law_digit" "_law_digit" yt a.f__law_digit a.d__law_digit
  b__law_digit : Binds K a.d__law_digit ["_law_state", "_law_base"] []
  g__law_digit : mg "_law_digit" = some (.ref a.f__law_digit)
  F__law_expr : Fun K "_law_expr" "_law_expr" yI a.f__law_expr a.d__law_expr
  b__law_expr : Binds K a.d__law_expr ["_law_state", "_law_names", "_law_deep"] []
  g__law_expr : mg "_law_expr" = some (.ref a.f__law_expr)
  F__law_made : Fun K "_law_made" "_law_made" yF a.f__law_made a.d__law_made
  b__law_made : Binds K a.d__law_made ["_law_told"] []
  g__law_made : mg "_law_made" = some (.ref a.f__law_made)
  F__law_fits : Fun K "_law_fits" "_law_fits" yH a.f__law_fits a.d__law_fits
  b__law_fits : Binds K a.d__law_fits ["_law_state", "_law_names", "_law_deep"] []
  g__law_fits : mg "_law_fits" = some (.ref a.f__law_fits)
  F__law_size : Fun K "_law_size" "_law_size" yE a.f__law_size a.d__law_size
  b__law_size : Binds K a.d__law_size ["_law_told"] []
  g__law_size : mg "_law_size" = some (.ref a.f__law_size)
  F__law_four : Fun K "_law_four" "_law_four" yG a.f__law_four a.d__law_four
  b__law_four : Binds K a.d__law_four ["_law_state"] []
  g__law_four : mg "_law_four" = some (.ref a.f__law_four)
  F__law_program : Fun K "_law_program" "_law_program" yb a.f__law_program a.d__law_program
  b__law_program : Binds K a.d__law_program ["_law_four_here"] []
  g__law_program : mg "_law_program" = some (.ref a.f__law_program)
  F__law_spoiled : Fun K "_law_spoiled" "_law_spoiled" ya a.f__law_spoiled a.d__law_spoiled
  b__law_spoiled : Binds K a.d__law_spoiled ["_law_row_here", "_law_cell"] []
  g__law_spoiled : mg "_law_spoiled" = some (.ref a.f__law_spoiled)
  F__law_row : Fun K "_law_row" "_law_row" yY a.f__law_row a.d__law_row
  b__law_row : Binds K a.d__law_row ["_law_text"] []
  g__law_row : mg "_law_row" = some (.ref a.f__law_row)
  F_law : Fun K "law" "law" uB a.f_law a.d_law
  b_law : Binds K a.d_law ["_law_script"] []
  b0_law : ∀ (s : Shared) (u : Value),BindsTo s a.d_law ⟨[u],[]⟩ [("_law_script",u)]
  g_law : mg "law" = some (.ref a.f_law)
  F_Num___init__ : Fun K "__init__" "Num.__init__" ye a.f_Num___init__ a.d_Num___init__
  b_Num___init__ : Binds K a.d_Num___init__ ["self", "value"] []
  F_Num_words : Fun K "words" "Num.words" yL a.f_Num_words a.d_Num_words
  b_Num_words : Binds K a.d_Num_words ["self"] []
  mt_Num_words : Meth K a.c_Num "words" a.f_Num_words
  F_Name___init__ : Fun K "__init__" "Name.__init__" zT a.f_Name___init__ a.d_Name___init__
  b_Name___init__ : Binds K a.d_Name___init__ ["self", "word"] []
  F_Name_words : Fun K "words" "Name.words" yu a.f_Name_words a.d_Name_words
  b_Name_words : Binds K a.d_Name_words ["self"] []
  mt_Name_words : Meth K a.c_Name "words" a.f_Name_words
  F_Two___init__ : Fun K "__init__" "Two.__init__" yd a.f_Two___init__ a.d_Two___init__
  b_Two___init__ : Binds K a.d_Two___init__ ["self", "word", "one", "other"] []
  F_Two_words : Fun K "words" "Two.words" yJ a.f_Two_words a.d_Two_words
  b_Two_words : Binds K a.d_Two_words ["self"] []
  mt_Two_words : Meth K a.c_Two "words" a.f_Two_words
  F_Mod___init__ : Fun K "__init__" "Mod.__init__" yf a.f_Mod___init__ a.d_Mod___init__
  b_Mod___init__ : Binds K a.d_Mod___init__ ["self", "inner", "number"] []
  F_Mod_words : Fun K "words" "Mod.words" yM a.f_Mod_words a.d_Mod_words
  b_Mod_words : Binds K a.d_Mod_words ["self"] []
  mt_Mod_words : Meth K a.c_Mod "words" a.f_Mod_words
  F_Less___init__ : Fun K "__init__" "Less.__init__" zU a.f_Less___init__ a.d_Less___init__
  b_Less___init__ : Binds K a.d_Less___init__ ["self", "one", "other", "third", "fourth"] []
  F_Less_words : Fun K "words" "Less.words" yv a.f_Less_words a.d_Less_words
  b_Less_words : Binds K a.d_Less_words ["self"] []
  mt_Less_words : Meth K a.c_Less "words" a.f_Less_words
  F_Program___init__ : Fun K "__init__" "Program.__init__" zJ a.f_Program___init__ a.d_Program___init__
  b_Program___init__ : Binds K a.d_Program___init__ ["self", "start", "send", "when", "renew"] []
  F_NoText___init__ : Fun K "__init__" "NoText.__init__" zN a.f_NoText___init__ a.d_NoText___init__
  b_NoText___init__ : Binds K a.d_NoText___init__ ["self", "row"] []
  g_Num : mg "Num" = some (.ref a.c_Num)
  cl_Num : Cls K a.c_Num
  mk_Num : Mk K a.c_Num a.f_Num___init__
  ty_Num : ∀ (H : Hp) (p dx : Addr) (fs : List (Str × V)),H p = some (.ins a.c_Num dx fs)→TyOf K H (.ref p) (.ref a.c_Num)
  na_Num_value : NoAttr K a.c_Num "value"
  g_Name : mg "Name" = some (.ref a.c_Name)
  cl_Name : Cls K a.c_Name
  mk_Name : Mk K a.c_Name a.f_Name___init__
  ty_Name : ∀ (H : Hp) (p dx : Addr) (fs : List (Str × V)),H p = some (.ins a.c_Name dx fs)→TyOf K H (.ref p) (.ref a.c_Name)
  na_Name_word : NoAttr K a.c_Name "word"
  g_Two : mg "Two" = some (.ref a.c_Two)
  cl_Two : Cls K a.c_Two
  mk_Two : Mk K a.c_Two a.f_Two___init__
  ty_Two : ∀ (H : Hp) (p dx : Addr) (fs : List (Str × V)),H p = some (.ins a.c_Two dx fs)→TyOf K H (.ref p) (.ref a.c_Two)
  na_Two_word : NoAttr K a.c_Two "word"
  na_Two_one : NoAttr K a.c_Two "one"
  na_Two_other : NoAttr K a.c_Two "other"
  g_Mod : mg "Mod" = some (.ref a.c_Mod)
  cl_Mod : Cls K a.c_Mod
  mk_Mod : Mk K a.c_Mod a.f_Mod___init__
  ty_Mod : ∀ (H : Hp) (p dx : Addr) (fs : List (Str × V)),H p = some (.ins a.c_Mod dx fs)→TyOf K H (.ref p) (.ref a.c_Mod)
  na_Mod_inner : NoAttr K a.c_Mod "inner"
  na_Mod_number : NoAttr K a.c_Mod "number"
  g_Less : mg "Less" = some (.ref a.c_Less)
  cl_Less : Cls K a.c_Less
  mk_Less : Mk K a.c_Less a.f_Less___init__
  ty_Less : ∀ (H : Hp) (p dx : Addr) (fs : List (Str × V)),H p = some (.ins a.c_Less dx fs)→TyOf K H (.ref p) (.ref a.c_Less)
  na_Less_one : NoAttr K a.c_Less "one"
  na_Less_other : NoAttr K a.c_Less "other"
  na_Less_third : NoAttr K a.c_Less "third"
  na_Less_fourth : NoAttr K a.c_Less "fourth"
  g_Program : mg "Program" = some (.ref a.c_Program)
  cl_Program : Cls K a.c_Program
  mk_Program : Mk K a.c_Program a.f_Program___init__
  ty_Program : ∀ (H : Hp) (p dx : Addr) (fs : List (Str × V)),H p = some (.ins a.c_Program dx fs)→TyOf K H (.ref p) (.ref a.c_Program)
  na_Program_start : NoAttr K a.c_Program "start"
  na_Program_send : NoAttr K a.c_Program "send"
  na_Program_when : NoAttr K a.c_Program "when"
  na_Program_renew : NoAttr K a.c_Program "renew"
  k_Num_Num : PySem.W.kitOne K (.ref a.c_Num) (.ref a.c_Num) = some true
  k_Name_Num : PySem.W.kitOne K (.ref a.c_Name) (.ref a.c_Num) = some false
  k_Name_Name : PySem.W.kitOne K (.ref a.c_Name) (.ref a.c_Name) = some true
  k_Two_Num : PySem.W.kitOne K (.ref a.c_Two) (.ref a.c_Num) = some false
  k_Two_Name : PySem.W.kitOne K (.ref a.c_Two) (.ref a.c_Name) = some false
  k_Two_Two : PySem.W.kitOne K (.ref a.c_Two) (.ref a.c_Two) = some true
  k_Mod_Num : PySem.W.kitOne K (.ref a.c_Mod) (.ref a.c_Num) = some false
  k_Mod_Name : PySem.W.kitOne K (.ref a.c_Mod) (.ref a.c_Name) = some false
  k_Mod_Two : PySem.W.kitOne K (.ref a.c_Mod) (.ref a.c_Two) = some false
  k_Mod_Mod : PySem.W.kitOne K (.ref a.c_Mod) (.ref a.c_Mod) = some true
  k_Less_Num : PySem.W.kitOne K (.ref a.c_Less) (.ref a.c_Num) = some false
  k_Less_Name : PySem.W.kitOne K (.ref a.c_Less) (.ref a.c_Name) = some false
  k_Less_Two : PySem.W.kitOne K (.ref a.c_Less) (.ref a.c_Two) = some false
  k_Less_Mod : PySem.W.kitOne K (.ref a.c_Less) (.ref a.c_Mod) = some false
  k_Less_Less : PySem.W.kitOne K (.ref a.c_Less) (.ref a.c_Less) = some true
  k_tint_tint : PySem.W.kitOne K (.type "int") (.type "int") = some true
  k_tint_tbool : PySem.W.kitOne K (.type "int") (.type "bool") = some false
  k_tstr_tstr : PySem.W.kitOne K (.type "str") (.type "str") = some true
  k_ttuple_ttuple : PySem.W.kitOne K (.type "tuple") (.type "tuple") = some true
  k_tint_ttuple : PySem.W.kitOne K (.type "int") (.type "tuple") = some false
  k_tstr_ttuple : PySem.W.kitOne K (.type "str") (.type "tuple") = some false
  k_tint_tstr : PySem.W.kitOne K (.type "int") (.type "str") = some false
  k_tstr_tint : PySem.W.kitOne K (.type "str") (.type "int") = some false
  k_tstr_tbool : PySem.W.kitOne K (.type "str") (.type "bool") = some false
  k_Program_Program : PySem.W.kitOne K (.ref a.c_Program) (.ref a.c_Program) = some true
  k_NoText_NoProgram : PySem.W.kitOne K (.ref a.c_NoText) (.ref a.c_NoProgram) = some false
  k_NoText_NoWeb : PySem.W.kitOne K (.ref a.c_NoText) (.ref a.c_NoWeb) = some false
  k_NoText_BeatlessError : PySem.W.kitOne K (.ref a.c_NoText) (.ref a.c_BeatlessError) = some true
  k_tNoneType_tstr : PySem.W.kitOne K (.type "NoneType") (.type "str") = some false
  k_tbool_tstr : PySem.W.kitOne K (.type "bool") (.type "str") = some false
  k_tlist_tstr : PySem.W.kitOne K (.type "list") (.type "str") = some false
  k_ttuple_tstr : PySem.W.kitOne K (.type "tuple") (.type "str") = some false
  g_START_NAMES : mg "START_NAMES" = some (.ref a.t_START_NAMES)
  s_START_NAMES : ∀ H : Hp,SqT K H a.t_START_NAMES [V.str "me",V.str "lines"]
  g_SEND_NAMES : mg "SEND_NAMES" = some (.ref a.t_SEND_NAMES)
  s_SEND_NAMES : ∀ H : Hp,SqT K H a.t_SEND_NAMES [V.str "worth",V.str "me",V.str "round",V.str "lines",V.str "to"]
  g_RENEW_NAMES : mg "RENEW_NAMES" = some (.ref a.t_RENEW_NAMES)
  s_RENEW_NAMES : ∀ H : Hp,SqT K H a.t_RENEW_NAMES [V.str "worth",V.str "me",V.str "round",V.str "lines",V.str "sum",V.str "least",V.str "most",V.str "count"]
  g_TWO_WORDS : mg "TWO_WORDS" = some (.ref a.t_TWO_WORDS)
  s_TWO_WORDS : ∀ H : Hp,SqT K H a.t_TWO_WORDS [V.str "add",V.str "sub",V.str "min",V.str "max"]
  g_MOST_WORDS : mg "MOST_WORDS" = some (.int 60 a.t_MOST_WORDS)
  g_MOST_DEEP : mg "MOST_DEEP" = some (.int 8 a.t_MOST_DEEP)
  g_ALL_NAMES : mg "ALL_NAMES" = some (.ref a.t_ALL_NAMES)
  s_ALL_NAMES : ∀ H : Hp,SqT K H a.t_ALL_NAMES [V.str "worth",V.str "me",V.str "round",V.str "lines",V.str "to",V.str "sum",V.str "least",V.str "most",V.str "count"]
  g_ROW_WORDS : mg "ROW_WORDS" = some (.ref a.t_ROW_WORDS)
  s_ROW_WORDS : ∀ H : Hp,SqT K H a.t_ROW_WORDS [V.str "start",V.str "send",V.str "when",V.str "reckon"]
  g_PARTS : mg "PARTS" = some (.ref a.t_PARTS)
  s_PARTS : STab w K a.t_PARTS [("add",2),("sub",2),("min",2),("max",2),("mod",2),("less",4)]
  g_FIGURES : mg "FIGURES" = some (.str "0123456789" a.t_FIGURES)
  g_NoProgram : mg "NoProgram" = some (.ref a.c_NoProgram)
  xc_NoProgram : XCls K a.c_NoProgram
  g_NoWeb : mg "NoWeb" = some (.ref a.c_NoWeb)
  g_BeatlessError : mg "BeatlessError" = some (.ref a.c_BeatlessError)
  xi_NoText : XIs K a.c_NoText
  g_NoText : mg "NoText" = some (.ref a.c_NoText)
  xn_NoText : Ym K a.c_NoText a.f_NoText___init__ = true
  xf_NoText : (K.lookup a.f_NoText___init__).any (fun o=>o.cls == .type "function") = true
  xk_NoText : PySem.W.keepIn K (.ref a.c_NoText) = true
  xs_NoText : XSet K a.c_NoText
  xt_NoText : PySem.W.takerIn K a.c_NoText "row" = some none
  xg_NoText : XGet K a.c_NoText "row"
def Made (a : Ad) (H : Hp) : Ex→V→Prop
  | .num i,v=>∃ p dx,v = .ref p∧H p = some (.ins a.c_Num dx [("value",.int i)])
  | .name x,v=>∃ p dx,v = .ref p∧H p = some (.ins a.c_Name dx [("word",.str x)])
  | .two w e f,v=>∃ p dx u1 u2,v = .ref p∧H p = some (.ins a.c_Two dx [("word",.str w),("one",u1),("other",u2)])∧Made a H e u1∧Made a H f u2
  | .mod e n,v=>∃ p dx u1,v = .ref p∧H p = some (.ins a.c_Mod dx [("inner",u1),("number",.int n)])∧Made a H e u1
  | .less e f g h,v=>∃ p dx u1 u2 u3 u4,v = .ref p∧H p = some (.ins a.c_Less dx [("one",u1),("other",u2),("third",u3),("fourth",u4)])∧Made a H e u1∧Made a H f u2∧Made a H g u3∧Made a H h u4
theorem Made.mono {a : Ad} {H H' : Hp} (k : ∀ b C dx fs,H b = some (.ins C dx fs)→H' b = some (.ins C dx fs)) : ∀ {e : Ex} {v : V},Made a H e v→Made a H' e v
  | .num _,_,⟨p,dx,e,h⟩=>⟨p,dx,e,k _ _ _ _ h⟩
  | .name _,_,⟨p,dx,e,h⟩=>⟨p,dx,e,k _ _ _ _ h⟩
  | .two _ _ _,_,⟨p,dx,u1,u2,e,h,t1,t2⟩=>⟨p,dx,u1,u2,e,k _ _ _ _ h,t1.mono k,t2.mono k⟩
  | .mod _ _,_,⟨p,dx,u1,e,h,t1⟩=>⟨p,dx,u1,e,k _ _ _ _ h,t1.mono k⟩
  | .less _ _ _ _,_,⟨p,dx,u1,u2,u3,u4,e,h,t1,t2,t3,t4⟩=>⟨p,dx,u1,u2,u3,u4,e,k _ _ _ _ h,t1.mono k,t2.mono k,t3.mono k,t4.mono k⟩
theorem Made.same {a : Ad} {H H' : Hp} (k : Same H H') {e : Ex} {v : V} (t : Made a H e v) : Made a H' e v:=t.mono fun b C dx fs h=>k b _ h
section
variable {P : Program} {w : World} {K : PySem.W.Frag} {mg : Str→Option Value} {base : Heap} {a : Ad}
def zaL (C : Addr) (x : Str) : Sp:=fun vs H Q _=>∃ (p dx : Addr) (v : V),vs = [.ref p,v]∧H p = some (.ins C dx [])∧Q .non (upd H p (.ins C dx [(x,v)]))
def zi5 (C : Addr) (x y : Str) : Sp:=fun vs H Q _=>∃ (p dx : Addr) (v u : V),vs = [.ref p,v,u]∧H p = some (.ins C dx [])∧Q .non (upd H p (.ins C dx [(x,v),(y,u)]))
def zi4 (C : Addr) (x y z : Str) : Sp:=fun vs H Q _=>∃ (p dx : Addr) (v u t : V),vs = [.ref p,v,u,t]∧H p = some (.ins C dx [])∧Q .non (upd H p (.ins C dx [(x,v),(y,u),(z,t)]))
def zi3 (C : Addr) (x y z o : Str) : Sp:=fun vs H Q _=>∃ (p dx : Addr) (v u t r : V),vs = [.ref p,v,u,t,r]∧H p = some (.ins C dx [])∧Q .non (upd H p (.ins C dx [(x,v),(y,u),(z,t),(o,r)]))
theorem vg (T : Txt w K mg a) : FnOk P w K mg base CX0 1 a.f_Num___init__ a.d_Num___init__ ["self", "value"] (zaL a.c_Num "value"):=by
  refine T.F_Num___init__.ok wX (fun vs H Q E h=>?_) (fun cdv A outer s H vs Q E hr h=>?_)
  · obtain ⟨p,dx,v,rfl,_⟩:=h
    rfl
  · obtain ⟨p,dx,v,rfl,hp,k⟩:=h
    refine yh (zf (yn (zj 0) (zj 1) rfl)) ?_
    refine ⟨_,rfl,_,rfl,p,a.c_Num,dx,_,rfl,hp,T.cl_Num,T.na_Num_value,(by show 0 < 1000; decide),?_⟩
    exact k
theorem wx (T : Txt w K mg a) : FnOk P w K mg base CX0 1 a.f_Name___init__ a.d_Name___init__ ["self", "word"] (zaL a.c_Name "word"):=by
  refine T.F_Name___init__.ok wD (fun vs H Q E h=>?_) (fun cdv A outer s H vs Q E hr h=>?_)
  · obtain ⟨p,dx,v,rfl,_⟩:=h
    rfl
  · obtain ⟨p,dx,v,rfl,hp,k⟩:=h
    refine yh (zf (yn (zj 0) (zj 1) rfl)) ?_
    refine ⟨_,rfl,_,rfl,p,a.c_Name,dx,_,rfl,hp,T.cl_Name,T.na_Name_word,(by show 0 < 1000; decide),?_⟩
    exact k
theorem vf (T : Txt w K mg a) : FnOk P w K mg base CX0 1 a.f_Two___init__ a.d_Two___init__ ["self", "word", "one", "other"] (zi4 a.c_Two "word" "one" "other"):=by
  refine T.F_Two___init__.ok wW (fun vs H Q E h=>?_) (fun cdv A outer s H vs Q E hr h=>?_)
  · obtain ⟨p,dx,v,u,t,rfl,_⟩:=h
    rfl
  · obtain ⟨p,dx,v,u,t,rfl,hp,k⟩:=h
    refine yh (zd (yn (zj 0) (zj 1) rfl)
      (zd (yn (zj 0) (zj 2) rfl)
      (zf (yn (zj 0) (zj 3) rfl)))) ?_
    refine ⟨_,rfl,_,rfl,p,a.c_Two,dx,_,rfl,hp,T.cl_Two,T.na_Two_word,(by show 0 < 1000; decide),?_⟩
    refine ⟨_,rfl,_,rfl,p,a.c_Two,dx,_,rfl,upd_same,T.cl_Two,T.na_Two_one,(by show 1 < 1000; decide),?_⟩
    refine ⟨_,rfl,_,rfl,p,a.c_Two,dx,_,rfl,upd_same,T.cl_Two,T.na_Two_other,(by show 2 < 1000; decide),?_⟩
    rw [xu,xu]
    exact k
theorem vh (T : Txt w K mg a) : FnOk P w K mg base CX0 1 a.f_Mod___init__ a.d_Mod___init__ ["self", "inner", "number"] (zi5 a.c_Mod "inner" "number"):=by
  refine T.F_Mod___init__.ok wY (fun vs H Q E h=>?_) (fun cdv A outer s H vs Q E hr h=>?_)
  · obtain ⟨p,dx,v,u,rfl,_⟩:=h
    rfl
  · obtain ⟨p,dx,v,u,rfl,hp,k⟩:=h
    refine yh (zd (yn (zj 0) (zj 1) rfl)
      (zf (yn (zj 0) (zj 2) rfl))) ?_
    refine ⟨_,rfl,_,rfl,p,a.c_Mod,dx,_,rfl,hp,T.cl_Mod,T.na_Mod_inner,(by show 0 < 1000; decide),?_⟩
    refine ⟨_,rfl,_,rfl,p,a.c_Mod,dx,_,rfl,upd_same,T.cl_Mod,T.na_Mod_number,(by show 1 < 1000; decide),?_⟩
    rw [xu]
    exact k
theorem wy (T : Txt w K mg a) : FnOk P w K mg base CX0 1 a.f_Less___init__ a.d_Less___init__ ["self", "one", "other", "third", "fourth"] (zi3 a.c_Less "one" "other" "third" "fourth"):=by
  refine T.F_Less___init__.ok wE (fun vs H Q E h=>?_) (fun cdv A outer s H vs Q E hr h=>?_)
  · obtain ⟨p,dx,v,u,t,r,rfl,_⟩:=h
    rfl
  · obtain ⟨p,dx,v,u,t,r,rfl,hp,k⟩:=h
    refine yh (zd (yn (zj 0) (zj 1) rfl)
      (zd (yn (zj 0) (zj 2) rfl)
      (zd (yn (zj 0) (zj 3) rfl)
      (zf (yn (zj 0) (zj 4) rfl))))) ?_
    refine ⟨_,rfl,_,rfl,p,a.c_Less,dx,_,rfl,hp,T.cl_Less,T.na_Less_one,(by show 0 < 1000; decide),?_⟩
    refine ⟨_,rfl,_,rfl,p,a.c_Less,dx,_,rfl,upd_same,T.cl_Less,T.na_Less_other,(by show 1 < 1000; decide),?_⟩
    refine ⟨_,rfl,_,rfl,p,a.c_Less,dx,_,rfl,upd_same,T.cl_Less,T.na_Less_third,(by show 2 < 1000; decide),?_⟩
    refine ⟨_,rfl,_,rfl,p,a.c_Less,dx,_,rfl,upd_same,T.cl_Less,T.na_Less_fourth,(by show 3 < 1000; decide),?_⟩
    rw [xu,xu,xu]
    exact k
end
end K04

namespace K04
open PySem L2
section
variable {P : Program} {w : World} {K : PySem.W.Frag} {mg : Str→Option Value} {base : Heap} {a : Ad}
def Xd : Sp:=fun vs H Q _=>∃ (l : Addr) (n : Int),vs = [.ref l,.int n]∧StAt H l∧0 < n∧n.natAbs.log2 < 9000∧∀ (d : Int) (H' : Hp),0 ≤ d→d < n→StAt H' l→Ext l H H'→Q (.int d) H'
theorem Vb (T : Txt w K mg a) : FnOk P w K mg base CX0 1 a.f__law_digit a.d__law_digit ["_law_state", "_law_base"] Xd:=by
  refine T.F__law_digit.ok sc__law_digit (fun vs H Q E h=>?_) (fun cdv A outer s H vs Q E hr h=>?_)
  · obtain ⟨l,n,rfl,_⟩:=h
    rfl
  · obtain ⟨l,n,rfl,⟨st,hst,ok⟩,hn,hlog,k⟩:=h
    refine yh (wc (zx (zn wa (zq zE (by rfl) T.n_len xl (zh (zj 0) za)) zb (zD _))
        (zd (zr (i:=2) sc__law_digit.nd rfl (Or.inl rfl) (zm zu (zj 0) zb (fun _ _=>rfl)))
        (zd (wF (zi vD (zj 2) (yU Zg (by rfl) T.n_int Yl (zg (yo zd5 (zj 2) (zi uU zb zb) (zD _)) za))) (wG (zj 0) zb wH))
        (zf (ur (zO PySem.F.plainAttrs_list PySem.F.slot_list_extend PySem.F.type_list_extend XQ (zj 0) (zg (zp (zL (zi xI (zj 2) zb) (zl zb za))) za))))))
        zo)
      (zd (zx (zn W7 (zm zu (zj 0) zb (fun _ _=>rfl)) zb (zD _))
        (zd (zr (i:=3) sc__law_digit.nd rfl (Or.inl rfl) (zi xI (zm zu (zj 0) zb (fun _ _=>rfl)) (zj 1)))
        (zd (wF (zi xQ (zm zu (zj 0) zb (fun _ _=>rfl)) (zj 1)) (wG (zj 0) zb wH))
        (zf (zk (zj 3)))))
        zo)
      (zd (wF (zi xB (zm zu (zj 0) zb (fun _ _=>rfl)) zb) (wG (zj 0) zb wH))
      (zd (zr (i:=4) sc__law_digit.nd rfl (Or.inl rfl) (zi xI (zi vD (zi xB (zi xB (zm zu (zj 0) zb (fun _ _=>rfl)) (zi vD zb (zm zu (zj 0) zb (fun _ _=>rfl)))) zb) zb) zb))
      (zd (zr (i:=4) sc__law_digit.nd rfl (Or.inl rfl) (zi xI (zi vD (zj 4) (zi xB (zi xQ (zj 4) zb) zb)) zb))
      (zf (zk (zi xI (zi xI (zi vD (zj 4) (zi xB (zi xQ (zj 4) zb) zb)) zb) (zj 1))))))))) ?_
    refine ⟨fun σ' H'=>∃ (c0 : Option V) (x y z : Int),σ' = [some (.ref l),some (.int n),c0,none,none]∧H' l = some (.lst [.int x,.int y,.int z])∧Ext l H H',?_,?_⟩
    · -- if len(_law_state) == 1:
      refine ⟨_,rfl,l,st,rfl,.inl (SqL.of hst),rfl,_,rfl,?_⟩
      rcases ok with ⟨x,rfl⟩ | ⟨x,y,z,rfl⟩
      · refine xc rfl ?_
        refine ⟨_,rfl,l,_,0,_,rfl,rfl,SqL.of hst,rfl,_,rfl,_,rfl,_,_,rfl,rfl,⟨by decide,by decide,by decide⟩,_,_,rfl,rfl,.inr ⟨_,rfl,_,_,rfl,rfl,.inr (b01 _),_,rfl,l,_,0,0,rfl,rfl,hst,rfl,?_⟩⟩
        · refine ⟨_,rfl,.inl ⟨rfl,_,SqL.of upd_same⟩,_,rfl,_,_,rfl,rfl,(by show (0 : Int) < 2147483647; decide),(by show 2 ≤ sizeLine; decide),fun p hp=>?_⟩
          have hpl : p ≠ l:=by
            intro z
            rw [z,upd_same] at hp
            cases hp
          have hp0 : H p = none:=by rw [upd_ne hpl] at hp; exact hp
          refine ⟨l,p,[_],[_,_],rfl,rfl,(upd_ne hpl.symm).trans upd_same,upd_same,(by show 1 + 2 ≤ sizeLine; decide),?_⟩
          refine ⟨_,_,_,_,rfl,upd_same,fun b o e nb=>?_⟩
          rw [upd_ne nb,upd_ne (ne_of_none e hp0),upd_ne nb]
          exact e
      · refine iteN rfl ?_
        exact ⟨none,x,y,z,rfl,hst,Ext.refl⟩
    · rintro σ' H1 ⟨c0,x,y,z,rfl,hst,hx⟩
      -- if _law_state[0] > 0:
      refine ⟨_,rfl,l,_,0,_,rfl,rfl,SqL.of hst,rfl,_,_,rfl,rfl,_,rfl,?_⟩
      refine Vw (fun q=>?_) (fun q=>?_)
      · refine ⟨_,rfl,l,_,0,_,rfl,rfl,SqL.of hst,rfl,_,rfl,_,_,rfl,rfl,hn,_,rfl,l,_,0,_,rfl,rfl,SqL.of hst,rfl,_,rfl,_,_,rfl,rfl,⟨hn,hlog⟩,_,rfl,l,_,0,0,rfl,rfl,hst,rfl,_,rfl,?_⟩
        exact k _ _ (Int.emod_nonneg _ (Int.ne_of_gt hn)) (Int.emod_lt_of_pos _ hn) ⟨_,upd_same,.inr ⟨_,_,_,rfl⟩⟩ (hx.trans Ext.at)
      · refine ⟨_,rfl,l,_,2,_,rfl,rfl,SqL.of hst,rfl,_,_,rfl,rfl,_,rfl,l,_,2,2,rfl,rfl,hst,rfl,?_⟩
        refine ⟨_,rfl,l,_,1,_,rfl,rfl,SqL.of upd_same,rfl,_,rfl,l,_,2,_,rfl,rfl,SqL.of upd_same,rfl,_,_,rfl,rfl,.inl ⟨by decide,by decide⟩,_,_,rfl,rfl,_,_,rfl,rfl,_,_,rfl,rfl,.inr ⟨by decide,by decide⟩,_,_,rfl,rfl,(by show (0 : Int) < 2147483647; decide),?_⟩
        generalize hv : (y + 7919 * (z + 1) + 1) * 48271 % 2147483647 = v
        have v1 : 0 ≤ v:=by rw [← hv]; exact Int.emod_nonneg _ (by decide)
        have v2 : v < 2147483647:=by rw [← hv]; exact Int.emod_lt_of_pos _ (by decide)
        refine ⟨_,rfl,_,rfl,_,_,rfl,rfl,⟨by show (0 : Int) < 1009; decide,log_1009⟩,_,_,rfl,rfl,_,_,rfl,rfl,.inl ⟨by omega,by omega⟩,_,_,rfl,rfl,(by show (0 : Int) < 2147483647; decide),?_⟩
        generalize hu : v * (v / 1009 + 69621) % 2147483647 = u
        have u1 : 0 ≤ u:=by rw [← hu]; exact Int.emod_nonneg _ (by decide)
        have u2 : u < 2147483647:=by rw [← hu]; exact Int.emod_lt_of_pos _ (by decide)
        refine ⟨_,rfl,_,rfl,_,_,rfl,rfl,⟨by show (0 : Int) < 2003; decide,Vr⟩,_,_,rfl,rfl,_,_,rfl,rfl,.inl ⟨by omega,by omega⟩,_,_,rfl,rfl,(by show (0 : Int) < 2147483399; decide),_,rfl,_,_,rfl,rfl,hn,?_⟩
        exact k _ _ (Int.emod_nonneg _ (Int.ne_of_gt hn)) (Int.emod_lt_of_pos _ hn) ⟨_,upd_same,.inr ⟨_,_,_,rfl⟩⟩ (hx.trans Ext.at)
abbrev zeq (e : Ex) : Prop:=∃ i,e = .num i
abbrev Uo (e : Ex) : Prop:=∃ x,e = .name x
abbrev zeo (e : Ex) : Prop:=∃ w e1 e2,e = .two w e1 e2
abbrev zer (e : Ex) : Prop:=∃ e1 n,e = .mod e1 n
abbrev Up (e : Ex) : Prop:=∃ e1 e2 e3 e4,e = .less e1 e2 e3 e4
end
end K04

namespace K04
open PySem L2
section
variable {P : Program} {w : World} {K : PySem.W.Frag} {mg : Str→Option Value} {base : Heap} {a : Ad}
def UJ (K : PySem.W.Frag) (f : V→Bool) : Sp:=fun vs H Q _=>∃ v,vs = [v]∧Lf K H v∧Q (.bl (f v)) H
theorem ve (T : Txt w K mg a) : FnOk P w K mg base CX0 1 a.f_is_whole a.d_is_whole ["value"] (UJ K whole):=by
  refine T.F_is_whole.ok Zp (fun vs H Q E h=>?_) (fun cdv A outer s H vs Q E hr h=>?_)
  · obtain ⟨v,rfl,_⟩:=h
    rfl
  · obtain ⟨v,rfl,⟨t,ty,k1,k2,_⟩,k⟩:=h
    refine yh (zf (zk (xg (zq ym (by rfl) T.n_isinstance zB (zh (zj 0) (zh (xN T.n_int Yl) za))) (xf (ZJ (zq ym (by rfl) T.n_isinstance zB (zh (zj 0) (zh (xN T.n_bool Wu) za)))))))) ?_
    rw [WD] at k
    refine ⟨_,rfl,_,_,_,_,_,rfl,rfl,ty,k1,_,rfl,?_⟩
    by_cases q : zjx v = true
    · rw [q] at k
      exact xc q ⟨_,rfl,_,_,_,_,_,rfl,rfl,ty,k2,_,rfl,k⟩
    · have q:=Bool.eq_false_iff.mpr q
      rw [q] at k
      exact iteN q k
theorem Zx (T : Txt w K mg a) : FnOk P w K mg base CX0 2 a.f_is_short_number a.d_is_short_number ["value"] (UJ K ZQ):=by
  have c_is_whole : Callee P w K mg base "is_whole" a.f_is_whole a.d_is_whole ["value"] 1 (UJ K whole):=⟨ve T,T.g_is_whole,T.F_is_whole.kp,T.b_is_whole⟩
  refine T.F_is_short_number.ok wf (fun vs H Q E h=>?_) (fun cdv A outer s H vs Q E hr h=>?_)
  · obtain ⟨v,rfl,_⟩:=h
    rfl
  · obtain ⟨v,rfl,lf,k⟩:=h
    refine yh (zf (zk (xg (zt c_is_whole (hr.mono (by omega)) (zh (zj 0) za)) (xf (yo uV (zq VO (by rfl) T.n_abs zeJ (zh (zj 0) za)) (zi uU zb zb) (zD _)))))) ?_
    refine ⟨_,rfl,v,rfl,lf,_,rfl,?_⟩
    by_cases q : whole v = true
    · obtain ⟨i,rfl⟩:=ul q
      refine xc q ⟨_,rfl,i,rfl,_,_,rfl,rfl,⟨by decide,by decide,by decide⟩,_,_,rfl,rfl,?_⟩
      rw [zdI]
      exact k
    · have q:=Bool.eq_false_iff.mpr q
      refine iteN q ?_
      have e : ZQ v = false:=by cases v <;> first | rfl | simp [whole] at q
      rw [e] at k
      exact k
theorem vX (T : Txt w K mg a) : FnOk P w K mg base CX0 2 a.f_is_divisor a.d_is_divisor ["number"] (UJ K zaA):=by
  have c_is_whole : Callee P w K mg base "is_whole" a.f_is_whole a.d_is_whole ["value"] 1 (UJ K whole):=⟨ve T,T.g_is_whole,T.F_is_whole.kp,T.b_is_whole⟩
  refine T.F_is_divisor.ok vQ (fun vs H Q E h=>?_) (fun cdv A outer s H vs Q E hr h=>?_)
  · obtain ⟨v,rfl,_⟩:=h
    rfl
  · obtain ⟨v,rfl,lf,k⟩:=h
    refine yh (zf (zk (xg (zt c_is_whole (hr.mono (by omega)) (zh (zj 0) za)) (xg (yo zd5 (zj 0) zb (zD _)) (xf (yo zjo (zj 0) (zi uU zb zb) (zD _))))))) ?_
    refine ⟨_,rfl,v,rfl,lf,_,rfl,?_⟩
    by_cases q : whole v = true
    · obtain ⟨i,rfl⟩:=ul q
      have k' : Q (.bl (decide (1 ≤ i) && decide (i ≤ 1000000000))) H:=k
      refine xc q ⟨_,rfl,_,_,rfl,rfl,_,rfl,?_⟩
      by_cases q1 : (1 : Int) ≤ i
      · refine xc (decide_eq_true q1) ⟨_,rfl,_,_,rfl,rfl,⟨by decide,by decide,by decide⟩,_,_,rfl,rfl,?_⟩
        rw [decide_eq_true q1,Bool.true_and] at k'
        rw [zo9]
        exact k'
      · refine iteN (decide_eq_false q1) ?_
        rw [decide_eq_false q1,Bool.false_and] at k'
        exact k'
    · have q:=Bool.eq_false_iff.mpr q
      refine iteN q ?_
      have e : zaA v = false:=by cases v <;> first | rfl | simp [whole] at q
      rw [e] at k
      exact k
def VY (K : PySem.W.Frag) : Sp:=fun vs H Q _=>∃ (v : V) (p : Addr) (ws : List Str),vs = [v,.ref p]∧Lf K H v∧SqT K H p (ws.map V.str)∧Q (.bl (wQ ws v)) H
theorem YA (T : Txt w K mg a) : FnOk P w K mg base CX0 1 a.f_is_word_of a.d_is_word_of ["word", "words"] (VY K):=by
  refine T.F_is_word_of.ok vP (fun vs H Q E h=>?_) (fun cdv A outer s H vs Q E hr h=>?_)
  · obtain ⟨v,p,ws,rfl,_⟩:=h
    rfl
  · obtain ⟨v,p,ws,rfl,⟨t,ty,_,_,k3⟩,hp,k⟩:=h
    refine yh (zf (zk (xg (zq ym (by rfl) T.n_isinstance zB (zh (zj 0) (zh (xN T.n_str Yk) za))) (xf (yo vd (zj 0) (zj 1) (by with_unfolding_all rfl)))))) ?_
    refine ⟨_,rfl,_,_,_,_,_,rfl,rfl,ty,k3,_,rfl,?_⟩
    by_cases q : zep v = true
    · obtain ⟨x,rfl⟩:=Vx q
      exact xc q ⟨_,rfl,_,rfl,p,_,rfl,.inr hp,rfl,flat_strs ws,k⟩
    · have q:=Bool.eq_false_iff.mpr q
      refine iteN q ?_
      have e : wQ ws v = false:=by cases v <;> first | rfl | simp [zep] at q
      rw [e] at k
      exact k
end
end K04

namespace K04
open PySem L2
theorem TyOf.same {K : PySem.W.Frag} {H H' : Hp} {v : V} {t : Value} (s : Same H H') (h : TyOf K H v t) : TyOf K H' v t:=by
  cases h with
  | non=>exact .non
  | bl x=>exact .bl x
  | int i=>exact .int i
  | str x=>exact .str x
  | flt x=>exact .flt x
  | lst e=>exact .lst (s _ _ e)
  | frz e=>exact .frz (s _ _ e)
  | tup e=>exact .tup (s _ _ e)
  | dK e=>exact .dK (s _ _ e)
  | dT e=>exact .dT (s _ _ e)
  | ins e cl ha hn htk hm=>exact .ins (s _ _ e) cl ha hn htk hm
theorem Lf.same {K : PySem.W.Frag} {H H' : Hp} {v : V} (s : Same H H') (h : Lf K H v) : Lf K H' v:=by
  obtain ⟨t,ty,k⟩:=h
  exact ⟨t,TyOf.same s ty,k⟩
section
variable {P : Program} {w : World} {K : PySem.W.Frag} {mg : Str→Option Value} {base : Heap} {a : Ad}
def GMade (K : PySem.W.Frag) (a : Ad) (H : Hp) : Gx→V→Prop
  | .num v,r=>∃ p dx,r = .ref p∧H p = some (.ins a.c_Num dx [("value",v)])∧Lf K H v
  | .name v,r=>∃ p dx,r = .ref p∧H p = some (.ins a.c_Name dx [("word",v)])∧Lf K H v
  | .two wd e f,r=>∃ p dx u1 u2,r = .ref p∧H p = some (.ins a.c_Two dx [("word",wd),("one",u1),("other",u2)])∧Lf K H wd∧GMade K a H e u1∧GMade K a H f u2
  | .mod e n,r=>∃ p dx u1,r = .ref p∧H p = some (.ins a.c_Mod dx [("inner",u1),("number",n)])∧Lf K H n∧GMade K a H e u1
  | .less e f g h,r=>∃ p dx u1 u2 u3 u4,r = .ref p∧H p = some (.ins a.c_Less dx [("one",u1),("other",u2),("third",u3),("fourth",u4)])∧GMade K a H e u1∧GMade K a H f u2∧GMade K a H g u3∧GMade K a H h u4
  | .oth v,r=>r = v∧∃ t,TyOf K H v t∧PySem.W.kitOne K t (.ref a.c_Num) = some false∧PySem.W.kitOne K t (.ref a.c_Name) = some false∧PySem.W.kitOne K t (.ref a.c_Two) = some false∧PySem.W.kitOne K t (.ref a.c_Mod) = some false∧PySem.W.kitOne K t (.ref a.c_Less) = some false
theorem GMade.same {H H' : Hp} (s : Same H H') : ∀ {g : Gx} {r : V},GMade K a H g r→GMade K a H' g r
  | .num _,_,⟨p,dx,e,h,l⟩=>⟨p,dx,e,s _ _ h,l.same s⟩
  | .name _,_,⟨p,dx,e,h,l⟩=>⟨p,dx,e,s _ _ h,l.same s⟩
  | .two _ _ _,_,⟨p,dx,u1,u2,e,h,l,t1,t2⟩=>⟨p,dx,u1,u2,e,s _ _ h,l.same s,t1.same s,t2.same s⟩
  | .mod _ _,_,⟨p,dx,u1,e,h,l,t1⟩=>⟨p,dx,u1,e,s _ _ h,l.same s,t1.same s⟩
  | .less _ _ _ _,_,⟨p,dx,u1,u2,u3,u4,e,h,t1,t2,t3,t4⟩=>⟨p,dx,u1,u2,u3,u4,e,s _ _ h,t1.same s,t2.same s,t3.same s,t4.same s⟩
  | .oth _,_,⟨e,t,ty,k⟩=>⟨e,t,TyOf.same s ty,k⟩
theorem Um (T : Txt w K mg a) {H : Hp} (i : Int) : Lf K H (.int i):=⟨_,.int i,T.k_tint_tint,T.k_tint_tbool,T.k_tint_tstr⟩
theorem Ul (T : Txt w K mg a) {H : Hp} (x : Str) : Lf K H (.str x):=⟨_,.str x,T.k_tstr_tint,T.k_tstr_tbool,T.k_tstr_tstr⟩
theorem Made.gx (T : Txt w K mg a) {H : Hp} : ∀ {e : Ex} {r : V},Made a H e r→GMade K a H e.gx r
  | .num i,_,⟨p,dx,e,h⟩=>⟨p,dx,e,h,Um T i⟩
  | .name x,_,⟨p,dx,e,h⟩=>⟨p,dx,e,h,Ul T x⟩
  | .two w _ _,_,⟨p,dx,u1,u2,e,h,t1,t2⟩=>⟨p,dx,u1,u2,e,h,Ul T w,t1.gx T,t2.gx T⟩
  | .mod _ n,_,⟨p,dx,u1,e,h,t1⟩=>⟨p,dx,u1,e,h,Um T n,t1.gx T⟩
  | .less _ _ _ _,_,⟨p,dx,u1,u2,u3,u4,e,h,t1,t2,t3,t4⟩=>⟨p,dx,u1,u2,u3,u4,e,h,t1.gx T,t2.gx T,t3.gx T,t4.gx T⟩
def GMs (K : PySem.W.Frag) (a : Ad) (H : Hp) (rs : List V) (gs : List Gx) : Prop:=rs.length = gs.length∧∀ (i : Nat) r,rs[i]? = some r→∃ g,gs[i]? = some g∧GMade K a H g r
def xF (K : PySem.W.Frag) (a : Ad) (n : Nat) : Sp:=fun vs H Q _=>∃ (g : Gx) (r : V) (nm : Addr) (names : List Str) (d : Int),vs = [r,.ref nm,.int d]∧GMade K a H g r∧(∀ H,SqT K H nm (names.map V.str))∧0 ≤ d∧d < n∧∀ H',Same H H'→Q (.bl (g.sound names d.toNat)) H'
def UK (K : PySem.W.Frag) (a : Ad) (n : Nat) : Sp:=fun vs H Q _=>∃ (l : Addr) (rs : List V) (gs : List Gx) (nm : Addr) (names : List Str) (d : Int),vs = [.ref l,.ref nm,.int d]∧H l = some (.lst rs)∧GMs K a H rs gs∧(∀ H,SqT K H nm (names.map V.str))∧0 ≤ d∧d < n∧∀ H',Same H H'→Q (.bl (gs.all (Gx.sound names d.toNat))) H'
theorem V9 (T : Txt w K mg a) {n : Nat} (I : FnOk P w K mg base CX0 (2 * n + 1) a.f_is_sound a.d_is_sound ["expr", "names", "deep"] (xF K a n)) : FnOk P w K mg base CX0 (2 * n + 2) a.f_are_sound a.d_are_sound ["parts", "names", "deep"] (UK K a n):=by
  have c_is_sound : Callee P w K mg base "is_sound" a.f_is_sound a.d_is_sound ["expr", "names", "deep"] (2 * n + 1) (xF K a n):=⟨I,T.g_is_sound,T.F_is_sound.kp,T.b_is_sound⟩
  refine T.F_are_sound.ok sc_are_sound (fun vs H Q E h=>?_) (fun cdv A outer s H vs Q E hr h=>?_)
  · obtain ⟨l,rs,gs,nm,names,d,rfl,_⟩:=h
    rfl
  · obtain ⟨l,rs,gs,nm,names,d,rfl,hl,⟨hlen,hgm⟩,hn,d0,d1,k⟩:=h
    refine yh (zd (xL PassesOwn.never rfl (ut (zj 0)) (zY (i:=3) sc_are_sound.nd rfl (Or.inl rfl))
        (zf (zx (vJ (zX (zt c_is_sound (hr.mono (by omega)) (zh (zj 3) (zh (zj 1) (zh (zj 2) za))))))
          (zf (zk yz))
          zo)))
      (zf (zk yz))) ?_
    refine ⟨_,rfl,l,rfl,⟨_,SqL.of hl⟩,?_⟩
    refine Yd (K:=K) (a:=l) (xs:=rs) (fun i σ H'=>∃ o,σ = [some (.ref l),some (.ref nm),some (.int d),o]∧Same H H'∧(gs.take i).all (Gx.sound names d.toNat) = true) ?_ ?_ ?_ ?_
    · exact ⟨none,rfl,Same.refl H,by simp⟩
    · rintro i σ H' _ ⟨o,_,sm,_⟩
      exact SqL.of (sm _ _ hl)
    · rintro i x σ H' hi ⟨o,rfl,sm,ha⟩
      obtain ⟨g,hg,gm⟩:=hgm i x hi
      refine ⟨_,rfl,_,rfl,_,rfl,g,x,nm,names,d,rfl,gm.same sm,hn,d0,d1,fun H1 s1=>⟨_,rfl,?_⟩⟩
      have hi' : i < gs.length:=(List.getElem?_eq_some_iff.mp hg).1
      by_cases q : g.sound names d.toNat = true
      · refine iteN (by rw [q]; rfl) ?_
        refine ⟨_,rfl,sm.trans s1,?_⟩
        rw [List.take_add_one,hg,List.all_append,ha]
        simp [q]
      · have q:=Bool.eq_false_iff.mpr q
        refine xc (by rw [q]; rfl) ?_
        have e : gs.all (Gx.sound names d.toNat) = false:=by
          rw [List.all_eq_false]
          exact ⟨g,List.mem_of_getElem? hg,by rw [q]; simp⟩
        have:=k H1 (sm.trans s1)
        rw [e] at this
        exact this
    · rintro σ H' ⟨o,rfl,sm,ha⟩
      rw [hlen,List.take_length] at ha
      have:=k H' sm
      rw [ha] at this
      exact this
theorem zqC {H : Hp} {u1 u2 : V} {g1 g2 : Gx} (h1 : GMade K a H g1 u1) (h2 : GMade K a H g2 u2) : GMs K a H [u1,u2] [g1,g2]:=⟨rfl,fun i r e=>by
  match i,e with
  | 0,e=>cases e; exact ⟨_,rfl,h1⟩
  | 1,e=>cases e; exact ⟨_,rfl,h2⟩
  | _ + 2,e=>simp at e⟩
theorem zrC {H : Hp} {u1 u2 u3 u4 : V} {g1 g2 g3 g4 : Gx} (h1 : GMade K a H g1 u1) (h2 : GMade K a H g2 u2) (h3 : GMade K a H g3 u3) (h4 : GMade K a H g4 u4) : GMs K a H [u1,u2,u3,u4] [g1,g2,g3,g4]:=⟨rfl,fun i r e=>by
  match i,e with
  | 0,e=>cases e; exact ⟨_,rfl,h1⟩
  | 1,e=>cases e; exact ⟨_,rfl,h2⟩
  | 2,e=>cases e; exact ⟨_,rfl,h3⟩
  | 3,e=>cases e; exact ⟨_,rfl,h4⟩
  | _ + 4,e=>simp at e⟩
theorem Zw (T : Txt w K mg a) {n : Nat} (I : FnOk P w K mg base CX0 (2 * n + 1) a.f_is_sound a.d_is_sound ["expr", "names", "deep"] (xF K a n)) : FnOk P w K mg base CX0 (2 * n + 3) a.f_is_sound a.d_is_sound ["expr", "names", "deep"] (xF K a (n + 1)):=by
  have c_is_sound : Callee P w K mg base "is_sound" a.f_is_sound a.d_is_sound ["expr", "names", "deep"] (2 * n + 1) (xF K a n):=⟨I,T.g_is_sound,T.F_is_sound.kp,T.b_is_sound⟩
  have c_are_sound : Callee P w K mg base "are_sound" a.f_are_sound a.d_are_sound ["parts", "names", "deep"] (2 * n + 2) (UK K a n):=⟨V9 T I,T.g_are_sound,T.F_are_sound.kp,T.b_are_sound⟩
  have c_is_short_number : Callee P w K mg base "is_short_number" a.f_is_short_number a.d_is_short_number ["value"] 2 (UJ K ZQ):=⟨Zx T,T.g_is_short_number,T.F_is_short_number.kp,T.b_is_short_number⟩
  have c_is_divisor : Callee P w K mg base "is_divisor" a.f_is_divisor a.d_is_divisor ["number"] 2 (UJ K zaA):=⟨vX T,T.g_is_divisor,T.F_is_divisor.kp,T.b_is_divisor⟩
  have c_is_word_of : Callee P w K mg base "is_word_of" a.f_is_word_of a.d_is_word_of ["word", "words"] 1 (VY K):=⟨YA T,T.g_is_word_of,T.F_is_word_of.kp,T.b_is_word_of⟩
  refine T.F_is_sound.ok Zq (fun vs H Q E h=>?_) (fun cdv A outer s H vs Q E hr h=>?_)
  · obtain ⟨g,r,nm,names,d,rfl,_⟩:=h
    rfl
  · obtain ⟨g,r,nm,names,d,rfl,gm,hn,d0,d1,k⟩:=h
    refine yh (zd (zx (zn wa (zj 2) zb (zD _))
        (zf (zk yz))
        zo)
      (zd (zx (zX (zq ym (by rfl) T.n_isinstance zB (zh (zj 0) (zh (yT T.g_Num) za))))
        (zf (zk (zt c_is_short_number (hr.mono (by omega)) (zg (zC (zj 0) rfl) za))))
        zo)
      (zd (zx (zX (zq ym (by rfl) T.n_isinstance zB (zh (zj 0) (zh (yT T.g_Name) za))))
        (zf (zk (zt c_is_word_of (hr.mono (by omega)) (zg (zC (zj 0) rfl) (zh (zj 1) za)))))
        zo)
      (zd (zx (zX (zq ym (by rfl) T.n_isinstance zB (zh (zj 0) (zh (yT T.g_Two) za))))
        (zf (zk (xg (zt c_is_word_of (hr.mono (by omega)) (zg (zC (zj 0) rfl) (zh (yj (v:=.ref a.t_TWO_WORDS) rfl T.g_TWO_WORDS rfl) za))) (xf (zt c_are_sound (hr.mono (by omega)) (zg (zp (zg (zC (zj 0) rfl) (zg (zC (zj 0) rfl) za))) (zh (zj 1) (zL (zi wm (zj 2) zb) za))))))))
        zo)
      (zd (zx (zX (zq ym (by rfl) T.n_isinstance zB (zh (zj 0) (zh (yT T.g_Mod) za))))
        (zf (zk (xg (zt c_is_divisor (hr.mono (by omega)) (zg (zC (zj 0) rfl) za)) (xf (zt c_is_sound (hr.mono (by omega)) (zg (zC (zj 0) rfl) (zh (zj 1) (zL (zi wm (zj 2) zb) za))))))))
        zo)
      (zd (zx (zX (zq ym (by rfl) T.n_isinstance zB (zh (zj 0) (zh (yT T.g_Less) za))))
        (zf (zk (zt c_are_sound (hr.mono (by omega)) (zg (zp (zg (zC (zj 0) rfl) (zg (zC (zj 0) rfl) (zg (zC (zj 0) rfl) (zg (zC (zj 0) rfl) za))))) (zh (zj 1) (zL (zi wm (zj 2) zb) za))))))
        zo)
      (zf (zk yz)))))))) ?_
    refine ⟨_,rfl,rfl,_,rfl,?_⟩
    refine Vw (fun q=>?_) (fun q=>?_)
    · have e : d = 0:=by simpa using q
      subst e
      exact k H (Same.refl H)
    have hd : d ≠ 0:=fun e=>q (by subst e; rfl)
    have e1 : d.toNat = (d - 1).toNat + 1:=by omega
    rw [e1] at k
    have b0 : 0 ≤ d - 1:=by omega
    have b1 : d - 1 < n:=by omega
    cases g with
    | num v =>
      obtain ⟨p,dx,rfl,hp,lf⟩:=gm
      refine ⟨_,rfl,_,_,_,_,_,rfl,rfl,T.ty_Num H p dx _ hp,T.k_Num_Num,_,rfl,WB ?_⟩
      exact ⟨_,rfl,p,_,dx,_,_,rfl,hp,T.cl_Num,T.na_Num_value,rfl,v,rfl,lf,k H (Same.refl H)⟩
    | name v =>
      obtain ⟨p,dx,rfl,hp,lf⟩:=gm
      refine ⟨_,rfl,_,_,_,_,_,rfl,rfl,T.ty_Name H p dx _ hp,T.k_Name_Num,_,rfl,u7 ?_⟩
      refine ⟨_,rfl,_,_,_,_,_,rfl,rfl,T.ty_Name H p dx _ hp,T.k_Name_Name,_,rfl,WB ?_⟩
      exact ⟨_,rfl,p,_,dx,_,_,rfl,hp,T.cl_Name,T.na_Name_word,rfl,_,rfl,v,nm,names,rfl,lf,hn H,k H (Same.refl H)⟩
    | two wd g1 g2 =>
      obtain ⟨p,dx,u1,u2,rfl,hp,lf,m1,m2⟩:=gm
      refine ⟨_,rfl,_,_,_,_,_,rfl,rfl,T.ty_Two H p dx _ hp,T.k_Two_Num,_,rfl,u7 ?_⟩
      refine ⟨_,rfl,_,_,_,_,_,rfl,rfl,T.ty_Two H p dx _ hp,T.k_Two_Name,_,rfl,u7 ?_⟩
      refine ⟨_,rfl,_,_,_,_,_,rfl,rfl,T.ty_Two H p dx _ hp,T.k_Two_Two,_,rfl,WB ?_⟩
      refine ⟨_,rfl,p,_,dx,_,_,rfl,hp,T.cl_Two,T.na_Two_word,rfl,wd,_,twoWs,rfl,lf,T.s_TWO_WORDS H,_,rfl,?_⟩
      have k' : ∀ H',Same H H'→Q (.bl (wQ twoWs wd && ([g1,g2].all (Gx.sound names (d - 1).toNat)))) H':=k
      by_cases qw : wQ twoWs wd = true
      · rw [qw] at k'
        refine xc qw ?_
        refine ⟨_,rfl,p,_,dx,_,_,rfl,hp,T.cl_Two,T.na_Two_one,rfl,_,rfl,p,_,dx,_,_,rfl,hp,T.cl_Two,T.na_Two_other,rfl,(by show 2 ≤ sizeLine; decide),fun lp hlp=>?_⟩
        have s1:=Same.new (o:=HO.lst [u1,u2]) hlp
        exact ⟨_,rfl,_,rfl,_,_,rfl,rfl,lp,_,_,nm,names,d - 1,rfl,upd_same,zqC (m1.same s1) (m2.same s1),hn,b0,b1,fun H2 s2=>k' H2 (s1.trans s2)⟩
      · have qw:=Bool.eq_false_iff.mpr qw
        rw [qw] at k'
        exact iteN qw (k' H (Same.refl H))
    | mod g1 v =>
      obtain ⟨p,dx,u1,rfl,hp,lf,m1⟩:=gm
      refine ⟨_,rfl,_,_,_,_,_,rfl,rfl,T.ty_Mod H p dx _ hp,T.k_Mod_Num,_,rfl,u7 ?_⟩
      refine ⟨_,rfl,_,_,_,_,_,rfl,rfl,T.ty_Mod H p dx _ hp,T.k_Mod_Name,_,rfl,u7 ?_⟩
      refine ⟨_,rfl,_,_,_,_,_,rfl,rfl,T.ty_Mod H p dx _ hp,T.k_Mod_Two,_,rfl,u7 ?_⟩
      refine ⟨_,rfl,_,_,_,_,_,rfl,rfl,T.ty_Mod H p dx _ hp,T.k_Mod_Mod,_,rfl,WB ?_⟩
      refine ⟨_,rfl,p,_,dx,_,_,rfl,hp,T.cl_Mod,T.na_Mod_number,rfl,v,rfl,lf,_,rfl,?_⟩
      have k' : ∀ H',Same H H'→Q (.bl (zaA v && g1.sound names (d - 1).toNat)) H':=k
      by_cases qw : zaA v = true
      · rw [qw] at k'
        refine xc qw ?_
        exact ⟨_,rfl,p,_,dx,_,_,rfl,hp,T.cl_Mod,T.na_Mod_inner,rfl,_,rfl,_,rfl,_,_,rfl,rfl,g1,u1,nm,names,d - 1,rfl,m1,hn,b0,b1,k'⟩
      · have qw:=Bool.eq_false_iff.mpr qw
        rw [qw] at k'
        exact iteN qw (k' H (Same.refl H))
    | less g1 g2 g3 g4 =>
      obtain ⟨p,dx,u1,u2,u3,u4,rfl,hp,m1,m2,m3,m4⟩:=gm
      refine ⟨_,rfl,_,_,_,_,_,rfl,rfl,T.ty_Less H p dx _ hp,T.k_Less_Num,_,rfl,u7 ?_⟩
      refine ⟨_,rfl,_,_,_,_,_,rfl,rfl,T.ty_Less H p dx _ hp,T.k_Less_Name,_,rfl,u7 ?_⟩
      refine ⟨_,rfl,_,_,_,_,_,rfl,rfl,T.ty_Less H p dx _ hp,T.k_Less_Two,_,rfl,u7 ?_⟩
      refine ⟨_,rfl,_,_,_,_,_,rfl,rfl,T.ty_Less H p dx _ hp,T.k_Less_Mod,_,rfl,u7 ?_⟩
      refine ⟨_,rfl,_,_,_,_,_,rfl,rfl,T.ty_Less H p dx _ hp,T.k_Less_Less,_,rfl,WB ?_⟩
      refine ⟨_,rfl,p,_,dx,_,_,rfl,hp,T.cl_Less,T.na_Less_one,rfl,_,rfl,p,_,dx,_,_,rfl,hp,T.cl_Less,T.na_Less_other,rfl,_,rfl,p,_,dx,_,_,rfl,hp,T.cl_Less,T.na_Less_third,rfl,_,rfl,p,_,dx,_,_,rfl,hp,T.cl_Less,T.na_Less_fourth,rfl,(by show 4 ≤ sizeLine; decide),fun lp hlp=>?_⟩
      have s1:=Same.new (o:=HO.lst [u1,u2,u3,u4]) hlp
      exact ⟨_,rfl,_,rfl,_,_,rfl,rfl,lp,_,_,nm,names,d - 1,rfl,upd_same,zrC (m1.same s1) (m2.same s1) (m3.same s1) (m4.same s1),hn,b0,b1,fun H2 s2=>k H2 (s1.trans s2)⟩
    | oth v =>
      obtain ⟨rfl,t,ty,n1,n2,n3,n4,n5⟩:=gm
      refine ⟨_,rfl,_,_,_,_,_,rfl,rfl,ty,n1,_,rfl,u7 ?_⟩
      refine ⟨_,rfl,_,_,_,_,_,rfl,rfl,ty,n2,_,rfl,u7 ?_⟩
      refine ⟨_,rfl,_,_,_,_,_,rfl,rfl,ty,n3,_,rfl,u7 ?_⟩
      refine ⟨_,rfl,_,_,_,_,_,rfl,rfl,ty,n4,_,rfl,u7 ?_⟩
      refine ⟨_,rfl,_,_,_,_,_,rfl,rfl,ty,n5,_,rfl,u7 ?_⟩
      exact k H (Same.refl H)
theorem zdu {k : Nat} : FnOk P w K mg base CX0 k a.f_is_sound a.d_is_sound ["expr", "names", "deep"] (xF K a 0) :=
  ⟨fun vs H Q E h=>by
    obtain ⟨g,r,nm,names,d,rfl,_⟩:=h
    rfl,fun A outer s H args us vs Q E _ _ _ _ h=>by
    obtain ⟨g,r,nm,names,d,_,_,_,d0,d1,_⟩:=h
    exact absurd d1 (by simp; omega)⟩
theorem Xf (T : Txt w K mg a) : ∀ n,FnOk P w K mg base CX0 (2 * n + 1) a.f_is_sound a.d_is_sound ["expr", "names", "deep"] (xF K a n)
  | 0=>zdu
  | n + 1=>Zw T (Xf T n)
end
end K04

namespace K04
open PySem L2
theorem XU {i : Int} (h : -100000000000000000000 < i∧i < 100000000000000000000) : i.natAbs.log2 < 1920:=by
  by_cases h0 : i.natAbs = 0
  · rw [h0]; decide
  · have:=(Nat.log2_lt h0 (k:=67)).mpr (Nat.lt_of_le_of_lt (show i.natAbs ≤ 100000000000000000000 by omega) (by decide))
    omega
section
variable {P : Program} {w : World} {K : PySem.W.Frag} {mg : Str→Option Value} {base : Heap} {a : Ad}
def yZ (a : Ad) (n : Nat) (Kd : Ex→Prop) : Sp:=fun vs H Q _=>∃ (e : Ex) (r : V) (names : List Str),vs = [r]∧Kd e∧Made a H e r∧e.ok names∧e.dep ≤ n∧e.size ≤ sizeLine∧∀ p H',H' p = some (.lst (e.words.map V.str))→Same H H'→Q (.ref p) H'
structure Wordss (P : Program) (w : World) (K : PySem.W.Frag) (mg : Str→Option Value) (base : Heap) (a : Ad) (n : Nat) : Prop where
  num : FnOk P w K mg base CX0 (n + 1) a.f_Num_words a.d_Num_words ["self"] (yZ a n zeq)
  name : FnOk P w K mg base CX0 (n + 1) a.f_Name_words a.d_Name_words ["self"] (yZ a n Uo)
  two : FnOk P w K mg base CX0 (n + 1) a.f_Two_words a.d_Two_words ["self"] (yZ a n zeo)
  mod : FnOk P w K mg base CX0 (n + 1) a.f_Mod_words a.d_Mod_words ["self"] (yZ a n zer)
  less : FnOk P w K mg base CX0 (n + 1) a.f_Less_words a.d_Less_words ["self"] (yZ a n Up)
theorem Wordss.call {n : Nat} (R : Wordss P w K mg base a n) (T : Txt w K mg a) {A : Around} (hr : Room (n + 1) A) {H : Hp} {e : Ex} {x : V} {names : List Str} (hM : Made a H e x) (ho : e.ok names) (hd : e.dep ≤ n) (hs : e.size ≤ sizeLine) :
    ∃ (p C dx : Addr) (fs : List (Str × V)) (f : Addr) (fd : FuncData) (ps : List Str) (k : Nat) (sp : Sp),x = .ref p∧H p = some (.ins C dx fs)∧fs.lookup ("words" : Str) = none∧Cls K C∧Meth K C "words" f∧FnOk P w K mg base CX0 k f fd ps sp∧Room k A∧Binds K fd ps [] ∧
      ∀ Q : VK,(∀ p H',H' p = some (.lst (e.words.map V.str))→Same H H'→Q (.ref p) H')→sp (x :: ([] ++ [])) H Q E0:=by
  cases e with
  | num i =>
    obtain ⟨p,dx,rfl,hp⟩:=id hM
    exact ⟨p,_,dx,_,_,_,_,_,_,rfl,hp,rfl,T.cl_Num,T.mt_Num_words,R.num,hr,T.b_Num_words,fun Q q=>⟨_,_,names,rfl,⟨_,rfl⟩,hM,ho,hd,hs,q⟩⟩
  | name i =>
    obtain ⟨p,dx,rfl,hp⟩:=id hM
    exact ⟨p,_,dx,_,_,_,_,_,_,rfl,hp,rfl,T.cl_Name,T.mt_Name_words,R.name,hr,T.b_Name_words,fun Q q=>⟨_,_,names,rfl,⟨_,rfl⟩,hM,ho,hd,hs,q⟩⟩
  | two i e1 e2 =>
    obtain ⟨p,dx,u1,u2,rfl,hp,_⟩:=id hM
    exact ⟨p,_,dx,_,_,_,_,_,_,rfl,hp,rfl,T.cl_Two,T.mt_Two_words,R.two,hr,T.b_Two_words,fun Q q=>⟨_,_,names,rfl,⟨_,_,_,rfl⟩,hM,ho,hd,hs,q⟩⟩
  | mod e1 i =>
    obtain ⟨p,dx,u1,rfl,hp,_⟩:=id hM
    exact ⟨p,_,dx,_,_,_,_,_,_,rfl,hp,rfl,T.cl_Mod,T.mt_Mod_words,R.mod,hr,T.b_Mod_words,fun Q q=>⟨_,_,names,rfl,⟨_,_,rfl⟩,hM,ho,hd,hs,q⟩⟩
  | less e1 e2 e3 e4 =>
    obtain ⟨p,dx,u1,u2,u3,u4,rfl,hp,_⟩:=id hM
    exact ⟨p,_,dx,_,_,_,_,_,_,rfl,hp,rfl,T.cl_Less,T.mt_Less_words,R.less,hr,T.b_Less_words,fun Q q=>⟨_,_,names,rfl,⟨_,_,_,_,rfl⟩,hM,ho,hd,hs,q⟩⟩
theorem uX (T : Txt w K mg a) (n : Nat) : FnOk P w K mg base CX0 (n + 1) a.f_Num_words a.d_Num_words ["self"] (yZ a n zeq):=by
  refine T.F_Num_words.ok uJ (fun vs H Q E h=>?_) (fun cdv A outer s H vs Q E hr h=>?_)
  · obtain ⟨e,r,names,rfl,_⟩:=h
    rfl
  · obtain ⟨e,r,names,rfl,⟨i,rfl⟩,⟨p,dx,rfl,hp⟩,ho,_,_,k⟩:=h
    refine yh (zf (zk (zp (zF (yU wA (by rfl) T.n_str Yk (zg (zC (zj 0) rfl) za)) za)))) ?_
    refine ⟨_,rfl,p,_,dx,_,_,rfl,hp,T.cl_Num,T.na_Num_value,rfl,i,rfl,XU ho,(by show 1 ≤ sizeLine; decide),fun q hq=>?_⟩
    exact k _ _ upd_same (Same.new hq)
theorem vY (T : Txt w K mg a) (n : Nat) : FnOk P w K mg base CX0 (n + 1) a.f_Name_words a.d_Name_words ["self"] (yZ a n Uo):=by
  refine T.F_Name_words.ok vR (fun vs H Q E h=>?_) (fun cdv A outer s H vs Q E hr h=>?_)
  · obtain ⟨e,r,names,rfl,_⟩:=h
    rfl
  · obtain ⟨e,r,names,rfl,⟨i,rfl⟩,⟨p,dx,rfl,hp⟩,ho,_,_,k⟩:=h
    refine yh (zf (zk (zp (zg (zC (zj 0) rfl) za)))) ?_
    refine ⟨_,rfl,p,_,dx,_,_,rfl,hp,T.cl_Name,T.na_Name_word,rfl,(by show 1 ≤ sizeLine; decide),fun q hq=>?_⟩
    exact k _ _ upd_same (Same.new hq)
theorem uW (T : Txt w K mg a) {n : Nat} (R : Wordss P w K mg base a n) : FnOk P w K mg base CX0 (n + 2) a.f_Two_words a.d_Two_words ["self"] (yZ a (n + 1) zeo):=by
  refine T.F_Two_words.ok uI (fun vs H Q E h=>?_) (fun cdv A outer s H vs Q E hr h=>?_)
  · obtain ⟨e,r,names,rfl,_⟩:=h
    rfl
  · obtain ⟨e,r,names,rfl,⟨wd,e1,e2,rfl⟩,⟨p,dx,u1,u2,rfl,hp,m1,m2⟩,⟨_,o1,o2⟩,hdep,hz,k⟩:=h
    have hdep : max e1.dep e2.dep + 1 ≤ n + 1:=hdep
    have hz : 1 + e1.size + e2.size ≤ sizeLine:=hz
    have l1:=e1.words_len
    have l2:=e2.words_len
    refine yh (zf (zk (zi zH (zi zH (zp (zg (zC (zj 0) rfl) za)) (zZ (zC (zj 0) rfl))) (zZ (zC (zj 0) rfl))))) ?_
    refine ⟨_,rfl,p,_,dx,_,_,rfl,hp,T.cl_Two,T.na_Two_word,rfl,(by show 1 ≤ sizeLine; decide),fun q0 hq0=>?_⟩
    have s0:=Same.new (o:=HO.lst [V.str wd]) hq0
    refine ⟨_,rfl,p,_,dx,_,_,rfl,s0 _ _ hp,T.cl_Two,T.na_Two_one,rfl,?_⟩
    obtain ⟨p1,c1,x1,f1,f2,f3,f4,f5,f6,q1,q2,q3,q4,q5,q6,q7,q8,q9⟩:=R.call T hr (m1.same s0) o1 (by omega) (by omega)
    refine ⟨p1,c1,x1,f1,f2,f3,f4,f5,f6,q1,q2,q3,q4,q5,q6,q7,q8,q9 _ fun w1 H1 t1 s1=>?_⟩
    refine ⟨q0,w1,_,_,rfl,rfl,s1 _ _ upd_same,t1,(by simp [l1]; omega),fun q2 hq2=>?_⟩
    have s2:=s0.trans (s1.trans (Same.new (o:=HO.lst ([V.str wd] ++ e1.words.map V.str)) hq2))
    refine ⟨_,rfl,p,_,dx,_,_,rfl,s2 _ _ hp,T.cl_Two,T.na_Two_other,rfl,?_⟩
    obtain ⟨p1,c1,x1,f1,f2,f3,f4,f5,f6,z1,z2,z3,z4,z5,z6,z7,z8,z9⟩:=R.call T hr (m2.same s2) o2 (by omega) (by omega)
    refine ⟨p1,c1,x1,f1,f2,f3,f4,f5,f6,z1,z2,z3,z4,z5,z6,z7,z8,z9 _ fun w2 H2 t2 s3=>?_⟩
    refine ⟨q2,w2,_,_,rfl,rfl,s3 _ _ upd_same,t2,(by simp [l1,l2]; omega),fun q4 hq4=>?_⟩
    refine k _ _ ?_ (s2.trans (s3.trans (Same.new hq4)))
    rw [upd_same]
    simp [Ex.words]
theorem uY (T : Txt w K mg a) {n : Nat} (R : Wordss P w K mg base a n) : FnOk P w K mg base CX0 (n + 2) a.f_Mod_words a.d_Mod_words ["self"] (yZ a (n + 1) zer):=by
  refine T.F_Mod_words.ok uK (fun vs H Q E h=>?_) (fun cdv A outer s H vs Q E hr h=>?_)
  · obtain ⟨e,r,names,rfl,_⟩:=h
    rfl
  · obtain ⟨e,r,names,rfl,⟨e1,i,rfl⟩,⟨p,dx,u1,rfl,hp,m1⟩,⟨⟨i1,i2⟩,o1⟩,hdep,hz,k⟩:=h
    have hdep : e1.dep + 1 ≤ n + 1:=hdep
    have hz : 2 + e1.size ≤ sizeLine:=hz
    have l1:=e1.words_len
    refine yh (zf (zk (zi zH (zi zH (zp (zl ze za)) (zZ (zC (zj 0) rfl))) (zp (zF (yU wA (by rfl) T.n_str Yk (zg (zC (zj 0) rfl) za)) za))))) ?_
    refine ⟨by show 1 ≤ sizeLine; decide,fun q0 hq0=>?_⟩
    have s0:=Same.new (o:=HO.lst [V.str "mod"]) hq0
    refine ⟨_,rfl,p,_,dx,_,_,rfl,s0 _ _ hp,T.cl_Mod,T.na_Mod_inner,rfl,?_⟩
    obtain ⟨p1,c1,x1,f1,f2,f3,f4,f5,f6,q1,q2,q3,q4,q5,q6,q7,q8,q9⟩:=R.call T hr (m1.same s0) o1 (by omega) (by omega)
    refine ⟨p1,c1,x1,f1,f2,f3,f4,f5,f6,q1,q2,q3,q4,q5,q6,q7,q8,q9 _ fun w1 H1 t1 s1=>?_⟩
    refine ⟨q0,w1,_,_,rfl,rfl,s1 _ _ upd_same,t1,(by simp [l1]; omega),fun q2 hq2=>?_⟩
    have s2:=s0.trans (s1.trans (Same.new (o:=HO.lst ([V.str "mod"] ++ e1.words.map V.str)) hq2))
    refine ⟨_,rfl,p,_,dx,_,_,rfl,s2 _ _ hp,T.cl_Mod,T.na_Mod_number,rfl,i,rfl,XU (by omega),(by show 1 ≤ sizeLine; decide),fun q3 hq3=>?_⟩
    refine ⟨q2,q3,_,_,rfl,rfl,(Same.new hq3) _ _ upd_same,upd_same,(by simp [l1]; omega),fun q4 hq4=>?_⟩
    refine k _ _ ?_ (s2.trans ((Same.new hq3).trans (Same.new hq4)))
    rw [upd_same]
    simp [Ex.words]
theorem vZ (T : Txt w K mg a) {n : Nat} (R : Wordss P w K mg base a n) : FnOk P w K mg base CX0 (n + 2) a.f_Less_words a.d_Less_words ["self"] (yZ a (n + 1) Up):=by
  refine T.F_Less_words.ok vS (fun vs H Q E h=>?_) (fun cdv A outer s H vs Q E hr h=>?_)
  · obtain ⟨e,r,names,rfl,_⟩:=h
    rfl
  · obtain ⟨e,r,names,rfl,⟨e1,e2,e3,e4,rfl⟩,⟨p,dx,u1,u2,u3,u4,rfl,hp,m1,m2,m3,m4⟩,⟨o1,o2,o3,o4⟩,hdep,hz,k⟩:=h
    have hdep : max (max e1.dep e2.dep) (max e3.dep e4.dep) + 1 ≤ n + 1:=hdep
    have hz : 1 + e1.size + e2.size + e3.size + e4.size ≤ sizeLine:=hz
    have l1:=e1.words_len
    have l2:=e2.words_len
    have l3:=e3.words_len
    have l4:=e4.words_len
    refine yh (zf (zk (zi zH (zi zH (zi zH (zi zH (zp (zl ze za)) (zZ (zC (zj 0) rfl))) (zZ (zC (zj 0) rfl))) (zZ (zC (zj 0) rfl))) (zZ (zC (zj 0) rfl))))) ?_
    refine ⟨by show 1 ≤ sizeLine; decide,fun q0 hq0=>?_⟩
    have s0:=Same.new (o:=HO.lst [V.str "less"]) hq0
    refine ⟨_,rfl,p,_,dx,_,_,rfl,s0 _ _ hp,T.cl_Less,T.na_Less_one,rfl,?_⟩
    obtain ⟨p1,c1,x1,f1,f2,f3,f4,f5,f6,z1,z2,z3,z4,z5,z6,z7,z8,z9⟩:=R.call T hr (m1.same s0) o1 (by omega) (by omega)
    refine ⟨p1,c1,x1,f1,f2,f3,f4,f5,f6,z1,z2,z3,z4,z5,z6,z7,z8,z9 _ fun w1 H1 t1 y1=>?_⟩
    refine ⟨q0,w1,_,_,rfl,rfl,y1 _ _ upd_same,t1,(by simp [l1,l2,l3,l4]; omega),fun q1 hq1=>?_⟩
    have s1:=s0.trans (y1.trans (Same.new (o:=HO.lst ([V.str "less"] ++ e1.words.map V.str)) hq1))
    refine ⟨_,rfl,p,_,dx,_,_,rfl,s1 _ _ hp,T.cl_Less,T.na_Less_other,rfl,?_⟩
    obtain ⟨p1,c1,x1,f1,f2,f3,f4,f5,f6,z1,z2,z3,z4,z5,z6,z7,z8,z9⟩:=R.call T hr (m2.same s1) o2 (by omega) (by omega)
    refine ⟨p1,c1,x1,f1,f2,f3,f4,f5,f6,z1,z2,z3,z4,z5,z6,z7,z8,z9 _ fun w2 H2 t2 y2=>?_⟩
    refine ⟨q1,w2,_,_,rfl,rfl,y2 _ _ upd_same,t2,(by simp [l1,l2,l3,l4]; omega),fun q2 hq2=>?_⟩
    have s2:=s1.trans (y2.trans (Same.new (o:=HO.lst (([V.str "less"] ++ e1.words.map V.str) ++ e2.words.map V.str)) hq2))
    refine ⟨_,rfl,p,_,dx,_,_,rfl,s2 _ _ hp,T.cl_Less,T.na_Less_third,rfl,?_⟩
    obtain ⟨p1,c1,x1,f1,f2,f3,f4,f5,f6,z1,z2,z3,z4,z5,z6,z7,z8,z9⟩:=R.call T hr (m3.same s2) o3 (by omega) (by omega)
    refine ⟨p1,c1,x1,f1,f2,f3,f4,f5,f6,z1,z2,z3,z4,z5,z6,z7,z8,z9 _ fun w3 H3 t3 y3=>?_⟩
    refine ⟨q2,w3,_,_,rfl,rfl,y3 _ _ upd_same,t3,(by simp [l1,l2,l3,l4]; omega),fun q3 hq3=>?_⟩
    have s3:=s2.trans (y3.trans (Same.new (o:=HO.lst ((([V.str "less"] ++ e1.words.map V.str) ++ e2.words.map V.str) ++ e3.words.map V.str)) hq3))
    refine ⟨_,rfl,p,_,dx,_,_,rfl,s3 _ _ hp,T.cl_Less,T.na_Less_fourth,rfl,?_⟩
    obtain ⟨p1,c1,x1,f1,f2,f3,f4,f5,f6,z1,z2,z3,z4,z5,z6,z7,z8,z9⟩:=R.call T hr (m4.same s3) o4 (by omega) (by omega)
    refine ⟨p1,c1,x1,f1,f2,f3,f4,f5,f6,z1,z2,z3,z4,z5,z6,z7,z8,z9 _ fun w4 H4 t4 y4=>?_⟩
    refine ⟨q3,w4,_,_,rfl,rfl,y4 _ _ upd_same,t4,(by simp [l1,l2,l3,l4]; omega),fun q4 hq4=>?_⟩
    refine k _ _ ?_ (s3.trans (y4.trans (Same.new hq4)))
    rw [upd_same]
    simp [Ex.words]
theorem vi {f : Addr} {fd : FuncData} {ps : List Str} {Kd : Ex→Prop} {k : Nat} (hl : ps.length = 1) : FnOk P w K mg base CX0 k f fd ps (yZ a 0 Kd) :=
  ⟨fun vs H Q E h=>by
    obtain ⟨e,r,names,rfl,_⟩:=h
    exact hl.symm,fun A outer s H args us vs Q E _ _ _ _ h=>by
    obtain ⟨e,r,names,_,_,_,_,hd,_⟩:=h
    have:=e.dep_pos
    omega⟩
theorem uk (T : Txt w K mg a) : ∀ n,Wordss P w K mg base a n
  | 0=>⟨vi rfl,vi rfl,vi rfl,vi rfl,vi rfl⟩
  | n + 1=>⟨uX T (n + 1),vY T (n + 1),uW T (uk T n),uY T (uk T n),vZ T (uk T n)⟩
end
end K04

namespace K04
open PySem L2
section
variable {P : Program} {w : World} {K : PySem.W.Frag} {mg : Str→Option Value} {base : Heap} {a : Ad}
def zaG (a : Ad) (H : Hp) (n : Nat) (rs : List V) (es : List Ex) : Prop:=rs.length = es.length∧∀ (i : Nat) r,rs[i]? = some r→∃ e names,es[i]? = some e∧Made a H e r∧e.ok names∧e.dep ≤ n∧e.size ≤ sizeLine
def vw (es : List Ex) : List Int:=es.map fun e=>(e.size : Int)
def Xe (a : Ad) (n : Nat) : Sp:=fun vs H Q _=>∃ (l : Addr) (rs : List V) (es : List Ex),vs = [.ref l]∧H l = some (.lst rs)∧rs.length ≤ 1000∧zaG a H n rs es∧∀ H',Same H H'→Q (.int (vw es).sum) H'
theorem Vc (T : Txt w K mg a) (n : Nat) : FnOk P w K mg base CX0 (n + 2) a.f_count_words a.d_count_words ["exprs"] (Xe a n):=by
  have WW : Wordss P w K mg base a n:=uk T n
  refine T.F_count_words.ok vx (fun vs H Q E h=>?_) (fun cdv A outer s H vs Q E hr h=>?_)
  · obtain ⟨l,rs,es,rfl,_⟩:=h
    rfl
  · obtain ⟨l,rs,es,rfl,hl,hz,⟨hlen,hm⟩,k⟩:=h
    refine ⟨_,(x9 (V7 (vV (Ze rfl) (by rfl) T.n_sum Uu (xx (Xx rfl (N':=["expr"]) (t:=1) (caps:=[]) ⟨rfl,rfl,rfl⟩ (Xs (pv 0)) (fun _=>(Xu (i:=0) (show (["expr"] : List Str).Nodup by decide +kernel) rfl (Or.inl rfl))) (fun _=>Xj) (fun _=>(vV zE (by rfl) T.n_len xl (zpa (uS (pv 0)) xq)))) xq)))),?_⟩
    refine ⟨_,rfl,l,rfl,⟨_,SqL.of hl⟩,fun D hD _=>?_⟩
    refine Wj (K:=K) (a:=l) (xs:=rs) (fun i zs τ H'=>∃ o,τ = [o]∧i ≤ rs.length∧zs = ((vw es).take i).map V.int∧H' D = some (.lst zs)∧Same H H') ?_ ?_ ?_ ?_
    · exact ⟨none,rfl,Nat.zero_le _,by simp,upd_same,Same.new hD⟩
    · rintro i zs τ H' ⟨o,_,_,_,_,sm⟩
      exact SqL.of (sm _ _ hl)
    · rintro i x zs τ H' hi ⟨o,rfl,_,rfl,hD',sm⟩
      obtain ⟨e,names,he,m,ok,dd,sz⟩:=hm i x hi
      have hi' : i < rs.length:=(List.getElem?_eq_some_iff.mp hi).1
      refine gn_if ?_
      refine ⟨_,rfl,?_⟩
      obtain ⟨p1,c1,x1,f1,f2,f3,f4,f5,f6,z1,z2,z3,z4,z5,z6,z7,z8,z9⟩:=WW.call T (A:=A.deeper (PyProof.Rows.envOfC "count_words" (defScope zV) s.heap.objs.size a.f_count_words cdv)) hr (m.same sm) ok dd sz
      refine ⟨p1,c1,x1,f1,f2,f3,f4,f5,f6,z1,z2,z3,z4,z5,z6,z7,z8,z9 _ fun p H1 t1 s1=>?_⟩
      have ez : (vw es)[i]? = some ((e.size : Nat) : Int):=by unfold vw; rw [List.getElem?_map,he]; rfl
      refine ⟨p,_,rfl,.inl (SqL.of t1),s1 _ _ hD',?_,some x,rfl,hi',?_,upd_same,?_⟩
      · rw [List.length_map]
        exact xp (Nat.le_trans (List.length_take_le _ _) (by omega))
      · rw [List.take_add_one,ez,List.map_append,List.length_map,e.words_len]
        rfl
      · have s2:=sm.trans s1
        intro b o e
        have hb : b ≠ D:=ne_of_none e hD
        rw [upd_ne hb]
        exact s2 b o e
    · rintro zs τ H' ⟨o,rfl,_,rfl,hD',sm⟩
      have el : (vw es).take rs.length = vw es:=List.take_of_length_le (by unfold vw; rw [List.length_map,hlen]; exact Nat.le_refl _)
      rw [el] at hD'
      exact ⟨D,vw es,rfl,SqL.of hD',k H' sm⟩
abbrev startNs : List Str:=["me", "lines"]
abbrev sendNs : List Str:=["worth", "me", "round", "lines", "to"]
abbrev renewNs : List Str:=["worth", "me", "round", "lines", "sum", "least", "most", "count"]
theorem GMade.made {H : Hp} : ∀ {e : Ex} {r : V},GMade K a H e.gx r→Made a H e r
  | .num i,_,⟨p,dx,e,h,_⟩=>⟨p,dx,e,h⟩
  | .name x,_,⟨p,dx,e,h,_⟩=>⟨p,dx,e,h⟩
  | .two w _ _,_,⟨p,dx,u1,u2,e,h,_,t1,t2⟩=>⟨p,dx,u1,u2,e,h,t1.made,t2.made⟩
  | .mod _ n,_,⟨p,dx,u1,e,h,_,t1⟩=>⟨p,dx,u1,e,h,t1.made⟩
  | .less _ _ _ _,_,⟨p,dx,u1,u2,u3,u4,e,h,t1,t2,t3,t4⟩=>⟨p,dx,u1,u2,u3,u4,e,h,t1.made,t2.made,t3.made,t4.made⟩
def zaH (g1 g2 g3 g4 : Gx) : Prop:=∃ e1 e2 e3 e4 : Ex,(g1 = e1.gx∧g2 = e2.gx∧g3 = e3.gx∧g4 = e4.gx)∧(e1.ok startNs∧e2.ok sendNs∧e3.ok sendNs∧e4.ok renewNs)∧(e1.dep ≤ 8∧e2.dep ≤ 8∧e3.dep ≤ 8∧e4.dep ≤ 8)∧e1.size + e2.size + e3.size + e4.size ≤ 60
def Y8 (K : PySem.W.Frag) (a : Ad) : Sp:=fun vs H Q E=>∃ (p dx : Addr) (r1 r2 r3 r4 : V) (g1 g2 g3 g4 : Gx),vs = [.ref p,r1,r2,r3,r4]∧H p = some (.ins a.c_Program dx [])∧(GMade K a H g1 r1∧GMade K a H g2 r2∧GMade K a H g3 r3∧GMade K a H g4 r4) ∧
  (zaH g1 g2 g3 g4→∀ H',Same H H'→Q .non (upd H' p (.ins a.c_Program dx [("start",r1),("send",r2),("when",r3),("renew",r4)])))∧(¬ zaH g1 g2 g3 g4→∀ H',Same H H'→E (.ref a.c_NoProgram) none H')
theorem Z0 (T : Txt w K mg a) : FnOk P w K mg base (CX1 P w) 22 a.f_Program___init__ a.d_Program___init__ ["self", "start", "send", "when", "renew"] (Y8 K a):=by
  have c_is_sound : Callee P w K mg base "is_sound" a.f_is_sound a.d_is_sound ["expr", "names", "deep"] 19 (xF K a 9):=⟨Xf T 9,T.g_is_sound,T.F_is_sound.kp,T.b_is_sound⟩
  have c_are_sound : Callee P w K mg base "are_sound" a.f_are_sound a.d_are_sound ["parts", "names", "deep"] 20 (UK K a 9):=⟨V9 T (Xf T 9),T.g_are_sound,T.F_are_sound.kp,T.b_are_sound⟩
  have c_count_words : Callee P w K mg base "count_words" a.f_count_words a.d_count_words ["exprs"] 10 (Xe a 8):=⟨Vc T 8,T.g_count_words,T.F_count_words.kp,T.b_count_words⟩
  refine T.F_Program___init__.ok1 x8 (fun vs H Q E h=>?_) (fun cdv A outer s H vs Q E hr h=>?_)
  · obtain ⟨p,dx,r1,r2,r3,r4,g1,g2,g3,g4,rfl,_⟩:=h
    rfl
  · obtain ⟨p,dx,r1,r2,r3,r4,g1,g2,g3,g4,rfl,hp,⟨m1,m2,m3,m4⟩,k,kx⟩:=h
    refine ⟨_,(xj (Xm (ZX (ZW (zd0 c_is_sound (hr.mono (by omega)) (Zv (pv 1) (Zv (xw (v:=.ref a.t_START_NAMES) rfl T.g_START_NAMES rfl) (Zv (xw (v:=.int 8) rfl T.g_MOST_DEEP ⟨_,rfl⟩) xq))))))
        (x9 (wK hr.hd T.xc_NoProgram T.g_NoProgram (zd4 uR xq)))
        va)
      (xj (Xm (ZX (ZW (zd0 c_are_sound (hr.mono (by omega)) (xx (Xw (Zv (pv 2) (Zv (pv 3) xq))) (Zv (xw (v:=.ref a.t_SEND_NAMES) rfl T.g_SEND_NAMES rfl) (Zv (xw (v:=.int 8) rfl T.g_MOST_DEEP ⟨_,rfl⟩) xq))))))
        (x9 (wK hr.hd T.xc_NoProgram T.g_NoProgram (zd4 uR xq)))
        va)
      (xj (Xm (ZX (ZW (zd0 c_is_sound (hr.mono (by omega)) (Zv (pv 4) (Zv (xw (v:=.ref a.t_RENEW_NAMES) rfl T.g_RENEW_NAMES rfl) (Zv (xw (v:=.int 8) rfl T.g_MOST_DEEP ⟨_,rfl⟩) xq))))))
        (x9 (wK hr.hd T.xc_NoProgram T.g_NoProgram (zd4 uR xq)))
        va)
      (xj (Xm (Xk W7 (zd0 c_count_words (hr.mono (by omega)) (xx (Xw (Zv (pv 1) (Zv (pv 2) (Zv (pv 3) (Zv (pv 4) xq))))) xq)) (xw (v:=.int 60) rfl T.g_MOST_WORDS ⟨_,rfl⟩) (zD _))
        (x9 (wK hr.hd T.xc_NoProgram T.g_NoProgram (zd4 uR xq)))
        va)
      (xj (uN (pv 0) (pv 1) rfl)
      (xj (uN (pv 0) (pv 2) rfl)
      (xj (uN (pv 0) (pv 3) rfl)
      (x9 (uN (pv 0) (pv 4) rfl))))))))),?_⟩
    refine ⟨_,rfl,g1,r1,_,startNs,8,rfl,m1,T.s_START_NAMES,by decide,by decide,fun H1 s1=>⟨_,rfl,?_⟩⟩
    by_cases q1 : g1.sound startNs (8 : Int).toNat = true
    case neg =>
      refine xc (by rw [Bool.not_eq_true] at q1; rw [q1]; rfl) ⟨by show 1 ≤ 1000; decide,kx ?_ H1 s1⟩
      rintro ⟨e1,e2,e3,e4,⟨rfl,_⟩,⟨o1,_⟩,⟨d1,_⟩,_⟩
      exact q1 (Ex.sound o1 d1)
    refine iteN (by rw [q1]; rfl) ?_
    refine ⟨_,rfl,_,rfl,(by show 2 ≤ sizeLine; decide),fun lp hlp=>?_⟩
    have s2:=s1.trans (Same.new (o:=HO.lst [r2,r3]) hlp)
    refine ⟨lp,_,_,_,sendNs,8,rfl,upd_same,zqC (m2.same s2) (m3.same s2),T.s_SEND_NAMES,by decide,by decide,fun H3 s3=>⟨_,rfl,?_⟩⟩
    have s3:=s2.trans s3
    by_cases q2 : g2.sound sendNs (8 : Int).toNat = true
    case neg =>
      refine xc (by rw [Bool.not_eq_true] at q2; rw [List.all_cons,q2]; rfl) ⟨by show 1 ≤ 1000; decide,kx ?_ H3 s3⟩
      rintro ⟨e1,e2,e3,e4,⟨_,rfl,_⟩,⟨_,o1,_⟩,⟨_,d1,_⟩,_⟩
      exact q2 (Ex.sound o1 d1)
    by_cases q3 : g3.sound sendNs (8 : Int).toNat = true
    case neg =>
      refine xc (by rw [Bool.not_eq_true] at q3; rw [List.all_cons,List.all_cons,q2,q3]; rfl) ⟨by show 1 ≤ 1000; decide,kx ?_ H3 s3⟩
      rintro ⟨e1,e2,e3,e4,⟨_,_,rfl,_⟩,⟨_,_,o1,_⟩,⟨_,_,d1,_⟩,_⟩
      exact q3 (Ex.sound o1 d1)
    refine iteN (by rw [List.all_cons,List.all_cons,q2,q3]; rfl) ?_
    refine ⟨_,rfl,g4,r4,_,renewNs,8,rfl,m4.same s3,T.s_RENEW_NAMES,by decide,by decide,fun H4 s4=>⟨_,rfl,?_⟩⟩
    have s4:=s3.trans s4
    by_cases q4 : g4.sound renewNs (8 : Int).toNat = true
    case neg =>
      refine xc (by rw [Bool.not_eq_true] at q4; rw [q4]; rfl) ⟨by show 1 ≤ 1000; decide,kx ?_ H4 s4⟩
      rintro ⟨e1,e2,e3,e4,⟨_,_,_,rfl⟩,⟨_,_,_,o1⟩,⟨_,_,_,d1⟩,_⟩
      exact q4 (Ex.sound o1 d1)
    refine iteN (by rw [q4]; rfl) ?_
    obtain ⟨e1,rfl,o1,d1⟩:=Gx.of_sound q1
    obtain ⟨e2,rfl,o2,d2⟩:=Gx.of_sound q2
    obtain ⟨e3,rfl,o3,d3⟩:=Gx.of_sound q3
    obtain ⟨e4,rfl,o4,d4⟩:=Gx.of_sound q4
    have m1:=m1.made
    have m2:=m2.made
    have m3:=m3.made
    have m4:=m4.made
    refine ⟨_,rfl,_,rfl,_,rfl,_,rfl,(by show 4 ≤ sizeLine; decide),fun lq hlq=>?_⟩
    have s5:=s4.trans (Same.new (o:=HO.lst [r1,r2,r3,r4]) hlq)
    refine ⟨lq,_,[e1,e2,e3,e4],rfl,upd_same,by simp,⟨rfl,fun i r hi=>?_⟩,fun H6 s6=>⟨_,_,rfl,rfl,_,rfl,?_⟩⟩
    · match i,hi with
      | 0,hi=>cases hi; exact ⟨e1,_,rfl,m1.same s5,o1,d1,Ex.size_line d1⟩
      | 1,hi=>cases hi; exact ⟨e2,_,rfl,m2.same s5,o2,d2,Ex.size_line d2⟩
      | 2,hi=>cases hi; exact ⟨e3,_,rfl,m3.same s5,o3,d3,Ex.size_line d3⟩
      | 3,hi=>cases hi; exact ⟨e4,_,rfl,m4.same s5,o4,d4,Ex.size_line d4⟩
      | _ + 4,hi=>simp at hi
    have s6:=s5.trans s6
    have es : (vw [e1,e2,e3,e4]).sum = (e1.size + e2.size + e3.size + e4.size : Nat):=by
      simp [vw]
      omega
    rw [es]
    by_cases hz : e1.size + e2.size + e3.size + e4.size ≤ 60
    case neg =>
      refine xc (decide_eq_true (by show ((e1.size + e2.size + e3.size + e4.size : Nat) : Int) > 60; omega)) ⟨by show 1 ≤ 1000; decide,kx ?_ H6 s6⟩
      rintro ⟨f1,f2,f3,f4,⟨h1,h2,h3,h4⟩,_,_,z⟩
      cases Ex.gx_inj h1
      cases Ex.gx_inj h2
      cases Ex.gx_inj h3
      cases Ex.gx_inj h4
      exact hz z
    refine iteN (decide_eq_false (by show ¬ ((e1.size + e2.size + e3.size + e4.size : Nat) : Int) > 60; omega)) ?_
    refine ⟨_,rfl,_,rfl,p,a.c_Program,dx,_,rfl,s6 _ _ hp,T.cl_Program,T.na_Program_start,(by show 0 < 1000; decide),?_⟩
    refine ⟨_,rfl,_,rfl,p,a.c_Program,dx,_,rfl,upd_same,T.cl_Program,T.na_Program_send,(by show 1 < 1000; decide),?_⟩
    refine ⟨_,rfl,_,rfl,p,a.c_Program,dx,_,rfl,upd_same,T.cl_Program,T.na_Program_when,(by show 2 < 1000; decide),?_⟩
    refine ⟨_,rfl,_,rfl,p,a.c_Program,dx,_,rfl,upd_same,T.cl_Program,T.na_Program_renew,(by show 3 < 1000; decide),?_⟩
    rw [xu,xu,xu]
    exact k ⟨e1,e2,e3,e4,⟨rfl,rfl,rfl,rfl⟩,⟨o1,o2,o3,o4⟩,⟨d1,d2,d3,d4⟩,hz⟩ H6 s6
end
end K04

namespace K04
open PySem L2
section
variable {P : Program} {w : World} {K : PySem.W.Frag} {mg : Str→Option Value} {base : Heap} {a : Ad}
def Xa (a : Ad) (n : Nat) : Sp:=fun vs H Q _=>∃ (e : Ex) (v : V) (names : List Str),vs = [v]∧Told H e v∧e.dep ≤ n∧e.ok names∧∀ r H',Made a H' e r→Same H H'→Q r H'
theorem XF (T : Txt w K mg a) : ∀ n,FnOk P w K mg base CX0 (n + 2) a.f__law_made a.d__law_made ["_law_told"] (Xa a n)
  | 0=>⟨fun vs H Q E h=>by
      obtain ⟨e,v,names,rfl,_⟩:=h
      rfl,fun A outer s H args us vs Q E _ _ _ _ h=>by
      obtain ⟨e,v,names,_,_,hd,_⟩:=h
      have:=e.dep_pos
      omega⟩
  | n + 1=>by
    have c__law_made : Callee P w K mg base "_law_made" a.f__law_made a.d__law_made ["_law_told"] (n + 2) (Xa a n):=⟨XF T n,T.g__law_made,T.F__law_made.kp,T.b__law_made⟩
    have m_Num : Maker P w K mg base "Num" a.c_Num a.f_Num___init__ a.d_Num___init__ ["self", "value"] 1 (zaL a.c_Num "value"):=⟨vg T,T.g_Num,T.mk_Num,T.b_Num___init__⟩
    have m_Name : Maker P w K mg base "Name" a.c_Name a.f_Name___init__ a.d_Name___init__ ["self", "word"] 1 (zaL a.c_Name "word"):=⟨wx T,T.g_Name,T.mk_Name,T.b_Name___init__⟩
    have m_Two : Maker P w K mg base "Two" a.c_Two a.f_Two___init__ a.d_Two___init__ ["self", "word", "one", "other"] 1 (zi4 a.c_Two "word" "one" "other"):=⟨vf T,T.g_Two,T.mk_Two,T.b_Two___init__⟩
    have m_Mod : Maker P w K mg base "Mod" a.c_Mod a.f_Mod___init__ a.d_Mod___init__ ["self", "inner", "number"] 1 (zi5 a.c_Mod "inner" "number"):=⟨vh T,T.g_Mod,T.mk_Mod,T.b_Mod___init__⟩
    have m_Less : Maker P w K mg base "Less" a.c_Less a.f_Less___init__ a.d_Less___init__ ["self", "one", "other", "third", "fourth"] 1 (zi3 a.c_Less "one" "other" "third" "fourth"):=⟨wy T,T.g_Less,T.mk_Less,T.b_Less___init__⟩
    refine T.F__law_made.ok uH (fun vs H Q E h=>?_) (fun cdv A outer s H vs Q E hr h=>?_)
    · obtain ⟨e,v,names,rfl,_⟩:=h
      rfl
    · obtain ⟨e,v,names,rfl,ht,hdep,ho,k⟩:=h
      refine yh (zd (zx (zn wa (zm yN (zj 0) zb (fun _ _=>rfl)) ze (zD _))
        (zf (zk (xD m_Num (hr.mono (by omega)) (zg (zm yN (zj 0) zb (fun _ _=>rfl)) za))))
        zo)
      (zd (zx (zn wa (zm yN (zj 0) zb (fun _ _=>rfl)) ze (zD _))
        (zf (zk (xD m_Name (hr.mono (by omega)) (zg (zm yN (zj 0) zb (fun _ _=>rfl)) za))))
        zo)
      (zd (zx (zn wa (zm yN (zj 0) zb (fun _ _=>rfl)) ze (zD _))
        (zf (zk (xD m_Mod (hr.mono (by omega)) (zF (zt c__law_made (hr.mono (by omega)) (zg (zm yN (zj 0) zb (fun _ _=>rfl)) za)) (zg (zm yN (zj 0) zb (fun _ _=>rfl)) za)))))
        zo)
      (zd (zx (zn wa (zm yN (zj 0) zb (fun _ _=>rfl)) ze (zD _))
        (zf (zk (xD m_Less (hr.mono (by omega)) (zF (zt c__law_made (hr.mono (by omega)) (zg (zm yN (zj 0) zb (fun _ _=>rfl)) za)) (zF (zt c__law_made (hr.mono (by omega)) (zg (zm yN (zj 0) zb (fun _ _=>rfl)) za)) (zF (zt c__law_made (hr.mono (by omega)) (zg (zm yN (zj 0) zb (fun _ _=>rfl)) za)) (zF (zt c__law_made (hr.mono (by omega)) (zg (zm yN (zj 0) zb (fun _ _=>rfl)) za)) za)))))))
        zo)
      (zf (zk (xD m_Two (hr.mono (by omega)) (zg (zm yN (zj 0) zb (fun _ _=>rfl)) (zF (zt c__law_made (hr.mono (by omega)) (zg (zm yN (zj 0) zb (fun _ _=>rfl)) za)) (zF (zt c__law_made (hr.mono (by omega)) (zg (zm yN (zj 0) zb (fun _ _=>rfl)) za)) za)))))))))) ?_
      cases e with
      | num i =>
        obtain ⟨p,rfl,hp⟩:=ht
        refine ⟨_,rfl,p,_,0,_,rfl,rfl,SqT.of hp,rfl,rfl,_,rfl,xc (by decide +kernel) ?_⟩
        refine ⟨_,rfl,p,_,1,_,rfl,rfl,SqT.of hp,rfl,fun x dx nx ndx nex=>⟨x,dx,_,rfl,upd_same,rfl,?_⟩⟩
        exact k _ _ ⟨x,dx,rfl,upd_same⟩ (Same.made nx ndx)
      | name i =>
        obtain ⟨p,rfl,hp⟩:=ht
        refine ⟨_,rfl,p,_,0,_,rfl,rfl,SqT.of hp,rfl,rfl,_,rfl,iteN (by decide +kernel) ?_⟩
        refine ⟨_,rfl,p,_,0,_,rfl,rfl,SqT.of hp,rfl,rfl,_,rfl,xc (by decide +kernel) ?_⟩
        refine ⟨_,rfl,p,_,1,_,rfl,rfl,SqT.of hp,rfl,fun x dx nx ndx nex=>⟨x,dx,_,rfl,upd_same,rfl,?_⟩⟩
        exact k _ _ ⟨x,dx,rfl,upd_same⟩ (Same.made nx ndx)
      | mod e1 i =>
        obtain ⟨p,u1,rfl,hp,t1⟩:=ht
        obtain ⟨_,o1⟩:=ho
        have hdep : e1.dep + 1 ≤ n + 1:=hdep
        refine ⟨_,rfl,p,_,0,_,rfl,rfl,SqT.of hp,rfl,rfl,_,rfl,iteN (by decide +kernel) ?_⟩
        refine ⟨_,rfl,p,_,0,_,rfl,rfl,SqT.of hp,rfl,rfl,_,rfl,iteN (by decide +kernel) ?_⟩
        refine ⟨_,rfl,p,_,0,_,rfl,rfl,SqT.of hp,rfl,rfl,_,rfl,xc (by decide +kernel) ?_⟩
        refine ⟨_,rfl,p,_,1,_,rfl,rfl,SqT.of hp,rfl,e1,_,names,rfl,t1,by omega,o1,fun r1 H1 m1 s1=>?_⟩
        refine ⟨_,rfl,p,_,2,_,rfl,rfl,SqT.of (s1 _ _ hp),rfl,fun x dx nx ndx nex=>⟨x,dx,_,_,rfl,upd_same,rfl,?_⟩⟩
        exact k _ _ ⟨x,dx,r1,rfl,upd_same,m1.same (Same.made nx ndx)⟩ (s1.trans (Same.made nx ndx))
      | less e1 e2 e3 e4 =>
        obtain ⟨p,u1,u2,u3,u4,rfl,hp,t1,t2,t3,t4⟩:=ht
        obtain ⟨o1,o2,o3,o4⟩:=ho
        have hdep : max (max e1.dep e2.dep) (max e3.dep e4.dep) + 1 ≤ n + 1:=hdep
        refine ⟨_,rfl,p,_,0,_,rfl,rfl,SqT.of hp,rfl,rfl,_,rfl,iteN (by decide +kernel) ?_⟩
        refine ⟨_,rfl,p,_,0,_,rfl,rfl,SqT.of hp,rfl,rfl,_,rfl,iteN (by decide +kernel) ?_⟩
        refine ⟨_,rfl,p,_,0,_,rfl,rfl,SqT.of hp,rfl,rfl,_,rfl,iteN (by decide +kernel) ?_⟩
        refine ⟨_,rfl,p,_,0,_,rfl,rfl,SqT.of hp,rfl,rfl,_,rfl,xc (by decide +kernel) ?_⟩
        refine ⟨_,rfl,p,_,1,_,rfl,rfl,SqT.of hp,rfl,e1,_,names,rfl,t1,by omega,o1,fun r1 H1 m1 s1=>?_⟩
        refine ⟨_,rfl,p,_,2,_,rfl,rfl,SqT.of (s1 _ _ hp),rfl,e2,_,names,rfl,t2.same s1,by omega,o2,fun r2 H2 m2 s2=>?_⟩
        have s12:=s1.trans s2
        refine ⟨_,rfl,p,_,3,_,rfl,rfl,SqT.of (s12 _ _ hp),rfl,e3,_,names,rfl,t3.same s12,by omega,o3,fun r3 H3 m3 s3=>?_⟩
        have s123:=s12.trans s3
        refine ⟨_,rfl,p,_,4,_,rfl,rfl,SqT.of (s123 _ _ hp),rfl,e4,_,names,rfl,t4.same s123,by omega,o4,fun r4 H4 m4 s4=>?_⟩
        refine fun x dx nx ndx nex=>⟨x,dx,_,_,_,_,rfl,upd_same,rfl,?_⟩
        have s5 : Same H4 _:=Same.made (C:=a.c_Less) (fs:=[("one",r1),("other",r2),("third",r3),("fourth",r4)]) (fs':=[]) nx ndx
        exact k _ _ ⟨x,dx,r1,r2,r3,r4,rfl,upd_same,m1.same (s2.trans (s3.trans (s4.trans s5))),m2.same (s3.trans (s4.trans s5)),m3.same (s4.trans s5),m4.same s5⟩ (s123.trans (s4.trans s5))
      | two wd e1 e2 =>
        obtain ⟨p,u1,u2,rfl,hp,t1,t2⟩:=ht
        obtain ⟨hw,o1,o2⟩:=ho
        have hdep : max e1.dep e2.dep + 1 ≤ n + 1:=hdep
        obtain ⟨w1,w2,w3,w4⟩:=zcc hw
        refine ⟨_,rfl,p,_,0,_,rfl,rfl,SqT.of hp,rfl,rfl,_,rfl,iteN w1 ?_⟩
        refine ⟨_,rfl,p,_,0,_,rfl,rfl,SqT.of hp,rfl,rfl,_,rfl,iteN w2 ?_⟩
        refine ⟨_,rfl,p,_,0,_,rfl,rfl,SqT.of hp,rfl,rfl,_,rfl,iteN w3 ?_⟩
        refine ⟨_,rfl,p,_,0,_,rfl,rfl,SqT.of hp,rfl,rfl,_,rfl,iteN w4 ?_⟩
        refine ⟨_,rfl,p,_,0,_,rfl,rfl,SqT.of hp,rfl,?_⟩
        refine ⟨_,rfl,p,_,1,_,rfl,rfl,SqT.of hp,rfl,e1,_,names,rfl,t1,by omega,o1,fun r1 H1 m1 s1=>?_⟩
        refine ⟨_,rfl,p,_,2,_,rfl,rfl,SqT.of (s1 _ _ hp),rfl,e2,_,names,rfl,t2.same s1,by omega,o2,fun r2 H2 m2 s2=>?_⟩
        refine fun x dx nx ndx nex=>⟨x,dx,_,_,_,rfl,upd_same,rfl,?_⟩
        have s5 : Same H2 _:=Same.made (C:=a.c_Two) (fs:=[("word",V.str wd),("one",r1),("other",r2)]) (fs':=[]) nx ndx
        exact k _ _ ⟨x,dx,r1,r2,rfl,upd_same,m1.same (s2.trans s5),m2.same s5⟩ ((s1.trans s2).trans s5)
end
end K04

namespace K04
open PySem L2
section
variable {P : Program} {w : World} {K : PySem.W.Frag} {mg : Str→Option Value} {base : Heap} {a : Ad}
def Xc (n : Nat) : Sp:=fun vs H Q _=>∃ (l nm : Addr) (names : List Str) (deep : Int),vs = [.ref l,.ref nm,.int deep]∧StAt H l∧H nm = some (.lst (names.map V.str))∧nm ≠ l∧0 < names.length∧names.length ≤ 100∧1 ≤ deep∧deep ≤ n ∧
  ∀ (e : Ex) (v : V) (H' : Hp),Told H' e v→e.ok names→e.dep ≤ n→StAt H' l→Ext l H H'→Q v H'
theorem XG (T : Txt w K mg a) : ∀ n,FnOk P w K mg base CX0 (n + 2) a.f__law_expr a.d__law_expr ["_law_state", "_law_names", "_law_deep"] (Xc n)
  | 0=>⟨fun vs H Q E h=>by
      obtain ⟨l,nm,names,deep,rfl,_⟩:=h
      rfl,fun A outer s H args us vs Q E _ _ _ _ h=>by
      obtain ⟨l,nm,names,deep,_,_,_,_,_,_,h1,h2,_⟩:=h
      omega⟩
  | n + 1=>by
    have c__law_digit : Callee P w K mg base "_law_digit" a.f__law_digit a.d__law_digit ["_law_state", "_law_base"] 1 Xd:=⟨Vb T,T.g__law_digit,T.F__law_digit.kp,T.b__law_digit⟩
    have c__law_expr : Callee P w K mg base "_law_expr" a.f__law_expr a.d__law_expr ["_law_state", "_law_names", "_law_deep"] (n + 2) (Xc n):=⟨XG T n,T.g__law_expr,T.F__law_expr.kp,T.b__law_expr⟩
    refine T.F__law_expr.ok sc__law_expr (fun vs H Q E h=>?_) (fun cdv A outer s H vs Q E hr h=>?_)
    · obtain ⟨l,nm,names,deep,rfl,_⟩:=h
      rfl
    · obtain ⟨l,nm,names,deep,rfl,hs,hnm,hne,hn0,hn1,hd1,hd2,k⟩:=h
      refine yh (zd (zr (i:=3) sc__law_expr.nd rfl (Or.inl rfl) (zt c__law_digit (hr.mono (by omega)) (zh (zj 0) (zl zb za))))
      (zd (zx (zaI (xC (zn uV (zj 2) zb (zD _)) (xK (zn uV (zj 3) zb (zD _)))))
        (zd (zx (zn wa (zi xI (zj 3) zb) zb (zD _))
          (zf (zk (yS (zl ze (zg (zm zu (zj 1) (zt c__law_digit (hr.mono (by omega)) (zh (zj 0) (zF (zq zE (by rfl) T.n_len xl (zh (zj 1) za)) za))) (fun _ _=>rfl)) za)))))
          zo)
        (zd (zr (i:=4) sc__law_expr.nd rfl (Or.inl rfl) (zt c__law_digit (hr.mono (by omega)) (zh (zj 0) (zg (zm zu (zp (zl zb (zl zb (zL (zi uU zb zb) za)))) (zt c__law_digit (hr.mono (by omega)) (zh (zj 0) (zl zb za))) (fun _ _=>rfl)) za))))
        (zf (zk (yS (zl ze (zg (zm zu (zp (zh (zj 4) (zL (zi wm zb (zj 4)) za))) (zt c__law_digit (hr.mono (by omega)) (zh (zj 0) (zl zb za))) (fun _ _=>rfl)) za)))))))
        zo)
      (zd (zx (zn uV (zj 3) zb (zD _))
        (zd (zr (i:=5) sc__law_expr.nd rfl (Or.inl rfl) (zm zu (zp (zl ze (zl ze (zl ze (zl ze za))))) (zt c__law_digit (hr.mono (by omega)) (zh (zj 0) (zl zb za))) (fun _ _=>rfl)))
        (zd (zr (i:=6) sc__law_expr.nd rfl (Or.inl rfl) (zt c__law_expr (hr.mono (by omega)) (zh (zj 0) (zh (zj 1) (zL (zi wm (zj 2) zb) za)))))
        (zf (zk (yS (zh (zj 5) (zh (zj 6) (zF (zt c__law_expr (hr.mono (by omega)) (zh (zj 0) (zh (zj 1) (zL (zi wm (zj 2) zb) za)))) za))))))))
        zo)
      (zd (zx (zn wa (zj 3) zb (zD _))
        (zd (zr (i:=4) sc__law_expr.nd rfl (Or.inl rfl) (zi xB zb (zt c__law_digit (hr.mono (by omega)) (zh (zj 0) (zg (zm zu (zp (zl zb (zl zb (zL (zi uU zb zb) za)))) (zt c__law_digit (hr.mono (by omega)) (zh (zj 0) (zl zb za))) (fun _ _=>rfl)) za)))))
        (zf (zk (yS (zl ze (zF (zt c__law_expr (hr.mono (by omega)) (zh (zj 0) (zh (zj 1) (zL (zi wm (zj 2) zb) za)))) (zh (zj 4) za)))))))
        zo)
      (zd (zx (zn wa (zj 3) zb (zD _))
        (zf (zk (yS (zl ze (zg (zm zu (zj 1) (zt c__law_digit (hr.mono (by omega)) (zh (zj 0) (zF (zq zE (by rfl) T.n_len xl (zh (zj 1) za)) za))) (fun _ _=>rfl)) za)))))
        zo)
      (zd (uq (i:=7) rfl sc__law_expr.nd rfl (Or.inl rfl) (N':=["_law_k", "_law_state", "_law_names", "_law_deep"]) (t:=1) (caps:=[0,1,2]) ⟨rfl,rfl,rfl⟩ (Zm rfl T.n_range (zl zb za)) (fun _=>(zY (i:=0) (show (["_law_k", "_law_state", "_law_names", "_law_deep"] : List Str).Nodup by decide +kernel) rfl (Or.inl rfl))) (fun _=>uo) (fun _=>(zt c__law_expr (hr.mono (by omega)) (zh (zj 1) (zh (zj 2) (zF (zq (Zf rfl) (by rfl) T.n_min Uv (zl zb (zL (zi wm (zj 3) zb) za))) za))))))
      (zf (zk (yS (zl ze (zg (zm zu (zj 7) zb (fun _ _=>rfl)) (zg (zm zu (zj 7) zb (fun _ _=>rfl)) (zg (zm zu (zj 7) zb (fun _ _=>rfl)) (zg (zm zu (zj 7) zb (fun _ _=>rfl)) za)))))))))))))) ?_
      refine ⟨_,rfl,l,10,rfl,hs,by decide,by decide,fun kd H1 k0 k1 s1 x1=>?_⟩
      have hnm1:=x1 _ _ hnm hne
      refine ⟨_,rfl,_,_,rfl,rfl,_,rfl,?_⟩
      by_cases hl : deep < 2∨kd < 3
      · have alt : ∀ {A B C : Prop},(deep < 2→A)→(¬ deep < 2→C)→if decide (deep < 2) = true then A else C:=fun f g=>by
          by_cases z : deep < 2
          · exact xc (decide_eq_true z) (f z)
          · exact iteN (decide_eq_false z) (g z)
        refine alt (B:=True) (fun z=>WB ?_) (fun z=>⟨_,rfl,_,_,rfl,rfl,_,rfl,xc (decide_eq_true (hl.resolve_left z)) ?_⟩)
        all_goals
          refine ⟨_,rfl,_,_,rfl,rfl,(by show (0 : Int) < 2; decide),rfl,_,rfl,?_⟩
          refine Vw (fun _=>?_) (fun _=>?_)
          · refine ⟨_,rfl,_,rfl,_,rfl,nm,_,rfl,.inl (SqL.of hnm1),l,_,rfl,s1,(by rw [List.length_map]; omega),XV (m:=8) (by rw [List.length_map]; omega) (by rw [List.length_map]; omega) (by decide),fun d2 H2 g1 g2 s2 x2=>?_⟩
            obtain ⟨x,hx,ea⟩:=zdK g1 g2
            refine ⟨nm,_,d2,_,rfl,rfl,SqL.of (x2 _ _ hnm1 hne),ea,(by show 2 ≤ sizeLine; decide),fun p hp=>?_⟩
            exact k (.name x) _ _ ⟨p,rfl,upd_same⟩ hx (Nat.le_add_left _ _) (s2.new hp) ((x1.trans x2).trans (Ext.new hp))
          · refine ⟨_,rfl,_,_,rfl,rfl,⟨by decide,by decide,by decide⟩,(by show 3 ≤ sizeLine; decide),fun p1 hp1=>?_⟩
            refine ⟨_,rfl,l,3,rfl,s1.new hp1,by decide,by decide,fun d1 H2 g1 g2 s2 x2=>?_⟩
            have n1:=s1.ne hp1
            obtain ⟨v1,a1,b1⟩:=zdM (x:=10) (y:=1000) (z:=(10 : Int) ^ (20 : Int).toNat) g1 g2
            rw [zdI] at b1
            obtain ⟨c1,c2⟩:=Z4 b1 (by decide) (by decide) (by decide)
            refine ⟨p1,_,d1,_,rfl,rfl,SqL.of (x2 _ _ upd_same n1),a1,?_⟩
            refine ⟨l,v1,rfl,s2,c1,c2,fun d2 H3 g3 g4 s3 x3=>?_⟩
            refine ⟨_,rfl,_,rfl,_,_,rfl,rfl,(by show 2 ≤ sizeLine; decide),fun p2 hp2=>?_⟩
            have n2:=s3.ne hp2
            refine ⟨_,rfl,l,2,rfl,s3.new hp2,by decide,by decide,fun d3 H4 g5 g6 s4 x4=>?_⟩
            obtain ⟨v2,a2,b2⟩:=zje (x:=d2) (y:=0 - d2) g5 g6
            refine ⟨p2,_,d3,_,rfl,rfl,SqL.of (x4 _ _ upd_same n2),a2,(by show 2 ≤ sizeLine; decide),fun p hp=>?_⟩
            exact k (.num v2) _ _ ⟨p,rfl,upd_same⟩ (by show -100000000000000000000 < v2∧v2 < 100000000000000000000; omega) (Nat.le_add_left _ _) (s4.new hp) ((((x1.trans (Ext.new hp1)).trans x2).trans (x3.trans (Ext.new hp2))).trans (x4.trans (Ext.new hp)))
      · have hl1 : ¬ deep < 2:=fun z=>hl (.inl z)
        have hl2 : ¬ kd < 3:=fun z=>hl (.inr z)
        refine iteN (decide_eq_false hl1) ⟨_,rfl,_,_,rfl,rfl,_,rfl,iteN (decide_eq_false hl2) ?_⟩
        refine ⟨_,rfl,_,_,rfl,rfl,_,rfl,?_⟩
        refine Vw (fun _=>?_) (fun h7=>?_)
        · refine ⟨by show 4 ≤ sizeLine; decide,fun p1 hp1=>?_⟩
          refine ⟨_,rfl,l,4,rfl,s1.new hp1,by decide,by decide,fun d1 H2 g1 g2 s2 x2=>?_⟩
          have n1:=s1.ne hp1
          obtain ⟨wd,hw,aw⟩:=zdL g1 g2
          have X2 : Ext l H H2:=(x1.trans (Ext.new hp1)).trans x2
          refine ⟨p1,_,d1,_,rfl,rfl,SqL.of (x2 _ _ upd_same n1),aw,?_⟩
          refine ⟨_,rfl,_,rfl,_,rfl,_,_,rfl,rfl,l,nm,names,deep - 1,rfl,s2,X2 _ _ hnm hne,hne,hn0,hn1,by omega,by omega,fun e1 v1 H3 t1 o1 de1 s3 x3=>?_⟩
          refine ⟨_,rfl,_,rfl,_,rfl,_,rfl,_,rfl,_,_,rfl,rfl,l,nm,names,deep - 1,rfl,s3,(X2.trans x3) _ _ hnm hne,hne,hn0,hn1,by omega,by omega,fun e2 v2 H4 t2 o2 de2 s4 x4=>?_⟩
          refine ⟨by show 3 ≤ sizeLine; decide,fun p hp=>?_⟩
          have y5:=Same.new (o:=HO.tup [V.str wd,v1,v2]) hp
          exact k (.two wd e1 e2) _ _ ⟨p,v1,v2,rfl,upd_same,(t1.ext s3 x4).same y5,t2.same y5⟩ ⟨hw,o1,o2⟩ (by show max e1.dep e2.dep + 1 ≤ n + 1; omega) (s4.new hp) (((X2.trans x3).trans x4).trans (Ext.new hp))
        refine ⟨_,rfl,rfl,_,rfl,?_⟩
        refine Vw (fun _=>?_) (fun h8=>?_)
        · refine ⟨_,rfl,_,_,rfl,rfl,⟨by decide,by decide,by decide⟩,(by show 3 ≤ sizeLine; decide),fun p1 hp1=>?_⟩
          refine ⟨_,rfl,l,3,rfl,s1.new hp1,by decide,by decide,fun d1 H2 g1 g2 s2 x2=>?_⟩
          have n1:=s1.ne hp1
          obtain ⟨v1,a1,b1⟩:=zdM (x:=3) (y:=100) (z:=(10 : Int) ^ (9 : Int).toNat) g1 g2
          rw [zo9] at b1
          obtain ⟨c1,c2⟩:=Z4 b1 (by decide) (by decide) (by decide)
          refine ⟨p1,_,d1,_,rfl,rfl,SqL.of (x2 _ _ upd_same n1),a1,?_⟩
          refine ⟨l,v1,rfl,s2,c1,c2,fun d2 H3 g3 g4 s3 x3=>?_⟩
          have X3 : Ext l H H3:=((x1.trans (Ext.new hp1)).trans x2).trans x3
          refine ⟨_,_,rfl,rfl,_,rfl,_,rfl,_,rfl,_,_,rfl,rfl,l,nm,names,deep - 1,rfl,s3,X3 _ _ hnm hne,hne,hn0,hn1,by omega,by omega,fun e1 v2 H4 t1 o1 de1 s4 x4=>?_⟩
          refine ⟨_,rfl,(by show 3 ≤ sizeLine; decide),fun p hp=>?_⟩
          exact k (.mod e1 (1 + d2)) _ _ ⟨p,v2,rfl,upd_same,t1.same (Same.new hp)⟩ ⟨⟨by omega,by omega⟩,o1⟩ (by show e1.dep + 1 ≤ n + 1; omega) (s4.new hp) ((X3.trans x4).trans (Ext.new hp))
        refine ⟨_,rfl,rfl,_,rfl,?_⟩
        refine Vw (fun _=>?_) (fun h9=>?_)
        · refine ⟨_,rfl,_,rfl,_,rfl,nm,_,rfl,.inl (SqL.of hnm1),l,_,rfl,s1,(by rw [List.length_map]; omega),XV (m:=8) (by rw [List.length_map]; omega) (by rw [List.length_map]; omega) (by decide),fun d2 H2 g1 g2 s2 x2=>?_⟩
          obtain ⟨x,hx,ea⟩:=zdK g1 g2
          refine ⟨nm,_,d2,_,rfl,rfl,SqL.of (x2 _ _ hnm1 hne),ea,(by show 2 ≤ sizeLine; decide),fun p hp=>?_⟩
          exact k (.name x) _ _ ⟨p,rfl,upd_same⟩ hx (Nat.le_add_left _ _) (s2.new hp) ((x1.trans x2).trans (Ext.new hp))
        refine ⟨4,rfl,by decide,by decide,fun D hD _=>?_⟩
        have hDl:=s1.ne hD
        refine YG (lo:=0) (n:=4) (fun i zs τ H'=>∃ o,τ = [o,some (.ref l),some (.ref nm),some (.int deep)]∧zs.length = i∧H' D = some (.lst zs)∧StAt H' l∧Ext l H1 H'∧∀ v ∈ zs,∃ e,Told H' e v∧e.ok names∧e.dep ≤ n) ?_ ?_ ?_
        · exact ⟨none,rfl,rfl,upd_same,s1.new hD,Ext.new hD,fun v hv=>by cases hv⟩
        · rintro i zs τ H2 hi ⟨o,rfl,hz,hD2,s2,x2,hv⟩
          refine gn_if ?_
          refine ⟨_,rfl,_,rfl,_,rfl,_,_,rfl,rfl,2,deep - 1,rfl,l,nm,names,_,rfl,s2,x2 _ _ hnm1 hne,hne,hn0,hn1,?_,?_,fun e v H6 t6 o6 d6 s6 x6=>⟨x6 _ _ hD2 hDl,xp (by omega),some (V.int (0 + i)),rfl,by simp [hz],upd_same,?_,?_,fun v' hv'=>?_⟩⟩
          · by_cases q : deep - 1 < 2
            · rw [if_pos q]; omega
            · rw [if_neg q]; omega
          · by_cases q : deep - 1 < 2
            · rw [if_pos q]; omega
            · rw [if_neg q]; omega
          · obtain ⟨st,e,ok⟩:=s6
            exact ⟨st,by rw [upd_ne hDl.symm]; exact e,ok⟩
          · intro b o e nb
            rw [upd_ne (ne_of_none e hD)]
            exact (x2.trans x6) b o e nb
          · have hD6:=x6 _ _ hD2 hDl
            rcases List.mem_append.mp hv' with h | h
            · obtain ⟨e',t',o',d'⟩:=hv v' h
              exact ⟨e',(t'.ext s2 x6).updL hD6,o',d'⟩
            · rw [List.mem_singleton.mp h]
              exact ⟨e,t6.updL hD6,o6,d6⟩
        · rintro zs τ H2 ⟨o,_,hz,hD2,s2,x2,hv⟩
          match zs,hz with
          | [z1,z2,z3,z4],_ =>
            obtain ⟨e1,t1,o1,d1⟩:=hv z1 (by simp)
            obtain ⟨e2,t2,o2,d2⟩:=hv z2 (by simp)
            obtain ⟨e3,t3,o3,d3⟩:=hv z3 (by simp)
            obtain ⟨e4,t4,o4,d4⟩:=hv z4 (by simp)
            refine ⟨_,rfl,D,_,0,_,rfl,rfl,SqL.of hD2,rfl,_,rfl,D,_,1,_,rfl,rfl,SqL.of hD2,rfl,_,rfl,D,_,2,_,rfl,rfl,SqL.of hD2,rfl,_,rfl,D,_,3,_,rfl,rfl,SqL.of hD2,rfl,(by show 5 ≤ sizeLine; decide),fun p hp=>?_⟩
            have y:=Same.new (o:=HO.tup [V.str "less",z1,z2,z3,z4]) hp
            exact k (.less e1 e2 e3 e4) _ _ ⟨p,z1,z2,z3,z4,rfl,upd_same,t1.same y,t2.same y,t3.same y,t4.same y⟩ ⟨o1,o2,o3,o4⟩ (by show max (max e1.dep e2.dep) (max e3.dep e4.dep) + 1 ≤ n + 1; omega) (s2.new hp) ((x1.trans x2).trans (Ext.new hp))
end
end K04

namespace K04
open PySem L2
def VT (H : Hp) (n : Nat) (names : List Str) (parts : List V) (qs : List (Option Ex)) : Prop:=parts.length = qs.length∧∀ (i : Nat) x,parts[i]? = some x→(∃ e,qs[i]? = some (some e)∧Told H e x∧e.ok names∧e.dep ≤ n)∨(qs[i]? = some none∧∃ m,x = .int m)
def vW (qs : List (Option Ex)) : Int:=((qs.filterMap id).map fun e=>(e.size : Int)).sum
def zeg (w : Str) : Bool:=inV (.str w) [V.str "num",V.str "name"]
theorem Told.parts {H : Hp} {n : Nat} : ∀ {e : Ex} {v : V} {names : List Str},Told H e v→e.ok names→e.dep ≤ n + 1 →
    ∃ (p : Addr) (wd : Str) (parts : List V),v = .ref p∧H p = some (.tup (.str wd :: parts))∧((zeg wd = true∧e.size = 1)∨(zeg wd = false∧1 ≤ parts.length∧parts.length ≤ 4∧∃ qs,VT H n names parts qs∧(e.size : Int) = 1 + (if wd = "mod" then 1 else 0) + vW qs))
  | .num i,_,_,⟨p,e,h⟩,_,_=>⟨p, "num",_,e,h,.inl ⟨by decide +kernel,rfl⟩⟩
  | .name i,_,_,⟨p,e,h⟩,_,_=>⟨p, "name",_,e,h,.inl ⟨by decide +kernel,rfl⟩⟩
  | .two w e f,_,_,⟨p,a1,b1,e1,h1,s1,s2⟩,o,d=>by
    obtain ⟨hw,o1,o2⟩:=o
    have d : max e.dep f.dep + 1 ≤ n + 1:=d
    have nm : w ≠ "mod" := by rcases hw with rfl | rfl | rfl | rfl <;> decide +kernel
    refine ⟨p,w,_,e1,h1,.inr ⟨by rcases hw with rfl | rfl | rfl | rfl <;> decide +kernel,by simp,by simp,[some e,some f],⟨rfl,fun i x hi=>?_⟩,?_⟩⟩
    · match i,hi with
      | 0,hi=>cases hi; exact .inl ⟨e,rfl,s1,o1,by omega⟩
      | 1,hi=>cases hi; exact .inl ⟨f,rfl,s2,o2,by omega⟩
      | _ + 2,hi=>simp at hi
    · rw [if_neg nm]
      show ((1 + e.size + f.size : Nat) : Int) = _
      simp [vW]
      omega
  | .mod e m,_,_,⟨p,a1,e1,h1,s1⟩,⟨_,o1⟩,d=>by
    have d : e.dep + 1 ≤ n + 1:=d
    refine ⟨p, "mod",_,e1,h1,.inr ⟨by decide +kernel,by simp,by simp,[some e,none],⟨rfl,fun i x hi=>?_⟩,?_⟩⟩
    · match i,hi with
      | 0,hi=>cases hi; exact .inl ⟨e,rfl,s1,o1,by omega⟩
      | 1,hi=>cases hi; exact .inr ⟨rfl,m,rfl⟩
      | _ + 2,hi=>simp at hi
    · rw [if_pos rfl]
      show ((2 + e.size : Nat) : Int) = _
      simp [vW]
  | .less e f g k,_,_,⟨p,a1,b1,c1,d1,e1,h1,s1,s2,s3,s4⟩,⟨o1,o2,o3,o4⟩,d=>by
    have d : max (max e.dep f.dep) (max g.dep k.dep) + 1 ≤ n + 1:=d
    refine ⟨p, "less",_,e1,h1,.inr ⟨by decide +kernel,by simp,by simp,[some e,some f,some g,some k],⟨rfl,fun i x hi=>?_⟩,?_⟩⟩
    · match i,hi with
      | 0,hi=>cases hi; exact .inl ⟨e,rfl,s1,o1,by omega⟩
      | 1,hi=>cases hi; exact .inl ⟨f,rfl,s2,o2,by omega⟩
      | 2,hi=>cases hi; exact .inl ⟨g,rfl,s3,o3,by omega⟩
      | 3,hi=>cases hi; exact .inl ⟨k,rfl,s4,o4,by omega⟩
      | _ + 4,hi=>simp at hi
    · rw [if_neg (by decide +kernel)]
      show ((1 + e.size + f.size + g.size + k.size : Nat) : Int) = _
      simp [vW]
      omega
end K04

namespace K04
open PySem L2
theorem zjy {x : V} {xs : List V} : vA (x :: xs) (some 1) none = xs:=by
  have h1 : HT.sIx (x :: xs).length 0 (some 1) = 1:=by
    unfold HT.sIx
    simp
  have h2 : HT.sIx (x :: xs).length (x :: xs).length none = xs.length + 1:=rfl
  unfold vA
  rw [h1,h2]
  simp
theorem at0 {x : V} {xs : List V} : atI (x :: xs) 0 = some x:=by
  unfold atI ixN
  simp
section
variable {P : Program} {w : World} {K : PySem.W.Frag} {mg : Str→Option Value} {base : Heap} {a : Ad}
def Y7 (n : Nat) : Sp:=fun vs H Q _=>∃ (e : Ex) (v : V) (names : List Str),vs = [v]∧Told H e v∧e.ok names∧e.dep ≤ n∧∀ H',Same H H'→Q (.int e.size) H'
theorem XC (T : Txt w K mg a) : ∀ n,FnOk P w K mg base CX0 (n + 1) a.f__law_size a.d__law_size ["_law_told"] (Y7 n)
  | 0=>⟨fun vs H Q E h=>by
      obtain ⟨e,v,names,rfl,_⟩:=h
      rfl,fun A outer s H args us vs Q E _ _ _ _ h=>by
      obtain ⟨e,v,names,_,_,_,hd,_⟩:=h
      have:=e.dep_pos
      omega⟩
  | n + 1=>by
    have c__law_size : Callee P w K mg base "_law_size" a.f__law_size a.d__law_size ["_law_told"] (n + 1) (Y7 n):=⟨XC T n,T.g__law_size,T.F__law_size.kp,T.b__law_size⟩
    refine T.F__law_size.ok uG (fun vs H Q E h=>?_) (fun cdv A outer s H vs Q E hr h=>?_)
    · obtain ⟨e,v,names,rfl,_⟩:=h
      rfl
    · obtain ⟨e,v,names,rfl,ht,ho,hdep,k⟩:=h
      obtain ⟨p,wd,parts,rfl,hp,alt⟩:=ht.parts ho hdep
      refine yh (zd (zx (zn vd (zm yN (zj 0) zb (fun _ _=>rfl)) (zp (zl ze (zl ze za))) (by with_unfolding_all rfl))
        (zf (zk zb))
        zo)
      (zf (zk (zi xB (zi xB zb (yU Zg (by rfl) T.n_int Yl (zg (yo wa (zm yN (zj 0) zb (fun _ _=>rfl)) ze (zD _)) za))) (zq (Ze rfl) (by rfl) T.n_sum Uu (zg (uv rfl (N':=["_law_part"]) (t:=1) (caps:=[]) ⟨rfl,rfl,rfl⟩ (WG (zv zdv (zj 0) (zy zb) zA)) (fun _=>(zY (i:=0) (show (["_law_part"] : List Str).Nodup by decide +kernel) rfl (Or.inl rfl))) (fun _=>(YN (zX (zq ym (by rfl) T.n_isinstance zB (zh (zj 0) (zh (xN T.n_tuple VP) za)))))) (fun _=>(zt c__law_size (hr.mono (by omega)) (zh (zj 0) za)))) za)))))) ?_
      refine ⟨_,rfl,p,_,0,_,rfl,rfl,SqT.of hp,at0,(by show 2 ≤ sizeLine; decide),fun q0 hq0=>?_⟩
      have s0:=Same.new (o:=HO.lst [V.str "num",V.str "name"]) hq0
      refine ⟨q0,_,rfl,.inl (SqL.of upd_same),rfl,rfl,_,rfl,?_⟩
      rcases alt with ⟨lw,sz⟩ | ⟨lw,l1,l4,qs,⟨hlen,hq⟩,sz⟩
      · refine xc lw ?_
        have:=k _ s0
        rw [sz] at this
        exact this
      · refine iteN lw ?_
        refine ⟨_,rfl,p,_,0,_,rfl,rfl,SqT.of (s0 _ _ hp),at0,rfl,.inr ⟨_,rfl,_,_,rfl,rfl,?_⟩⟩
        refine ⟨_,rfl,_,rfl,p,_,rfl,SqT.of (s0 _ _ hp),(fun z=>by
          have h1 : HT.sIx (V.str wd :: parts).length 0 (some 1) = 1:=by
            unfold HT.sIx
            simp
          rw [h1] at z
          exact absurd z.1 (by decide)),fun lt hlt=>?_⟩
        rw [zjy]
        have s1:=s0.trans (Same.new (o:=HO.tup parts) hlt)
        refine ⟨lt,rfl,⟨_,SqT.of upd_same⟩,fun D hD _=>?_⟩
        refine VJ (K:=K) (a:=lt) (xs:=parts) (fun i zs τ H'=>∃ o,τ = [o]∧i ≤ parts.length∧zs = (((qs.take i).filterMap id).map fun e=>V.int (e.size : Int))∧H' D = some (.lst zs)∧Same (upd (upd H q0 (HO.lst [V.str "num",V.str "name"])) lt (HO.tup parts)) H') ?_ ?_ ?_ ?_
        · exact ⟨none,rfl,Nat.zero_le _,by simp,upd_same,Same.new hD⟩
        · rintro i zs τ H' ⟨o,_,_,_,_,sm⟩
          exact SqT.of (sm _ _ upd_same)
        · rintro i x zs τ H' hi ⟨o,rfl,_,rfl,hD',sm⟩
          have hi' : i < parts.length:=(List.getElem?_eq_some_iff.mp hi).1
          have s2:=s1.trans sm
          rcases hq i x hi with ⟨e',he,te,oe,de⟩ | ⟨he,m,rfl⟩
          · obtain ⟨pe,xs,rfl,hpe⟩:=te.ref
            refine ⟨_,rfl,_,_,_,_,_,rfl,rfl,TyOf.tup (s2 _ _ hpe),T.k_ttuple_ttuple,_,rfl,WB ?_⟩
            refine ⟨_,rfl,e',_,names,rfl,te.same s2,oe,de,fun H3 s3=>⟨s3 _ _ hD',?_,some (.ref pe),rfl,hi',?_,upd_same,?_⟩⟩
            · rw [List.length_map]
              exact xp (Nat.le_trans (List.length_filterMap_le _ _) (Nat.le_trans (List.length_take_le _ _) (by omega)))
            · rw [List.take_add_one,he]
              simp
            · intro b o e
              have hb : b ≠ D:=ne_of_none e hD
              rw [upd_ne hb]
              exact s3 b o (sm b o e)
          · refine ⟨_,rfl,_,_,_,_,_,rfl,rfl,TyOf.int m,T.k_tint_ttuple,_,rfl,u7 ?_⟩
            exact ⟨_,rfl,hi',by rw [List.take_add_one,he]; simp,hD',sm⟩
        · rintro zs τ H' ⟨o,rfl,_,rfl,hD',sm⟩
          rw [hlen,List.take_length] at hD'
          refine ⟨D,(qs.filterMap id).map fun e=>(e.size : Int),rfl,SqL.of (by rw [List.map_map]; exact hD'),_,_,rfl,rfl,?_⟩
          have k':=k H' (s1.trans sm)
          rw [sz] at k'
          have e2 : (if decide (V.str wd = V.str "mod") = true then (1 : Int) else 0) = (if wd = "mod" then 1 else 0):=by
            by_cases q : wd = "mod"
            · rw [if_pos q,if_pos (by rw [q]; simp)]
            · rw [if_neg q,if_neg (by simpa using q)]
          rw [← e2] at k'
          exact k'
end
end K04

namespace K04
open PySem L2
section
variable {P : Program} {w : World} {K : PySem.W.Frag} {mg : Str→Option Value} {base : Heap} {a : Ad}
def V4 (n : Nat) : Sp:=fun vs H Q _=>∃ (l nm : Addr) (x0 : Str) (names : List Str) (deep : Int),vs = [.ref l,.ref nm,.int deep]∧StAt H l∧H nm = some (.lst ((x0 :: names).map V.str))∧nm ≠ l∧names.length < 100∧1 ≤ deep∧deep ≤ n ∧
  ∀ (e : Ex) (v : V) (H' : Hp),Told H' e v→e.ok (x0 :: names)→e.dep ≤ n→e.size ≤ 15→StAt H' l→Ext l H H'→Q v H'
theorem zah (T : Txt w K mg a) (n : Nat) : FnOk P w K mg base CX0 (n + 3) a.f__law_fits a.d__law_fits ["_law_state", "_law_names", "_law_deep"] (V4 n):=by
  have c__law_expr : Callee P w K mg base "_law_expr" a.f__law_expr a.d__law_expr ["_law_state", "_law_names", "_law_deep"] (n + 2) (Xc n):=⟨XG T n,T.g__law_expr,T.F__law_expr.kp,T.b__law_expr⟩
  have c__law_size : Callee P w K mg base "_law_size" a.f__law_size a.d__law_size ["_law_told"] (n + 1) (Y7 n):=⟨XC T n,T.g__law_size,T.F__law_size.kp,T.b__law_size⟩
  refine T.F__law_fits.ok sc__law_fits (fun vs H Q E h=>?_) (fun cdv A outer s H vs Q E hr h=>?_)
  · obtain ⟨l,nm,x0,names,deep,rfl,_⟩:=h
    rfl
  · obtain ⟨l,nm,x0,names,deep,rfl,hs,hnm,hne,hn,d1,d2,k⟩:=h
    refine yh (zd (zr (i:=3) sc__law_fits.nd rfl (Or.inl rfl) (zt c__law_expr (hr.mono (by omega)) (zh (zj 0) (zh (zj 1) (zh (zj 2) za)))))
      (zd (zx (zn W7 (zt c__law_size (hr.mono (by omega)) (zh (zj 3) za)) zb (zD _))
        (zf (zk (yS (zl ze (zg (zm zu (zj 1) zb (fun _ _=>rfl)) za)))))
        zo)
      (zf (zk (zj 3))))) ?_
    refine ⟨_,rfl,_,rfl,_,rfl,l,nm,x0 :: names,deep,rfl,hs,hnm,hne,(by simp),(by simp; omega),d1,d2,fun e v H1 t1 o1 dd s1 x1=>?_⟩
    refine ⟨_,rfl,e,v,x0 :: names,rfl,t1,o1,dd,fun H2 s2=>⟨_,_,rfl,rfl,_,rfl,?_⟩⟩
    have hs2:=s1.same s2
    have x2 : Ext l H H2:=x1.trans (Ext.same s2)
    refine Vw (fun q=>?_) (fun q=>?_)
    · refine ⟨_,rfl,nm,_,0,V.str x0,rfl,rfl,SqL.of (x2 _ _ hnm hne),at0,(by show 2 ≤ sizeLine; decide),fun p hp=>?_⟩
      have:=e.dep_pos
      exact k (.name x0) _ _ ⟨p,rfl,upd_same⟩ (List.mem_cons_self) (by show 1 ≤ n; omega) (by show 1 ≤ 15; decide) (hs2.new hp) (x2.trans (Ext.new hp))
    · have q' : ¬ ((e.size : Int) > 15):=fun z=>q (decide_eq_true z)
      exact ⟨_,rfl,k e v H2 (t1.same s2) o1 dd (by omega) hs2 x2⟩
def V3 : Sp:=fun vs H Q _=>∃ (l : Addr),vs = [.ref l]∧StAt H l ∧
  ∀ (q : Addr) (v1 v2 v3 v4 : V) (e1 e2 e3 e4 : Ex) (H' : Hp),H q = none→H' q = some (.lst [v1,v2,v3,v4])→(Told H' e1 v1∧e1.ok startNs∧e1.dep ≤ 4∧e1.size ≤ 15)→(Told H' e2 v2∧e2.ok sendNs∧e2.dep ≤ 4∧e2.size ≤ 15)→(Told H' e3 v3∧e3.ok sendNs∧e3.dep ≤ 4∧e3.size ≤ 15)→(Told H' e4 v4∧e4.ok renewNs∧e4.dep ≤ 4∧e4.size ≤ 15) →
    StAt H' l→Ext l H H'→Q (.ref q) H'
theorem zag (T : Txt w K mg a) : FnOk P w K mg base CX0 8 a.f__law_four a.d__law_four ["_law_state"] V3:=by
  have c__law_fits : Callee P w K mg base "_law_fits" a.f__law_fits a.d__law_fits ["_law_state", "_law_names", "_law_deep"] 7 (V4 4):=⟨zah T 4,T.g__law_fits,T.F__law_fits.kp,T.b__law_fits⟩
  refine T.F__law_four.ok sc__law_four (fun vs H Q E h=>?_) (fun cdv A outer s H vs Q E hr h=>?_)
  · obtain ⟨l,rfl,_⟩:=h
    rfl
  · obtain ⟨l,rfl,hs,k⟩:=h
    refine yh (zd (zr (i:=1) sc__law_four.nd rfl (Or.inl rfl) (zp (zl ze (zl ze za))))
      (zd (zr (i:=2) sc__law_four.nd rfl (Or.inl rfl) (zp (zl ze (zl ze (zl ze (zl ze (zl ze za)))))))
      (zd (zr (i:=3) sc__law_four.nd rfl (Or.inl rfl) (zp (zl ze (zl ze (zl ze (zl ze (zl ze (zl ze (zl ze (zl ze za))))))))))
      (zd (zr (i:=4) sc__law_four.nd rfl (Or.inl rfl) (zt c__law_fits (hr.mono (by omega)) (zh (zj 0) (zh (zj 1) (zl zb za)))))
      (zd (zr (i:=5) sc__law_four.nd rfl (Or.inl rfl) (zt c__law_fits (hr.mono (by omega)) (zh (zj 0) (zh (zj 2) (zl zb za)))))
      (zd (zr (i:=6) sc__law_four.nd rfl (Or.inl rfl) (zt c__law_fits (hr.mono (by omega)) (zh (zj 0) (zh (zj 2) (zl zb za)))))
      (zf (zk (zp (zh (zj 4) (zh (zj 5) (zh (zj 6) (zF (zt c__law_fits (hr.mono (by omega)) (zh (zj 0) (zh (zj 3) (zl zb za)))) za))))))))))))) ?_
    refine ⟨by show 2 ≤ sizeLine; decide,fun n1 h1=>?_⟩
    have s1:=hs.new (o:=HO.lst (startNs.map V.str)) h1
    refine ⟨by show 5 ≤ sizeLine; decide,fun n2 h2=>?_⟩
    have s2:=s1.new (o:=HO.lst (sendNs.map V.str)) h2
    refine ⟨by show 8 ≤ sizeLine; decide,fun n3 h3=>?_⟩
    have s3:=s2.new (o:=HO.lst (renewNs.map V.str)) h3
    have e1:=hs.ne h1
    have e2:=s1.ne h2
    have e3:=s2.ne h3
    have x3 : Ext l H _:=((Ext.new (l:=l) (o:=HO.lst (startNs.map V.str)) h1).trans (Ext.new (o:=HO.lst (sendNs.map V.str)) h2)).trans (Ext.new (o:=HO.lst (renewNs.map V.str)) h3)
    have g1:=(Same.new (o:=HO.lst (renewNs.map V.str)) h3) _ _ ((Same.new (o:=HO.lst (sendNs.map V.str)) h2) _ _ (upd_same (H:=H) (a:=n1) (o:=HO.lst (startNs.map V.str))))
    have g2:=(Same.new (o:=HO.lst (renewNs.map V.str)) h3) _ _ (upd_same (H:=upd H n1 (HO.lst (startNs.map V.str))) (a:=n2) (o:=HO.lst (sendNs.map V.str)))
    have g3:=upd_same (H:=upd (upd H n1 (HO.lst (startNs.map V.str))) n2 (HO.lst (sendNs.map V.str))) (a:=n3) (o:=HO.lst (renewNs.map V.str))
    refine ⟨_,rfl,_,rfl,l,n1, "me",["lines"],4,rfl,s3,g1,e1,by decide,by decide,by decide,fun a1 v1 H4 t1 o1 d1 z1 s4 x4=>?_⟩
    refine ⟨_,rfl,_,rfl,l,n2, "worth",["me", "round", "lines", "to"],4,rfl,s4,x4 _ _ g2 e2,e2,by decide,by decide,by decide,fun a2 v2 H5 t2 o2 d2 z2 s5 x5=>?_⟩
    refine ⟨_,rfl,_,rfl,l,n2, "worth",["me", "round", "lines", "to"],4,rfl,s5,(x4.trans x5) _ _ g2 e2,e2,by decide,by decide,by decide,fun a3 v3 H6 t3 o3 d3 z3 s6 x6=>?_⟩
    refine ⟨_,rfl,_,rfl,_,rfl,_,rfl,_,rfl,l,n3, "worth",["me", "round", "lines", "sum", "least", "most", "count"],4,rfl,s6,((x4.trans x5).trans x6) _ _ g3 e3,e3,by decide,by decide,by decide,fun a4 v4 H7 t4 o4 d4 z4 s7 x7=>?_⟩
    refine ⟨by show 4 ≤ sizeLine; decide,fun q hq=>?_⟩
    have y:=Same.new (o:=HO.lst [v1,v2,v3,v4]) hq
    have x37:=((x4.trans x5).trans x6).trans x7
    have hq0 : H q = none:=by
      cases e : H q with
      | none=>rfl
      | some o =>
        have hql:=s7.ne hq
        rw [(x3.trans x37) _ _ e hql] at hq
        cases hq
    exact k q v1 v2 v3 v4 a1 a2 a3 a4 _ hq0 upd_same ⟨(t1.ext s4 ((x5.trans x6).trans x7)).same y,o1,d1,z1⟩ ⟨(t2.ext s5 (x6.trans x7)).same y,o2,d2,z2⟩ ⟨(t3.ext s6 x7).same y,o3,d3,z3⟩ ⟨t4.same y,o4,d4,z4⟩ (s7.new hq) ((x3.trans x37).trans (Ext.new hq))
end
end K04

namespace K04
open PySem L2
theorem xA {x y : Str} : decide (V.str x = V.str y) = decide (x = y):=by
  by_cases h : x = y
  · rw [decide_eq_true h,decide_eq_true (by rw [h])]
  · rw [decide_eq_false h,decide_eq_false (by intro z; exact h (V.str.inj z))]
section
variable {P : Program} {w : World} {K : PySem.W.Frag} {mg : Str→Option Value} {base : Heap} {a : Ad}
def Asc (x : Str) : Prop:=x.cps.all (· < 128) = true∧x.length ≤ sizeLine
theorem Wx {x : Str} (h : ∀ c ∈ x.cps.toList,c < 128) : x.cps.all (· < 128) = true:=by
  rw [← Array.all_toList,List.all_eq_true]
  intro c hc
  exact decide_eq_true (h c hc)
theorem Asc.mem {x : Str} (h : Asc x) : ∀ c ∈ x.cps.toList,c < 128:=fun c hc=>by
  have:=h.1
  rw [← Array.all_toList,List.all_eq_true] at this
  exact of_decide_eq_true (this c hc)
theorem VQ {x : Str} (h : Asc x) : Asc (yk x):=by
  unfold yk
  by_cases q : Txt.startswith x "-" = true
  · rw [if_pos q]
    refine ⟨Wx fun c hc=>?_,Nat.le_trans (Txt.slice_le x _ _) h.2⟩
    rw [wq,starts_one,decide_eq_true_eq] at q
    cases e : x.cps.toList with
    | nil=>rw [e] at q; cases q
    | cons d r =>
      rw [xZ e] at hc
      exact h.mem c (by rw [e]; exact List.mem_cons_of_mem _ hc)
  · rw [if_neg q]; exact h
def Xb : Sp:=fun vs H Q _=>∃ x,vs = [.str x]∧Asc x∧Q (.bl (numW x)) H
theorem Va (T : Txt w K mg a) : FnOk P w K mg base CX0 1 a.f_is_number_word a.d_is_number_word ["word"] Xb:=by
  refine T.F_is_number_word.ok sc_is_number_word (fun vs H Q E h=>?_) (fun cdv A outer s H vs Q E hr h=>?_)
  · obtain ⟨x,rfl,_⟩:=h
    rfl
  · obtain ⟨x,rfl,ha,k⟩:=h
    refine yh (wc (zr (i:=1) sc_is_number_word.nd rfl (Or.inl rfl) (xo (zX (zO PySem.F.plainAttrs_str PySem.F.slot_str_startswith PySem.F.type_str_startswith wo (zj 0) (zl ze za))) (zv V6 (zj 0) (zy zb) zA) (zj 0)))
      (zd (xL PassesOwn.never rfl (WH (zj 1)) (zY (i:=2) sc_is_number_word.nd rfl (Or.inl rfl))
        (zf (zx (zn XA (zj 2) (yj (v:=.str "0123456789") rfl T.g_FIGURES ⟨_,rfl⟩) (by with_unfolding_all rfl))
          (zf (zk yz))
          zo)))
      (zf (zk (xg (yo vc (zj 1) ze (zD _)) (xf (Uy (yo wa (zj 0) ze (zD _)) (xf (ZJ (zO PySem.F.plainAttrs_str PySem.F.slot_str_startswith PySem.F.type_str_startswith wo (zj 1) (zl ze za))))))))))) ?_
    refine ⟨fun σ' H'=>σ' = [some (.str x),some (.str (yk x)),none]∧H' = H,?_,?_⟩
    · refine ⟨_,rfl,rfl,_,_,rfl,rfl,_,rfl,?_⟩
      by_cases q : Txt.startswith x "-" = true
      · refine xc q ⟨_,rfl,_,rfl,x,rfl,ha.2,?_⟩
        rw [show Txt.slice x (some 1) none = yk x by unfold yk; rw [if_pos q]]
        exact ⟨rfl,rfl⟩
      · refine iteN (Bool.eq_false_iff.mpr q) ⟨_,rfl,?_⟩
        refine ⟨?_,rfl⟩
        unfold yk
        rw [if_neg q]
        rfl
    rintro σ' H' ⟨rfl,rfl⟩
    generalize hf : yk x = f
    have haf : Asc f:=hf ▸ VQ ha
    refine ⟨_,rfl,f,rfl,haf.1,?_⟩
    refine zau (x:=f) (fun i σ H2=>∃ o,σ = [some (.str x),some (.str f),o]∧H2 = H'∧(f.cps.toList.take i).all u9 = true) ?_ ?_ ?_
    · exact ⟨none,rfl,rfl,by simp⟩
    · rintro i c σ H2 hc ⟨o,rfl,rfl,hall⟩
      refine ⟨_,rfl,_,_,rfl,rfl,_,rfl,?_⟩
      rw [contains_one]
      by_cases q : u9 c = true
      · refine iteN (by show (!(decide (c ∈ _))) = false; rw [show decide _ = true from q]; rfl) ?_
        refine ⟨_,rfl,rfl,?_⟩
        rw [List.take_add_one,hc,List.all_append,hall]
        simp [q]
      · refine xc (by show (!(decide (c ∈ _))) = true; rw [show decide _ = false from Bool.eq_false_iff.mpr q]; rfl) ?_
        have e : numW x = false:=by
          unfold numW
          rw [hf]
          have : f.cps.toList.all u9 = false:=List.all_eq_false.mpr ⟨c,List.mem_of_getElem? hc,q⟩
          rw [this]; rfl
        rw [e] at k
        exact k
    · rintro σ H2 ⟨o,rfl,rfl,hall⟩
      rw [List.take_length] at hall
      have e : numW x = tailW x:=by
        unfold numW
        rw [hf,hall]; rfl
      rw [e] at k
      unfold tailW at k
      rw [hf] at k
      refine ⟨_,rfl,rfl,_,rfl,?_⟩
      by_cases q : f = ""
      · refine iteN (by rw [xA,decide_eq_true q]; rfl) ?_
        rw [decide_eq_false (by simpa using q)] at k
        exact k
      · refine xc (by rw [xA,decide_eq_false q]; rfl) ?_
        rw [decide_eq_true q,Bool.true_and] at k
        refine ⟨_,rfl,rfl,_,rfl,?_⟩
        rw [xA]
        by_cases q0 : x = "0"
        · refine xc (decide_eq_true q0) ?_
          rw [decide_eq_true q0] at k
          exact k
        · refine iteN (decide_eq_false q0) ⟨_,rfl,rfl,_,_,rfl,rfl,_,rfl,?_⟩
          rw [decide_eq_false q0] at k
          exact k
def Y9 : Sp:=fun vs H Q _=>∃ x,vs = [.str x]∧x.length ≤ sizeLine∧numW x = true∧Q (.int (Uj x)) H
theorem W9 (T : Txt w K mg a) : FnOk P w K mg base CX0 1 a.f_number_of a.d_number_of ["word"] Y9:=by
  refine T.F_number_of.ok uF (fun vs H Q E h=>?_) (fun cdv A outer s H vs Q E hr h=>?_)
  · obtain ⟨x,rfl,_⟩:=h
    rfl
  · obtain ⟨x,rfl,hz,hn,k⟩:=h
    refine yh (zf (zk (yU Ws (by rfl) T.n_int Yl (zg (zv V6 (zj 0) zA (zy zb)) za)))) ?_
    have hl : (Txt.slice x none (some 22)).length ≤ 22:=by
      rw [← Wn,wT]
      exact List.length_take_le _ _
    exact ⟨_,rfl,_,rfl,x,rfl,hz,_,_,rfl,XI hn,by omega,k⟩
def MadeL (a : Ad) (H : Hp) : List V→List Ex→Prop
  | [],[]=>True
  | r :: rs,e :: es=>Made a H e r∧MadeL a H rs es
  | _,_=>False
theorem MadeL.same {H H' : Hp} (k : Same H H') : ∀ {rs : List V} {es : List Ex},MadeL a H rs es→MadeL a H' rs es
  | [],[],_=>trivial
  | _ :: _,_ :: _,⟨h,t⟩=>⟨h.same k,MadeL.same k t⟩
theorem MadeL.cons {H : Hp} {rs : List V} {e : Ex} {es : List Ex} (h : MadeL a H rs (e :: es)) : ∃ r rs',rs = r :: rs'∧Made a H e r∧MadeL a H rs' es:=by
  match rs,h with
  | r :: rs',⟨h1,h2⟩=>exact ⟨r,rs',rfl,h1,h2⟩
theorem MadeL.nil {H : Hp} {rs : List V} (h : MadeL a H rs []) : rs = []:=by
  match rs,h with
  | [],_=>rfl
theorem MadeL.drop {H : Hp} : ∀ (n : Nat) {rs : List V} {es : List Ex},MadeL a H rs es→MadeL a H (rs.drop n) (es.drop n)
  | 0,_,_,h=>h
  | _ + 1,[],[],h=>h
  | n + 1,_ :: _,_ :: _,⟨_,t⟩=>MadeL.drop n t
theorem MadeL.len {H : Hp} : ∀ {rs : List V} {es : List Ex},MadeL a H rs es→rs.length = es.length
  | [],[],_=>rfl
  | _ :: _,_ :: _,⟨_,t⟩=>by rw [List.length_cons,List.length_cons,MadeL.len t]
def V2 (a : Ad) : Sp:=fun vs H Q _=>∃ x l rs es,vs = [.str x,.ref l]∧Asc x∧H l = some (.lst rs)∧MadeL a H rs es ∧
  (∀ e' rest,yR x es = some (e' :: rest)→∀ r H',Made a H' e' r→Same H H'→Q r H')∧(yR x es = none→Q .non H)
theorem zaf (T : Txt w K mg a) : FnOk P w K mg base CX0 3 a.f_read_part a.d_read_part ["word", "parts"] (V2 a):=by
  have c_is_number_word : Callee P w K mg base "is_number_word" a.f_is_number_word a.d_is_number_word ["word"] 1 Xb:=⟨Va T,T.g_is_number_word,T.F_is_number_word.kp,T.b_is_number_word⟩
  have c_number_of : Callee P w K mg base "number_of" a.f_number_of a.d_number_of ["word"] 1 Y9:=⟨W9 T,T.g_number_of,T.F_number_of.kp,T.b_number_of⟩
  have m_Num : Maker P w K mg base "Num" a.c_Num a.f_Num___init__ a.d_Num___init__ ["self", "value"] 1 (zaL a.c_Num "value"):=⟨vg T,T.g_Num,T.mk_Num,T.b_Num___init__⟩
  have m_Name : Maker P w K mg base "Name" a.c_Name a.f_Name___init__ a.d_Name___init__ ["self", "word"] 1 (zaL a.c_Name "word"):=⟨wx T,T.g_Name,T.mk_Name,T.b_Name___init__⟩
  have m_Two : Maker P w K mg base "Two" a.c_Two a.f_Two___init__ a.d_Two___init__ ["self", "word", "one", "other"] 1 (zi4 a.c_Two "word" "one" "other"):=⟨vf T,T.g_Two,T.mk_Two,T.b_Two___init__⟩
  have m_Mod : Maker P w K mg base "Mod" a.c_Mod a.f_Mod___init__ a.d_Mod___init__ ["self", "inner", "number"] 1 (zi5 a.c_Mod "inner" "number"):=⟨vh T,T.g_Mod,T.mk_Mod,T.b_Mod___init__⟩
  have m_Less : Maker P w K mg base "Less" a.c_Less a.f_Less___init__ a.d_Less___init__ ["self", "one", "other", "third", "fourth"] 1 (zi3 a.c_Less "one" "other" "third" "fourth"):=⟨wy T,T.g_Less,T.mk_Less,T.b_Less___init__⟩
  refine T.F_read_part.ok uE (fun vs H Q E h=>?_) (fun cdv A outer s H vs Q E hr h=>?_)
  · obtain ⟨x,l,rs,es,rfl,_⟩:=h
    rfl
  · obtain ⟨x,l,rs,es,rfl,ha,hl,hm,k,kn⟩:=h
    refine yh (zd (zx (zn vd (zj 0) (yj (v:=.ref a.t_ALL_NAMES) rfl T.g_ALL_NAMES rfl) (by with_unfolding_all rfl))
        (zf (zk (xD m_Name (hr.mono (by omega)) (zh (zj 0) za))))
        zo)
      (zd (zx (zX (zt c_is_number_word (hr.mono (by omega)) (zh (zj 0) za)))
        (zf (zk (xD m_Num (hr.mono (by omega)) (zF (zt c_number_of (hr.mono (by omega)) (zh (zj 0) za)) za))))
        zo)
      (zd (zx (zaI (xC (zn Xz (zj 0) (yj (v:=.ref a.t_PARTS) rfl T.g_PARTS rfl) (by with_unfolding_all rfl)) (xK (zn uV (zq zE (by rfl) T.n_len xl (zh (zj 1) za)) (zm zen (yj (v:=.ref a.t_PARTS) rfl T.g_PARTS rfl) (zj 0) (fun _ _=>rfl)) (zD _)))))
        (zf (zk yl))
        zo)
      (zd (zx (zn wa (zj 0) ze (zD _))
        (zf (zk (xD m_Less (hr.mono (by omega)) (zg (zm zu (zj 1) zb (fun _ _=>rfl)) (zg (zm zu (zj 1) zb (fun _ _=>rfl)) (zg (zm zu (zj 1) zb (fun _ _=>rfl)) (zg (zm zu (zj 1) zb (fun _ _=>rfl)) za)))))))
        zo)
      (zd (zx (zn wa (zj 0) ze (zD _))
        (zf (zk (xo (zX (zq ym (by rfl) T.n_isinstance zB (zg (zm zu (zj 1) zb (fun _ _=>rfl)) (zh (yT T.g_Num) za)))) (xD m_Mod (hr.mono (by omega)) (zg (zm zu (zj 1) zb (fun _ _=>rfl)) (zg (zC (zm zu (zj 1) zb (fun _ _=>rfl)) rfl) za))) yl)))
        zo)
      (zf (zk (xD m_Two (hr.mono (by omega)) (zh (zj 0) (zg (zm zu (zj 1) zb (fun _ _=>rfl)) (zg (zm zu (zj 1) zb (fun _ _=>rfl)) za))))))))))) ?_
    refine ⟨_,rfl,_,_,rfl,.inr (T.s_ALL_NAMES H),rfl,flat_strs allNs,_,rfl,?_⟩
    by_cases h1 : inV (.str x) (allNs.map V.str) = true
    · refine xc h1 ⟨_,rfl,fun p dx nx ndx nex=>⟨p,dx,_,rfl,upd_same,rfl,?_⟩⟩
      exact k (.name x) es (by unfold yR; rw [if_pos h1]) _ _ ⟨p,dx,rfl,upd_same⟩ (Same.made nx ndx)
    have h1':=Bool.eq_false_iff.mpr h1
    refine iteN h1' ⟨_,rfl,x,rfl,ha,_,rfl,?_⟩
    by_cases h2 : numW x = true
    · refine xc h2 ⟨_,rfl,x,rfl,ha.2,h2,?_⟩
      refine fun p dx nx ndx nex=>⟨p,dx,_,rfl,upd_same,rfl,?_⟩
      exact k (.num (Uj x)) es (by unfold yR; rw [if_neg h1,if_pos h2]) _ _ ⟨p,dx,rfl,upd_same⟩ (Same.made nx ndx)
    have h2':=Bool.eq_false_iff.mpr h2
    refine iteN h2' ?_
    have hlen:=hm.len
    rcases xY (es:=es) h1' h2' with ⟨tn,e⟩ | ⟨rfl,e⟩ | ⟨rfl,e⟩ | ⟨t,e⟩
    · refine ⟨_,rfl,_,_,_,rfl,rfl,T.s_PARTS,_,rfl,xc (by rw [tn]; rfl) ?_⟩
      exact kn e
    · refine ⟨_,rfl,_,_,_,rfl,rfl,T.s_PARTS,_,rfl,iteN (by rw [less_no.2.2]; rfl) ?_⟩
      refine ⟨_,rfl,l,_,rfl,.inl (SqL.of hl),_,rfl,_,_,_,4,rfl,rfl,T.s_PARTS,less_no.2.2,_,_,rfl,rfl,_,rfl,?_⟩
      match es,hm,hlen,e with
      | e1 :: e2 :: e3 :: e4 :: r,hm,hlen,e =>
        obtain ⟨r1,rs1,rfl,m1,hm⟩:=hm.cons
        obtain ⟨r2,rs2,rfl,m2,hm⟩:=hm.cons
        obtain ⟨r3,rs3,rfl,m3,hm⟩:=hm.cons
        obtain ⟨r4,rs4,rfl,m4,hm⟩:=hm.cons
        refine iteN (decide_eq_false (by simp only [List.length_cons]; omega)) ?_
        refine ⟨_,rfl,rfl,_,rfl,xc (by decide +kernel) ?_⟩
        refine ⟨_,rfl,l,_,0,_,rfl,rfl,SqL.of hl,zW (j:=0) rfl,_,rfl,l,_,1,_,rfl,rfl,SqL.of hl,zW (j:=1) rfl,_,rfl,l,_,2,_,rfl,rfl,SqL.of hl,zW (j:=2) rfl,_,rfl,l,_,3,_,rfl,rfl,SqL.of hl,zW (j:=3) rfl,?_⟩
        refine fun p dx nx ndx nex=>⟨p,dx,_,_,_,_,rfl,upd_same,rfl,?_⟩
        have s5 : Same H _:=Same.made (C:=a.c_Less) (fs:=[("one",r1),("other",r2),("third",r3),("fourth",r4)]) (fs':=[]) nx ndx
        exact k (.less e1 e2 e3 e4) r e _ _ ⟨p,dx,r1,r2,r3,r4,rfl,upd_same,m1.same s5,m2.same s5,m3.same s5,m4.same s5⟩ s5
      | [],_,hlen,e=>exact xc (decide_eq_true (by show (rs.length : Int) < 4; rw [hlen]; simp)) (kn e)
      | [_],_,hlen,e=>exact xc (decide_eq_true (by show (rs.length : Int) < 4; rw [hlen]; simp)) (kn e)
      | [_,_],_,hlen,e=>exact xc (decide_eq_true (by show (rs.length : Int) < 4; rw [hlen]; simp)) (kn e)
      | [_,_,_],_,hlen,e=>exact xc (decide_eq_true (by show (rs.length : Int) < 4; rw [hlen]; simp)) (kn e)
    · refine ⟨_,rfl,_,_,_,rfl,rfl,T.s_PARTS,_,rfl,iteN (by rw [mod_no.2.2]; rfl) ?_⟩
      refine ⟨_,rfl,l,_,rfl,.inl (SqL.of hl),_,rfl,_,_,_,2,rfl,rfl,T.s_PARTS,mod_no.2.2,_,_,rfl,rfl,_,rfl,?_⟩
      match es,hm,hlen,e with
      | [],_,hlen,e=>exact xc (decide_eq_true (by show (rs.length : Int) < 2; rw [hlen]; simp)) (kn e)
      | [_],_,hlen,e=>exact xc (decide_eq_true (by show (rs.length : Int) < 2; rw [hlen]; simp)) (kn e)
      | e1 :: e2 :: r,hm,hlen,e =>
        obtain ⟨r1,rs1,rfl,m1,hm⟩:=hm.cons
        obtain ⟨r2,rs2,rfl,m2,hm⟩:=hm.cons
        refine iteN (decide_eq_false (by simp only [List.length_cons]; omega)) ?_
        refine ⟨_,rfl,rfl,_,rfl,iteN (by decide +kernel) ?_⟩
        refine ⟨_,rfl,rfl,_,rfl,xc (by decide +kernel) ?_⟩
        cases e2 with
        | num n =>
          obtain ⟨p2,dx2,rfl,h2⟩:=m2
          refine ⟨_,rfl,l,_,1,_,rfl,rfl,SqL.of hl,zW (j:=1) rfl,_,_,_,_,_,rfl,rfl,T.ty_Num H p2 dx2 _ h2,T.k_Num_Num,_,rfl,WB ?_⟩
          refine ⟨_,rfl,l,_,0,_,rfl,rfl,SqL.of hl,zW (j:=0) rfl,_,rfl,l,_,1,_,rfl,rfl,SqL.of hl,zW (j:=1) rfl,p2,_,dx2,_,_,rfl,h2,T.cl_Num,T.na_Num_value,rfl,?_⟩
          refine fun p dx nx ndx nex=>⟨p,dx,_,_,rfl,upd_same,rfl,?_⟩
          have s5 : Same H _:=Same.made (C:=a.c_Mod) (fs:=[("inner",r1),("number",.int n)]) (fs':=[]) nx ndx
          exact k (.mod e1 n) r e _ _ ⟨p,dx,r1,rfl,upd_same,m1.same s5⟩ s5
        | name y =>
          obtain ⟨p2,dx2,rfl,h2⟩:=m2
          exact ⟨_,rfl,l,_,1,_,rfl,rfl,SqL.of hl,zW (j:=1) rfl,_,_,_,_,_,rfl,rfl,T.ty_Name H p2 dx2 _ h2,T.k_Name_Num,_,rfl,iteN rfl (kn e)⟩
        | two y f g =>
          obtain ⟨p2,dx2,_,_,rfl,h2,_⟩:=m2
          exact ⟨_,rfl,l,_,1,_,rfl,rfl,SqL.of hl,zW (j:=1) rfl,_,_,_,_,_,rfl,rfl,T.ty_Two H p2 dx2 _ h2,T.k_Two_Num,_,rfl,iteN rfl (kn e)⟩
        | mod f n =>
          obtain ⟨p2,dx2,_,rfl,h2,_⟩:=m2
          exact ⟨_,rfl,l,_,1,_,rfl,rfl,SqL.of hl,zW (j:=1) rfl,_,_,_,_,_,rfl,rfl,T.ty_Mod H p2 dx2 _ h2,T.k_Mod_Num,_,rfl,iteN rfl (kn e)⟩
        | less f g h i =>
          obtain ⟨p2,dx2,_,_,_,_,rfl,h2,_⟩:=m2
          exact ⟨_,rfl,l,_,1,_,rfl,rfl,SqL.of hl,zW (j:=1) rfl,_,_,_,_,_,rfl,rfl,T.ty_Less H p2 dx2 _ h2,T.k_Less_Num,_,rfl,iteN rfl (kn e)⟩
    · obtain ⟨n1,n2,n3⟩:=xE t
      obtain ⟨n4,n5⟩:=YU t
      refine ⟨_,rfl,_,_,_,rfl,rfl,T.s_PARTS,_,rfl,iteN (by rw [n3]; rfl) ?_⟩
      refine ⟨_,rfl,l,_,rfl,.inl (SqL.of hl),_,rfl,_,_,_,2,rfl,rfl,T.s_PARTS,n3,_,_,rfl,rfl,_,rfl,?_⟩
      match es,hm,hlen,e with
      | [],_,hlen,e=>exact xc (decide_eq_true (by show (rs.length : Int) < 2; rw [hlen]; simp)) (kn e)
      | [_],_,hlen,e=>exact xc (decide_eq_true (by show (rs.length : Int) < 2; rw [hlen]; simp)) (kn e)
      | e1 :: e2 :: r,hm,hlen,e =>
        obtain ⟨r1,rs1,rfl,m1,hm⟩:=hm.cons
        obtain ⟨r2,rs2,rfl,m2,hm⟩:=hm.cons
        refine iteN (decide_eq_false (by simp only [List.length_cons]; omega)) ?_
        refine ⟨_,rfl,rfl,_,rfl,iteN (by rw [xA]; exact decide_eq_false n4) ?_⟩
        refine ⟨_,rfl,rfl,_,rfl,iteN (by rw [xA]; exact decide_eq_false n5) ?_⟩
        refine ⟨_,rfl,_,rfl,l,_,0,_,rfl,rfl,SqL.of hl,zW (j:=0) rfl,_,rfl,l,_,1,_,rfl,rfl,SqL.of hl,zW (j:=1) rfl,?_⟩
        refine fun p dx nx ndx nex=>⟨p,dx,_,_,_,rfl,upd_same,rfl,?_⟩
        have s5 : Same H _:=Same.made (C:=a.c_Two) (fs:=[("word",.str x),("one",r1),("other",r2)]) (fs':=[]) nx ndx
        exact k (.two x e1 e2) r e _ _ ⟨p,dx,r1,r2,rfl,upd_same,m1.same s5,m2.same s5⟩ s5
end
end K04

namespace K04
open PySem L2
theorem xT {xs : List V} (k : Nat) : vA xs (some (k : Int)) none = xs.drop k:=by
  have h1 : HT.sIx xs.length 0 (some (k : Int)) = min k xs.length:=by
    unfold HT.sIx
    simp
    omega
  have h2 : HT.sIx xs.length xs.length none = xs.length:=rfl
  unfold vA
  rw [h1,h2]
  by_cases h : k ≤ xs.length
  · rw [Nat.min_eq_left h]
    exact List.take_of_length_le (by simp)
  · rw [Nat.min_eq_right (by omega),List.drop_eq_nil_of_le (Nat.le_refl _),List.drop_eq_nil_of_le (by omega)]
    simp
theorem zcd (w : Str) : (xV xk w).getD 0 = (((xV xk w).getD 0).toNat : Int):=by
  cases e : xV xk w with
  | none=>rfl
  | some i =>
    have : 0 ≤ i:=by
      rcases vM e with rfl | rfl | h
      · rw [less_no.2.2] at e; cases e; decide
      · rw [mod_no.2.2] at e; cases e; decide
      · rw [(xE h).2.2] at e; cases e; decide
    show i = (i.toNat : Int)
    omega
theorem Made.ref {a : Ad} {H : Hp} : ∀ {e : Ex} {r : V},Made a H e r→∃ p,r = .ref p
  | .num _,_,⟨p,_,h,_⟩=>⟨p,h⟩
  | .name _,_,⟨p,_,h,_⟩=>⟨p,h⟩
  | .two _ _ _,_,⟨p,_,_,_,h,_⟩=>⟨p,h⟩
  | .mod _ _,_,⟨p,_,_,h,_⟩=>⟨p,h⟩
  | .less _ _ _ _,_,⟨p,_,_,_,_,_,h,_⟩=>⟨p,h⟩
theorem Made.no {a : Ad} {H : Hp} {e : Ex} {r : V} (h : Made a H e r) : decide (r = .non) = false:=by
  obtain ⟨p,rfl⟩:=h.ref
  rfl
section
variable {P : Program} {w : World} {K : PySem.W.Frag} {mg : Str→Option Value} {base : Heap} {a : Ad}
def ZP (a : Ad) : Sp:=fun vs H Q _=>∃ (l : Addr) (ws : List Str),vs = [.ref l]∧H l = some (.lst (ws.map V.str))∧(∀ w ∈ ws,Asc w)∧ws.length ≤ 1000 ∧
  (∀ e,xH ws = some e→∀ r H',Made a H' e r→Same H H'→Q r H')∧(xH ws = none→∀ H',Same H H'→Q .non H')
theorem XD (T : Txt w K mg a) : FnOk P w K mg base CX0 4 a.f_read_words a.d_read_words ["words"] (ZP a):=by
  have c_read_part : Callee P w K mg base "read_part" a.f_read_part a.d_read_part ["word", "parts"] 3 (V2 a):=⟨zaf T,T.g_read_part,T.F_read_part.kp,T.b_read_part⟩
  refine T.F_read_words.ok sc_read_words (fun vs H Q E h=>?_) (fun cdv A outer s H vs Q E hr h=>?_)
  · obtain ⟨l,ws,rfl,_⟩:=h
    rfl
  · obtain ⟨l,ws,rfl,hl,hasc,hlen,k,kn⟩:=h
    refine yh (zd (zr (i:=1) sc_read_words.nd rfl (Or.inl rfl) (zp za))
      (zd (xL PassesOwn.never rfl (vK rfl T.n_reversed (zh (zj 0) za)) (zY (i:=2) sc_read_words.nd rfl (Or.inl rfl))
        (zd (zr (i:=3) sc_read_words.nd rfl (Or.inl rfl) (zt c_read_part (hr.mono (by omega)) (zh (zj 2) (zh (zj 1) za))))
        (zd (zx (zn XB (zj 3) yl (zD _))
          (zf (zk yl))
          zo)
        (zf (zr (i:=1) sc_read_words.nd rfl (Or.inl rfl) (zi zH (zp (zh (zj 3) za)) (zv zK (zj 1) (zy (Yn (yj (v:=.ref a.t_PARTS) rfl T.g_PARTS rfl) (zj 2) zb ⟨rfl,rfl,rfl,rfl⟩)) zA)))))))
      (zf (zk (xo (zn wa (zq zE (by rfl) T.n_len xl (zh (zj 1) za)) zb (zD _)) (zm zu (zj 1) zb (fun _ _=>rfl)) yl))))) ?_
    refine ⟨by show 0 ≤ sizeLine; decide,fun q0 hq0=>?_⟩
    have s0:=Same.new (o:=HO.lst []) hq0
    refine ⟨_,rfl,l,_,rfl,SqL.of (s0 _ _ hl),?_⟩
    refine zav (K:=K) (a:=l) (xs:=ws.map V.str) (fun i σ H'=>∃ q rs es o2 o3,σ = [some (.ref l),some (.ref q),o2,o3]∧Same H H'∧H' q = some (.lst rs)∧MadeL a H' rs es∧(ws.drop (ws.length - i)).foldr rdG (some []) = some es∧rs.length ≤ i) ?_ ?_ ?_ ?_
    · exact ⟨q0,[],[],none,none,rfl,s0,upd_same,trivial,by rw [Nat.sub_zero,List.drop_length]; rfl,Nat.le_refl _⟩
    · rintro i σ H' _ ⟨q,rs,es,o2,o3,_,sm,_⟩
      exact SqL.of (sm _ _ hl)
    · rintro i x σ H' hx ⟨q,rs,es,o2,o3,rfl,sm,hq,hm,hes,hrs⟩
      have hi : i < ws.length:=by
        have:=(List.getElem?_eq_some_iff.mp hx).1
        simpa using this
      rw [List.getElem?_reverse (by simpa using hi),List.length_map,List.getElem?_map] at hx
      obtain ⟨wd,hwd,rfl⟩:=Option.map_eq_some_iff.mp hx
      have hj : ws.length - 1 - i < ws.length:=by omega
      have ej : ws.drop (ws.length - (i + 1)) = wd :: ws.drop (ws.length - i):=by
        rw [show ws.length - (i + 1) = ws.length - 1 - i by omega,List.drop_eq_getElem_cons hj,show ws.length - 1 - i + 1 = ws.length - i by omega]
        congr 1
        exact (List.getElem?_eq_some_iff.mp hwd).2
      have ew : ws = ws.take (ws.length - (i + 1)) ++ wd :: ws.drop (ws.length - i):=by
        rw [← ej,List.take_append_drop]
      have e1 : (ws.drop (ws.length - (i + 1))).foldr rdG (some []) = yR wd es:=by
        rw [ej]
        show rdG wd ((ws.drop (ws.length - i)).foldr rdG (some [])) = _
        rw [hes]
        rfl
      refine ⟨_,rfl,_,rfl,wd,q,rs,es,rfl,hasc wd (List.mem_of_getElem? hwd),hq,hm,fun e' rest hst r H1 m1 s1=>?_,fun hst=>?_⟩
      · obtain ⟨e'',he⟩:=Yr hst
        cases he
        refine ⟨_,rfl,rfl,_,rfl,iteN m1.no ?_⟩
        refine ⟨_,rfl,(by show 1 ≤ sizeLine; decide),fun p1 hp1=>?_⟩
        have s2:=s1.trans (Same.new (o:=HO.lst [r]) hp1)
        refine ⟨_,rfl,_,_,rfl,T.s_PARTS,_,rfl,_,_,rfl,rfl,_,rfl,q,rs,rfl,SqL.of (s2 _ _ hq),fun p2 hp2=>?_⟩
        rw [zcd,xT]
        generalize hk : ((xV xk wd).getD 0).toNat = kk at *
        have s3:=s2.trans (Same.new (o:=HO.lst (rs.drop kk)) hp2)
        have hd : (rs.drop kk).length ≤ i:=Nat.le_trans (by simp) hrs
        refine ⟨p1,p2,[r],rs.drop kk,rfl,rfl,(Same.new hp2) _ _ upd_same,upd_same,(by rw [List.length_singleton]; exact Nat.le_trans (show 1 + (rs.drop kk).length ≤ 2000 by omega) (by decide)),fun p3 hp3=>?_⟩
        have s4:=Same.new (o:=HO.lst ([r] ++ rs.drop kk)) hp3
        refine ⟨p3,[r] ++ rs.drop kk,e' :: es.drop kk,_,_,rfl,sm.trans (s3.trans s4),upd_same,⟨?_,?_⟩,e1.trans hst,?_⟩
        · exact m1.same ((Same.new (o:=HO.lst [r]) hp1).trans ((Same.new hp2).trans s4))
        · exact (hm.drop kk).same (s3.trans s4)
        · rw [List.length_append,List.length_singleton]
          omega
      · refine ⟨_,rfl,rfl,_,rfl,xc rfl (kn ?_ _ sm)⟩
        unfold xH
        have : ws.foldr rdG (some []) = none:=by
          conv=>lhs; rw [ew]
          rw [List.foldr_append]
          have : (wd :: ws.drop (ws.length - i)).foldr rdG (some []) = none:=by rw [← ej,e1,hst]
          rw [this]
          exact vU _
        rw [this]
        rfl
    · rintro σ H' ⟨q,rs,es,o2,o3,rfl,sm,hq,hm,hes,hrs⟩
      rw [List.length_map,Nat.sub_self,List.drop_zero] at hes
      have hlen:=hm.len
      refine ⟨_,rfl,q,_,rfl,.inl (SqL.of hq),rfl,_,rfl,?_⟩
      match es,hm,hes,hlen with
      | [e],hm,hes,hlen =>
        obtain ⟨r,rs',rfl,m1,hm⟩:=hm.cons
        cases hm.nil
        exact xc rfl ⟨_,rfl,q,_,0,_,rfl,rfl,SqL.of hq,at0,k e (by unfold xH; rw [hes]; rfl) _ _ m1 sm⟩
      | [],hm,hes,hlen=>exact iteN (decide_eq_false (by rw [hlen]; simp)) (kn (by unfold xH; rw [hes]; rfl) _ sm)
      | e :: f :: r,hm,hes,hlen=>exact iteN (decide_eq_false (by rw [hlen]; simp; omega)) (kn (by unfold xH; rw [hes]; rfl) _ sm)
structure Fit (row : Str) : Prop where
  len : row.length ≤ 100000
  asc : ∀ w ∈ Txt.split row " ",Asc w
  cnt : (Txt.split row " ").length ≤ 1000
def zds (a : Ad) : Sp:=fun vs H Q _=>∃ (row first : Str),vs = [.str row,.str first]∧Fit row ∧
  (∀ e,Zj first row = some e→∀ r H',Made a H' e r→Same H H'→Q r H')∧(Zj first row = none→∀ H',Same H H'→Q .non H')
theorem zd6 (T : Txt w K mg a) : FnOk P w K mg base CX0 5 a.f_read_row a.d_read_row ["row", "first"] (zds a):=by
  have c_read_words : Callee P w K mg base "read_words" a.f_read_words a.d_read_words ["words"] 4 (ZP a):=⟨XD T,T.g_read_words,T.F_read_words.kp,T.b_read_words⟩
  refine T.F_read_row.ok sc_read_row (fun vs H Q E h=>?_) (fun cdv A outer s H vs Q E hr h=>?_)
  · obtain ⟨row,first,rfl,_⟩:=h
    rfl
  · obtain ⟨row,first,rfl,hf,k,kn⟩:=h
    refine yh (zd (zr (i:=2) sc_read_row.nd rfl (Or.inl rfl) (zO PySem.F.plainAttrs_str PySem.F.slot_str_split PySem.F.type_str_split wL (zj 0) (zl ze za)))
      (zf (zk (xo (zn wa (zm zu (zj 2) zb (fun _ _=>rfl)) (zj 1) (zD _)) (zt c_read_words (hr.mono (by omega)) (zg (zv zK (zj 2) (zy zb) zA) za)) yl)))) ?_
    obtain ⟨hl,ha,hc⟩:=hf
    have hp:=wl row " "
    have e2 : sizeLine = 16777216:=rfl
    refine ⟨_,rfl,rfl,_,_,rfl,rfl,(by decide +kernel),(by omega),(by omega),(by omega),fun p hp=>?_⟩
    have hne:=ZO row " "
    unfold Zj at k kn
    generalize hs : Txt.split row " " = ws at *
    cases ws with
    | nil=>exact absurd rfl hne
    | cons f ws =>
      have s0:=Same.new (o:=HO.lst ((f :: ws).map V.str)) hp
      refine ⟨_,rfl,p,_,0,_,rfl,rfl,SqL.of upd_same,at0,_,rfl,rfl,_,rfl,?_⟩
      rw [xA]
      by_cases hf : f = first
      · refine xc (decide_eq_true hf) ?_
        simp only [if_pos hf] at k kn
        refine ⟨_,rfl,_,rfl,p,_,rfl,SqL.of upd_same,fun p2 hp2=>?_⟩
        rw [List.map_cons,zjy]
        have s1:=s0.trans (Same.new (o:=HO.lst (ws.map V.str)) hp2)
        exact ⟨p2,ws,rfl,upd_same,fun w hw=>ha w (List.mem_cons_of_mem _ hw),by rw [List.length_cons] at hc; omega,fun e he r H' m sm=>k e he r H' m (s1.trans sm),fun he H' sm=>kn he H' (s1.trans sm)⟩
      · refine iteN (decide_eq_false hf) ?_
        simp only [if_neg hf] at k kn
        exact kn trivial _ s0
end
end K04

namespace K04
open PySem L2
theorem Same.updF {p : Addr} {H H' : Hp} {o : HO} (x : Same H H') (h : H p = none) : Same H (upd H' p o):=fun b u e=>by
  rw [upd_ne (ne_of_none e h)]
  exact x b u e
theorem Made.updL {a : Ad} {H : Hp} {D : Addr} {zs : List V} {o : HO} (hD : H D = some (.lst zs)) {e : Ex} {v : V} (t : Made a H e v) : Made a (L2.upd H D o) e v:=t.mono fun b C dx fs h=>by
  have hb : b ≠ D:=zeb h hD (by intro z; cases z)
  rw [upd_ne hb]
  exact h
theorem MadeL.updL {a : Ad} {H : Hp} {D : Addr} {zs : List V} {o : HO} (hD : H D = some (.lst zs)) : ∀ {rs : List V} {es : List Ex},MadeL a H rs es→MadeL a (L2.upd H D o) rs es
  | [],[],_=>trivial
  | _ :: _,_ :: _,⟨h,t⟩=>⟨h.updL hD,MadeL.updL hD t⟩
theorem MadeL.snoc {a : Ad} {H : Hp} {r : V} {e : Ex} (h : Made a H e r) : ∀ {rs : List V} {es : List Ex},MadeL a H rs es→MadeL a H (rs ++ [r]) (es ++ [e])
  | [],[],_=>⟨h,trivial⟩
  | _ :: _,_ :: _,⟨h1,t⟩=>⟨h1,MadeL.snoc h t⟩
def Four (a : Ad) (H : Hp) (e1 e2 e3 e4 : Ex) (r1 r2 r3 r4 : V) : Prop :=
  (Made a H e1 r1∧e1.ok startNs∧e1.dep ≤ 8)∧(Made a H e2 r2∧e2.ok sendNs∧e2.dep ≤ 8)∧(Made a H e3 r3∧e3.ok sendNs∧e3.dep ≤ 8)∧(Made a H e4 r4∧e4.ok renewNs∧e4.dep ≤ 8)∧e1.size + e2.size + e3.size + e4.size ≤ 60
def V1 (a : Ad) : Sp:=fun vs H Q _=>∃ (p dx : Addr) (r1 r2 r3 r4 : V) (e1 e2 e3 e4 : Ex),vs = [.ref p,r1,r2,r3,r4]∧H p = some (.ins a.c_Program dx [])∧Four a H e1 e2 e3 e4 r1 r2 r3 r4 ∧
  ∀ H',Same H H'→Q .non (upd H' p (.ins a.c_Program dx [("start",r1),("send",r2),("when",r3),("renew",r4)]))
def Wz (a : Ad) (H : Hp) (e1 e2 e3 e4 : Ex) (r : V) : Prop:=∃ (p dx : Addr) (r1 r2 r3 r4 : V),r = .ref p∧H p = some (.ins a.c_Program dx [("start",r1),("send",r2),("when",r3),("renew",r4)])∧Four a H e1 e2 e3 e4 r1 r2 r3 r4
def GoodE (e1 e2 e3 e4 : Ex) : Prop:=(e1.ok startNs∧e1.dep ≤ 8)∧(e2.ok sendNs∧e2.dep ≤ 8)∧(e3.ok sendNs∧e3.dep ≤ 8)∧(e4.ok renewNs∧e4.dep ≤ 8)∧e1.size + e2.size + e3.size + e4.size ≤ 60
theorem Y2 : ∀ x ∈ startNs,x ∈ allNs:=by decide +kernel
theorem ZM : ∀ x ∈ sendNs,x ∈ allNs:=by decide +kernel
theorem Y3 : ∀ x ∈ renewNs,x ∈ allNs:=by decide +kernel
theorem GoodE.rd {e1 e2 e3 e4 : Ex} (h : GoodE e1 e2 e3 e4) : Rdb e1∧Rdb e2∧Rdb e3∧Rdb e4:=by
  obtain ⟨⟨o1,_⟩,⟨o2,_⟩,⟨o3,_⟩,⟨o4,_⟩,z⟩:=h
  exact ⟨ZU Y2 o1 (by omega),ZU ZM o2 (by omega),ZU ZM o3 (by omega),ZU Y3 o4 (by omega)⟩
theorem Four.good {a : Ad} {H : Hp} {e1 e2 e3 e4 : Ex} {r1 r2 r3 r4 : V} (h : Four a H e1 e2 e3 e4 r1 r2 r3 r4) : GoodE e1 e2 e3 e4:=by
  obtain ⟨⟨_,h1⟩,⟨_,h2⟩,⟨_,h3⟩,⟨_,h4⟩,z⟩:=h
  exact ⟨h1,h2,h3,h4,z⟩
def rowsOf (e1 e2 e3 e4 : Ex) : List Str:=[xr "start" e1,xr "send" e2,xr "when" e3,xr "reckon" e4]
section
variable {P : Program} {w : World} {K : PySem.W.Frag} {mg : Str→Option Value} {base : Heap} {a : Ad}
theorem good_gx {e1 e2 e3 e4 : Ex} : zaH e1.gx e2.gx e3.gx e4.gx↔GoodE e1 e2 e3 e4:=by
  constructor
  · rintro ⟨f1,f2,f3,f4,⟨h1,h2,h3,h4⟩,⟨o1,o2,o3,o4⟩,⟨d1,d2,d3,d4⟩,z⟩
    cases Ex.gx_inj h1
    cases Ex.gx_inj h2
    cases Ex.gx_inj h3
    cases Ex.gx_inj h4
    exact ⟨⟨o1,d1⟩,⟨o2,d2⟩,⟨o3,d3⟩,⟨o4,d4⟩,z⟩
  · rintro ⟨⟨o1,d1⟩,⟨o2,d2⟩,⟨o3,d3⟩,⟨o4,d4⟩,z⟩
    exact ⟨e1,e2,e3,e4,⟨rfl,rfl,rfl,rfl⟩,⟨o1,o2,o3,o4⟩,⟨d1,d2,d3,d4⟩,z⟩
theorem zae (T : Txt w K mg a) : FnOk P w K mg base CX0 22 a.f_Program___init__ a.d_Program___init__ ["self", "start", "send", "when", "renew"] (V1 a) :=
  (calm (Z0 T)).imp fun vs H Q E h=>by
    obtain ⟨p,dx,r1,r2,r3,r4,e1,e2,e3,e4,rfl,hp,hF,k⟩:=h
    have hG:=good_gx.mpr hF.good
    obtain ⟨⟨m1,_⟩,⟨m2,_⟩,⟨m3,_⟩,⟨m4,_⟩,_⟩:=hF
    exact ⟨p,dx,r1,r2,r3,r4,e1.gx,e2.gx,e3.gx,e4.gx,rfl,hp,⟨m1.gx T,m2.gx T,m3.gx T,m4.gx T⟩,fun _=>k,fun z=>absurd hG z⟩
def VZ (a : Ad) : Sp:=fun vs H Q _=>∃ (r : V) (e1 e2 e3 e4 : Ex),vs = [r]∧Wz a H e1 e2 e3 e4 r∧∀ H',Same H H'→Q (.str (Zs e1 e2 e3 e4)) H'
theorem zac (T : Txt w K mg a) : FnOk P w K mg base CX0 10 a.f_program_text a.d_program_text ["program"] (VZ a):=by
  have WW : Wordss P w K mg base a 8:=uk T 8
  refine T.F_program_text.ok sc_program_text (fun vs H Q E h=>?_) (fun cdv A outer s H vs Q E hr h=>?_)
  · obtain ⟨r,e1,e2,e3,e4,rfl,_⟩:=h
    rfl
  · obtain ⟨r,e1,e2,e3,e4,rfl,⟨p,dx,r1,r2,r3,r4,rfl,hp,hF⟩,k⟩:=h
    have hG:=hF.good
    obtain ⟨d1,d2,d3,d4⟩:=hG.rd
    obtain ⟨⟨m1,o1,g1⟩,⟨m2,o2,g2⟩,⟨m3,o3,g3⟩,⟨m4,o4,g4⟩,_⟩:=hF
    refine yh (zd (zr (i:=1) sc_program_text.nd rfl (Or.inl rfl) (zp (zg (zC (zj 0) rfl) (zg (zC (zj 0) rfl) (zg (zC (zj 0) rfl) (zg (zC (zj 0) rfl) za))))))
      (zf (zk (zO PySem.F.plainAttrs_str PySem.F.slot_str_join PySem.F.type_str_join yA ze (zg (uv rfl (N':=["first", "expr"]) (t:=2) (caps:=[]) ⟨rfl,rfl,rfl⟩ (WF rfl T.n_zip (zh (yj (v:=.ref a.t_ROW_WORDS) rfl T.g_ROW_WORDS rfl) (zh (zj 1) za))) (fun _=>(ZI rfl (xM (zY (i:=0) (show (["first", "expr"] : List Str).Nodup by decide +kernel) rfl (Or.inl rfl)) (xM (zY (i:=1) (show (["first", "expr"] : List Str).Nodup by decide +kernel) rfl (Or.inl rfl)) uu)))) (fun _=>uo) (fun _=>(zO PySem.F.plainAttrs_str PySem.F.slot_str_join PySem.F.type_str_join yA ze (zL (zi zH (zp (zh (zj 0) za)) (zZ (zj 1))) za)))) za))))) ?_
    refine ⟨_,rfl,p,_,dx,_,_,rfl,hp,T.cl_Program,T.na_Program_start,rfl,_,rfl,p,_,dx,_,_,rfl,hp,T.cl_Program,T.na_Program_send,rfl,_,rfl,p,_,dx,_,_,rfl,hp,T.cl_Program,T.na_Program_when,rfl,_,rfl,p,_,dx,_,_,rfl,hp,T.cl_Program,T.na_Program_renew,rfl,(by show 4 ≤ sizeLine; decide),fun lq hlq=>?_⟩
    have s0:=Same.new (o:=HO.lst [r1,r2,r3,r4]) hlq
    have part : ∀ (i : Nat) x y,(rowWs.map V.str)[i]? = some x→[r1,r2,r3,r4][i]? = some y→∃ first e names,x = .str first∧first ∈ rowWs∧Rdb e∧Made a H e y∧e.ok names∧e.dep ≤ 8∧(rowsOf e1 e2 e3 e4)[i]? = some (xr first e):=fun i x y hx hy=>by
      match i,hx,hy with
      | 0,hx,hy=>cases hx; cases hy; exact ⟨_,e1,_,rfl,by simp,d1,m1,o1,g1,rfl⟩
      | 1,hx,hy=>cases hx; cases hy; exact ⟨_,e2,_,rfl,by simp,d2,m2,o2,g2,rfl⟩
      | 2,hx,hy=>cases hx; cases hy; exact ⟨_,e3,_,rfl,by simp,d3,m3,o3,g3,rfl⟩
      | 3,hx,hy=>cases hx; cases hy; exact ⟨_,e4,_,rfl,by simp,d4,m4,o4,g4,rfl⟩
      | _ + 4,hx,hy=>simp at hy
    refine ⟨rfl,_,rfl,.t,.l,a.t_ROW_WORDS,lq,rowWs.map V.str,[r1,r2,r3,r4],rfl,T.s_ROW_WORDS _,SqL.of upd_same,fun D hD _=>?_⟩
    refine VI (K:=K) (k1:=.t) (k2:=.l) (a:=a.t_ROW_WORDS) (b:=lq) (xs:=rowWs.map V.str) (ys:=[r1,r2,r3,r4]) rfl (fun i zs τ H'=>∃ o1 o2,τ = [o1,o2]∧zs = ((rowsOf e1 e2 e3 e4).take i).map V.str∧H' D = some (.lst zs)∧Same (upd H lq (HO.lst [r1,r2,r3,r4])) H') ?_ ?_ ?_ ?_
    · exact ⟨none,none,rfl,rfl,upd_same,Same.new hD⟩
    · rintro i zs τ H' ⟨_,_,_,_,_,sm⟩
      exact ⟨T.s_ROW_WORDS _,SqL.of (sm _ _ upd_same)⟩
    · rintro i x y zs τ H' q' hx hy ⟨v1,v2,rfl,rfl,hD',sm⟩ hq'
      have s1:=(s0.trans sm).trans (Same.new (o:=HO.tup [x,y]) hq')
      obtain ⟨first,e,names,rfl,hf,hd,m,ok,dd,hrow⟩:=part i x y hx hy
      have i4 : i < 4:=(List.getElem?_eq_some_iff.mp hx).1
      have hcnt:=vT hf hd
      rw [List.length_cons] at hcnt
      have e2' : sizeLine = 16777216:=rfl
      refine ⟨q',[.str first,y],rfl,SqT.of upd_same,rfl,_,_,rfl,_,_,rfl,rfl,?_⟩
      refine zb5 ?_
      refine ⟨rfl,_,rfl,(by show 1 ≤ sizeLine; decide),fun p1 hp1=>?_⟩
      have s2:=s1.trans (Same.new (o:=HO.lst [V.str first]) hp1)
      refine ⟨_,rfl,?_⟩
      obtain ⟨c0,c1,x1,f1,f2,f3,f4,f5,f6,z1,z2,z3,z4,z5,z6,z7,z8,z9⟩:=WW.call T (A:=A.deeper (PyProof.Rows.envOfC "program_text" (defScope zQ) s.heap.objs.size a.f_program_text cdv)) hr (m.same s2) ok dd (by have:=hd.sz; omega)
      refine ⟨c0,c1,x1,f1,f2,f3,f4,f5,f6,z1,z2,z3,z4,z5,z6,z7,z8,z9 _ fun p2 H1 t1 s3=>?_⟩
      refine ⟨p1,p2,_,_,rfl,rfl,s3 _ _ upd_same,t1,(by simp; omega),fun p3 hp3=>?_⟩
      have s4:=(s3.trans (Same.new (o:=HO.lst ([V.str first] ++ e.words.map V.str)) hp3))
      refine ⟨_,p3,first :: e.words,rfl,rfl,SqL.of upd_same,zdz hf hd,?_⟩
      refine ⟨s4 _ _ ((Same.new hp1) _ _ ((Same.new hq') _ _ hD')),xp (by simp; omega),_,_,rfl,?_,upd_same,?_⟩
      · rw [List.take_add_one,hrow,List.map_append]
        rfl
      · exact Same.updF (sm.trans ((Same.new hq').trans ((Same.new hp1).trans s4))) hD
    · rintro zs τ H' ⟨_,_,_,rfl,hD',sm⟩
      exact ⟨_,D,rowsOf e1 e2 e3 e4,rfl,rfl,SqL.of hD',prog_ok d1 d2 d3 d4,k _ (s0.trans sm)⟩
theorem XE (T : Txt w K mg a) : FnOk P w K mg base CX0 1 a.f_NoText___init__ a.d_NoText___init__ ["self", "row"] (Xh a.c_NoText "row"):=by
  refine T.F_NoText___init__.ok wg (fun vs H Q E h=>?_) (fun cdv A outer s H vs Q E hr h=>?_)
  · obtain ⟨p,v,rfl,_⟩:=h
    rfl
  · obtain ⟨p,v,rfl,hp,k⟩:=h
    refine yh (zf (YQ (zj 0) (zj 1) rfl)) ?_
    exact ⟨_,rfl,_,rfl,p,_,rfl,hp,T.xs_NoText,T.xt_NoText,fun d hd=>k d hd⟩
def zP (rows : List Str) (i : Nat) : Option Ex:=(rowWs[i]?).bind fun f=>(rows[i]?).bind (Zj f)
def UH (a : Ad) : Sp:=fun vs H Q E=>∃ (x : Str) (rows : List Str),vs = [.str x]∧Txt.split x "\n" = rows∧x.length ≤ 400000∧rows.length ≤ 1000∧(∀ r ∈ rows,Fit r) ∧
  (∀ i : Nat,i < 4→(∀ j < i,zP rows j ≠ none)→zP rows i = none→∀ d H',Same H H'→H d = none→H' d = some (.xd [("row",.int i)])→E (.ref a.c_NoText) (some d) H') ∧
  ((∀ j < 4,zP rows j ≠ none)→4 < rows.length→∀ d H',Same H H'→H d = none→H' d = some (.xd [("row",.int 4)])→E (.ref a.c_NoText) (some d) H') ∧
  (∀ e1 e2 e3 e4,zP rows 0 = some e1→zP rows 1 = some e2→zP rows 2 = some e3→zP rows 3 = some e4→rows.length ≤ 4 →
    (GoodE e1 e2 e3 e4→∀ r H',Wz a H' e1 e2 e3 e4 r→Same H H'→Q r H')∧(¬ GoodE e1 e2 e3 e4→∀ H',Same H H'→E (.ref a.c_NoProgram) none H'))
def UI (K : PySem.W.Frag) (a : Ad) : Sp:=fun vs H Q E=>∃ (v : V) (t : Value),vs = [v]∧TyOf K H v t∧PySem.W.kitOne K t (.type "str") = some false∧∀ d H',Same H H'→H d = none→H' d = some (.xd [("row",.int 0)])→E (.ref a.c_NoText) (some d) H'
def V0 (K : PySem.W.Frag) (a : Ad) : Sp:=fun vs H Q E=>UH a vs H Q E∨UI K a vs H Q E
theorem zad (T : Txt w K mg a) : FnOk P w K mg base (CX1 P w) 24 a.f_read_program a.d_read_program ["text"] (V0 K a):=by
  have c_read_row : Callee P w K mg base "read_row" a.f_read_row a.d_read_row ["row", "first"] 5 (zds a):=⟨zd6 T,T.g_read_row,T.F_read_row.kp,T.b_read_row⟩
  have mx_Program : Maker1 P w K mg base "Program" a.c_Program a.f_Program___init__ a.d_Program___init__ ["self", "start", "send", "when", "renew"] 22 (Y8 K a):=⟨Z0 T,T.g_Program,T.mk_Program,T.b_Program___init__⟩
  have xi_NoText : XInit P w K mg base "NoText" a.c_NoText a.f_NoText___init__ a.d_NoText___init__ ["self", "row"] 1 "row" := ⟨XE T,T.xn_NoText,T.xf_NoText,T.xk_NoText,T.g_NoText,T.b_NoText___init__⟩
  refine T.F_read_program.ok1 sc_read_program (fun vs H Q E h=>?_) (fun cdv A outer s H vs Q E hr h=>?_)
  · rcases h with ⟨x,rows,rfl,_⟩ | ⟨v,t,rfl,_⟩ <;> rfl
  · refine yh (zd (zx (vJ (zX (zq ym (by rfl) T.n_isinstance zB (zh (zj 0) (zh (xN T.n_str Yk) za)))))
        (zf (xX xi_NoText hr.hd (hr.mono (by omega)) (zl zb za)))
        zo)
      (zd (zr (i:=1) sc_read_program.nd rfl (Or.inl rfl) (zO PySem.F.plainAttrs_str PySem.F.slot_str_split PySem.F.type_str_split wL (zj 0) (zl ze za)))
      (zd (zr (i:=2) sc_read_program.nd rfl (Or.inl rfl) (zp za))
      (zd (xL PassesOwn.leaving rfl (YR rfl T.n_enumerate (zh (yj (v:=.ref a.t_ROW_WORDS) rfl T.g_ROW_WORDS rfl) za)) (ZI rfl (xM (zY (i:=3) sc_read_program.nd rfl (Or.inl rfl)) (xM (zY (i:=4) sc_read_program.nd rfl (Or.inl rfl)) uu)))
        (zd (zr (i:=5) sc_read_program.nd rfl (Or.inl rfl) (xo (zn uV (zj 3) (zq zE (by rfl) T.n_len xl (zh (zj 1) za)) (zD _)) (zt c_read_row (hr.mono (by omega)) (zg (zm zu (zj 1) (zj 3) (fun _ _=>rfl)) (zh (zj 4) za))) yl))
        (zd (zx (zn XB (zj 5) yl (zD _))
          (zf (xX xi_NoText hr.hd (hr.mono (by omega)) (zh (zj 3) za)))
          zo)
        (zf (ur (zO PySem.F.plainAttrs_list PySem.F.slot_list_append PySem.F.type_list_append u5 (zj 2) (zh (zj 5) za)))))))
      (zd (zx (zn W7 (zq zE (by rfl) T.n_len xl (zh (zj 1) za)) (zq zE (by rfl) T.n_len xl (zh (yj (v:=.ref a.t_ROW_WORDS) rfl T.g_ROW_WORDS rfl) za)) (zD _))
        (zf (xX xi_NoText hr.hd (hr.mono (by omega)) (zF (zq zE (by rfl) T.n_len xl (zh (yj (v:=.ref a.t_ROW_WORDS) rfl T.g_ROW_WORDS rfl) za)) za)))
        zo)
      (zf (zk (Uz mx_Program (hr.mono (by omega)) (zg (zm zu (zj 2) zb (fun _ _=>rfl)) (zg (zm zu (zj 2) zb (fun _ _=>rfl)) (zg (zm zu (zj 2) zb (fun _ _=>rfl)) (zg (zm zu (zj 2) zb (fun _ _=>rfl)) za)))))))))))) ?_
    rcases h with ⟨x,rows,rfl,hs,hl,hrl,hfit,k1,k2,k3⟩ | ⟨v,t,rfl,ht,hk,k0⟩
    case inr =>
      refine ⟨_,rfl,_,_,_,_,_,rfl,rfl,ht,hk,_,rfl,xc rfl ?_⟩
      exact ⟨_,rfl,fun d hd=>k0 d _ (Same.new hd) hd upd_same⟩
    have hpl:=wl x "\n"
    have e2' : sizeLine = 16777216:=rfl
    refine ⟨_,rfl,_,_,_,_,_,rfl,rfl,TyOf.str _,T.k_tstr_tstr,_,rfl,iteN rfl ?_⟩
    refine ⟨_,rfl,rfl,_,_,rfl,rfl,(by decide +kernel),(by omega),(by rw [hs]; omega),(by omega),fun pr hpr=>?_⟩
    rw [hs]
    have s0:=Same.new (o:=HO.lst (rows.map V.str)) hpr
    refine ⟨by show 0 ≤ sizeLine; decide,fun pe hpe=>?_⟩
    have s1:=Same.new (o:=HO.lst []) hpe
    refine ⟨.t,a.t_ROW_WORDS,_,rfl,T.s_ROW_WORDS _,?_⟩
    refine VF (K:=K) (k:=.t) (a:=a.t_ROW_WORDS) (xs:=rowWs.map V.str) (fun i σ H'=>∃ o3 o4 o5 rs es,σ = [some (.str x),some (.ref pr),some (.ref pe),o3,o4,o5]∧Same (upd H pr (HO.lst (rows.map V.str))) H'∧H' pe = some (.lst rs)∧MadeL a H' rs es∧i ≤ 4∧es.length = i∧∀ j < i,zP rows j = es[j]?) ?_ ?_ ?_ ?_
    · exact ⟨none,none,none,[],[],rfl,s1,upd_same,trivial,by omega,rfl,fun j hj=>by omega⟩
    · rintro i σ H' _ _
      exact T.s_ROW_WORDS _
    · rintro i x' σ H' q hx ⟨o3,o4,o5,rs,es,rfl,sm,hpe',hm,hi4,hel,hat⟩ hq
      rw [List.getElem?_map] at hx
      obtain ⟨first,hfirst,rfl⟩:=Option.map_eq_some_iff.mp hx
      have i4 : i < 4:=(List.getElem?_eq_some_iff.mp hfirst).1
      have sq:=Same.new (o:=HO.tup [V.int i,V.str first]) hq
      have hpr':=sq _ _ (sm _ _ upd_same)
      have sH : Same H _:=s0.trans (sm.trans sq)
      have hno : ∀ j < i,zP rows j ≠ none:=fun j hj=>by
        rw [hat j hj]
        intro z
        rw [List.getElem?_eq_none_iff] at z
        omega
      have hlen : rs.length = i:=by rw [hm.len,hel]
      refine ⟨q,[.int i,.str first],rfl,SqT.of upd_same,rfl,_,_,rfl,_,_,rfl,rfl,?_⟩
      have bad : ∀ H1,Same (upd H' q (HO.tup [V.int i,V.str first])) H1→zP rows i = none→∀ d,H1 d = none→E (.ref a.c_NoText) (some d) (upd H1 d (.xd [("row",.int i)])):=fun H1 sr hr d hd =>
        k1 i i4 hno hr d _ (Same.updF (sH.trans sr) ((sH.trans sr).free hd)) ((sH.trans sr).free hd) upd_same
      refine ⟨_,rfl,_,rfl,pr,_,rfl,.inl (SqL.of hpr'),_,_,rfl,rfl,_,rfl,?_⟩
      rw [List.length_map]
      by_cases hir : i < rows.length
      · refine xc (decide_eq_true (by show (i : Int) < rows.length; omega)) ?_
        have hrow : rows[i]? = some rows[i]:=List.getElem?_eq_getElem hir
        have hat' : zP rows i = Zj first rows[i]:=by
          unfold zP
          rw [hfirst,hrow]
          rfl
        refine ⟨_,rfl,_,rfl,pr,_,i,_,rfl,rfl,SqL.of hpr',zW (by rw [List.getElem?_map,hrow]; rfl),_,rfl,rows[i],first,rfl,hfit _ (List.getElem_mem hir),fun e he r H1 m1 sr=>?_,fun he H1 sr=>?_⟩
        · refine ⟨_,rfl,rfl,_,rfl,iteN m1.no ?_⟩
          have hpe1:=sr _ _ (sq _ _ hpe')
          refine ⟨_,rfl,.inl ⟨rfl,_,SqL.of hpe1⟩,_,rfl,pe,rs,r,rfl,rfl,hpe1,xp (by omega),?_⟩
          refine ⟨_,_,_,rs ++ [r],es ++ [e],rfl,Same.updF (sm.trans (sq.trans sr)) hpe,upd_same,((hm.same (sq.trans sr)).snoc m1).updL hpe1,i4,by simp [hel],fun j hj=>?_⟩
          by_cases hji : j < i
          · rw [hat j hji,List.getElem?_append_left (by omega)]
          · have : j = i:=by omega
            subst this
            rw [hat',he,List.getElem?_append_right (by omega),hel,Nat.sub_self]
            rfl
        · refine ⟨_,rfl,rfl,_,rfl,xc rfl ?_⟩
          exact ⟨_,rfl,_,rfl,bad H1 sr (hat'.trans he)⟩
      · refine iteN (decide_eq_false (by show ¬ (i : Int) < rows.length; omega)) ?_
        refine ⟨_,rfl,rfl,_,rfl,xc rfl ?_⟩
        refine ⟨_,rfl,_,rfl,bad _ (Same.refl _) ?_⟩
        unfold zP
        rw [hfirst,List.getElem?_eq_none_iff.mpr (by omega)]
        rfl
    · rintro σ H' ⟨o3,o4,o5,rs,es,rfl,sm,hpe',hm,_,hel,hat⟩
      have hel : es.length = 4:=hel
      have hat : ∀ j < 4,zP rows j = es[j]?:=hat
      have hpr':=sm _ _ upd_same
      have sH:=s0.trans sm
      refine ⟨_,rfl,pr,_,rfl,.inl (SqL.of hpr'),a.t_ROW_WORDS,_,rfl,.inr (T.s_ROW_WORDS _),_,_,rfl,rfl,_,rfl,?_⟩
      rw [List.length_map]
      by_cases hr4 : 4 < rows.length
      · refine xc (decide_eq_true (by show (rows.length : Int) > 4; omega)) ?_
        refine ⟨a.t_ROW_WORDS,_,rfl,.inr (T.s_ROW_WORDS _),_,rfl,fun d hd=>?_⟩
        refine k2 (fun j hj z=>?_) hr4 d _ (Same.updF sH (sH.free hd)) (sH.free hd) upd_same
        rw [hat j hj,List.getElem?_eq_none_iff] at z
        omega
      refine iteN (decide_eq_false (by show ¬ (rows.length : Int) > 4; omega)) ?_
      match es,hel,hm,hat with
      | [e1,e2,e3,e4],_,hm,hat =>
        obtain ⟨r1,rs1,rfl,m1,hm⟩:=hm.cons
        obtain ⟨r2,rs2,rfl,m2,hm⟩:=hm.cons
        obtain ⟨r3,rs3,rfl,m3,hm⟩:=hm.cons
        obtain ⟨r4,rs4,rfl,m4,hm⟩:=hm.cons
        cases hm.nil
        obtain ⟨kg,kb⟩:=k3 e1 e2 e3 e4 (hat 0 (by decide)) (hat 1 (by decide)) (hat 2 (by decide)) (hat 3 (by decide)) (by omega)
        refine ⟨_,rfl,pe,_,0,_,rfl,rfl,SqL.of hpe',rfl,_,rfl,pe,_,1,_,rfl,rfl,SqL.of hpe',rfl,_,rfl,pe,_,2,_,rfl,rfl,SqL.of hpe',rfl,_,rfl,pe,_,3,_,rfl,rfl,SqL.of hpe',rfl,fun x dx nx ndx nex=>?_⟩
        have sN : Same H' (L2.upd (L2.upd H' dx (.own x)) x (.ins a.c_Program dx [])):=fun b o e=>by
          rw [upd_ne (ne_of_none e nx),upd_ne (ne_of_none e ndx)]
          exact e
        refine ⟨x,dx,r1,r2,r3,r4,e1.gx,e2.gx,e3.gx,e4.gx,rfl,upd_same,⟨(m1.same sN).gx T,(m2.same sN).gx T,(m3.same sN).gx T,(m4.same sN).gx T⟩,fun hG H4 s4=>⟨rfl,?_⟩,fun hG H4 s4=>kb (fun z=>hG (good_gx.mpr z)) _ (sH.trans (sN.trans s4))⟩
        have hG:=good_gx.mp hG
        have s34 : Same H' (L2.upd H4 x (.ins a.c_Program dx [("start",r1),("send",r2),("when",r3),("renew",r4)])):=Same.updF (sN.trans s4) nx
        have hG':=hG
        obtain ⟨⟨q1,g1⟩,⟨q2,g2⟩,⟨q3,g3⟩,⟨q4,g4⟩,z⟩:=hG'
        exact kg hG _ _ ⟨x,dx,r1,r2,r3,r4,rfl,upd_same,⟨m1.same s34,q1,g1⟩,⟨m2.same s34,q2,g2⟩,⟨m3.same s34,q3,g3⟩,⟨m4.same s34,q4,g4⟩,z⟩ (sH.trans s34)
def zjA (H : Hp) (e1 e2 e3 e4 : Ex) (v1 v2 v3 v4 : V) : Prop:=(Told H e1 v1∧e1.ok startNs∧e1.dep ≤ 4∧e1.size ≤ 15)∧(Told H e2 v2∧e2.ok sendNs∧e2.dep ≤ 4∧e2.size ≤ 15)∧(Told H e3 v3∧e3.ok sendNs∧e3.dep ≤ 4∧e3.size ≤ 15)∧(Told H e4 v4∧e4.ok renewNs∧e4.dep ≤ 4∧e4.size ≤ 15)
def uC (a : Ad) : Sp:=fun vs H Q _=>∃ (q : Addr) (v1 v2 v3 v4 : V) (e1 e2 e3 e4 : Ex),vs = [.ref q]∧H q = some (.lst [v1,v2,v3,v4])∧zjA H e1 e2 e3 e4 v1 v2 v3 v4∧∀ r H',Wz a H' e1 e2 e3 e4 r→Same H H'→Q r H'
theorem Yz (T : Txt w K mg a) : FnOk P w K mg base CX0 24 a.f__law_program a.d__law_program ["_law_four_here"] (uC a):=by
  have c__law_made : Callee P w K mg base "_law_made" a.f__law_made a.d__law_made ["_law_told"] 6 (Xa a 4):=⟨XF T 4,T.g__law_made,T.F__law_made.kp,T.b__law_made⟩
  have m_Program : Maker P w K mg base "Program" a.c_Program a.f_Program___init__ a.d_Program___init__ ["self", "start", "send", "when", "renew"] 22 (V1 a):=⟨zae T,T.g_Program,T.mk_Program,T.b_Program___init__⟩
  refine T.F__law_program.ok wU (fun vs H Q E h=>?_) (fun cdv A outer s H vs Q E hr h=>?_)
  · obtain ⟨q,v1,v2,v3,v4,e1,e2,e3,e4,rfl,_⟩:=h
    rfl
  · obtain ⟨q,v1,v2,v3,v4,e1,e2,e3,e4,rfl,hq,⟨⟨t1,o1,d1,z1⟩,⟨t2,o2,d2,z2⟩,⟨t3,o3,d3,z3⟩,⟨t4,o4,d4,z4⟩⟩,k⟩:=h
    refine yh (zf (zk (xD m_Program (hr.mono (by omega)) (zF (zt c__law_made (hr.mono (by omega)) (zg (zm zu (zj 0) zb (fun _ _=>rfl)) za)) (zF (zt c__law_made (hr.mono (by omega)) (zg (zm zu (zj 0) zb (fun _ _=>rfl)) za)) (zF (zt c__law_made (hr.mono (by omega)) (zg (zm zu (zj 0) zb (fun _ _=>rfl)) za)) (zF (zt c__law_made (hr.mono (by omega)) (zg (zm zu (zj 0) zb (fun _ _=>rfl)) za)) za))))))) ?_
    refine ⟨_,rfl,q,_,0,_,rfl,rfl,SqL.of hq,rfl,e1,_,_,rfl,t1,d1,o1,fun r1 H1 m1 s1=>?_⟩
    refine ⟨_,rfl,q,_,1,_,rfl,rfl,SqL.of (s1 _ _ hq),rfl,e2,_,_,rfl,t2.same s1,d2,o2,fun r2 H2 m2 s2=>?_⟩
    have s12:=s1.trans s2
    refine ⟨_,rfl,q,_,2,_,rfl,rfl,SqL.of (s12 _ _ hq),rfl,e3,_,_,rfl,t3.same s12,d3,o3,fun r3 H3 m3 s3=>?_⟩
    have s123:=s12.trans s3
    refine ⟨_,rfl,q,_,3,_,rfl,rfl,SqL.of (s123 _ _ hq),rfl,e4,_,_,rfl,t4.same s123,d4,o4,fun r4 H4 m4 s4=>?_⟩
    refine fun x dx nx ndx nex=>?_
    have sN : Same H4 (L2.upd (L2.upd H4 dx (.own x)) x (.ins a.c_Program dx [])):=fun b o e=>by
      rw [upd_ne (ne_of_none e nx),upd_ne (ne_of_none e ndx)]
      exact e
    have m1:=m1.same ((s2.trans s3).trans s4)
    have m2:=m2.same (s3.trans s4)
    have m3:=m3.same s4
    refine ⟨x,dx,r1,r2,r3,r4,e1,e2,e3,e4,rfl,upd_same,⟨⟨m1.same sN,o1,by omega⟩,⟨m2.same sN,o2,by omega⟩,⟨m3.same sN,o3,by omega⟩,⟨m4.same sN,o4,by omega⟩,by omega⟩,fun H5 s5=>⟨rfl,?_⟩⟩
    have s45 : Same H4 (L2.upd H5 x (.ins a.c_Program dx [("start",r1),("send",r2),("when",r3),("renew",r4)])):=Same.updF (sN.trans s5) nx
    exact k _ _ ⟨x,dx,r1,r2,r3,r4,rfl,upd_same,⟨m1.same s45,o1,by omega⟩,⟨m2.same s45,o2,by omega⟩,⟨m3.same s45,o3,by omega⟩,⟨m4.same s45,o4,by omega⟩,by omega⟩ ((s123.trans s4).trans s45)
end
end K04

namespace K04
open PySem L2
structure Row (row : Str) : Prop where
  fit : Fit row
  nf : 10 ∉ row.cps.toList
  len : row.length ≤ 30000
theorem zeK {w : Str} (h : Wd w) : Asc w:=⟨Wx fun c hc=>by have:=h.1 c hc; omega,Nat.le_trans h.2 (by decide)⟩
theorem wS {ws : List Str} (ne : ws ≠ []) (h : ∀ w ∈ ws,Wd w) : Txt.split (Txt.join " " ws) " " = ws:=by
  rw [yx]
  exact xO ne fun w hw z=>by have:=(h w hw).1 _ z; omega
theorem uM {ws : List Str} (ne : ws ≠ []) (h : ∀ w ∈ ws,Wd w) (hn : ws.length ≤ 401) : Row (Txt.join " " ws):=by
  have hs:=wS ne h
  have hl : (Txt.join " " ws).length ≤ 30000:=by
    rw [yx]
    have:=wN (c:=32) (B:=70) (fun w hw=>(h w hw).2)
    omega
  refine ⟨⟨by omega,fun w hw=>?_,?_⟩,?_,hl⟩
  · rw [hs] at hw
    exact zeK (h w hw)
  · rw [hs]
    omega
  · rw [yx]
    intro z
    rcases mem_join z with z | ⟨w,hw,z⟩
    · cases z
    · have:=(h w hw).1 _ z
      omega
theorem WE {w : Str} (h : ui w) : Wd w:=⟨h.1,Nat.le_trans h.2 (by decide)⟩
theorem wI {f : Str} {e : Ex} (hf : f ∈ rowWs) (h : Rdb e) : Row (xr f e):=by
  have hc:=vT hf h
  exact uM (by simp) (fun w hw=>WE (xG hf h w hw)) (by omega)
theorem Z8 {c B : Nat} {ws : List Str} (h : ∀ w ∈ ws,w.length ≤ B) (hz : ws.length * B + ws.length ≤ 10000000) : JoinOk ⟨#[c]⟩ ws = true:=by
  unfold JoinOk
  rw [StrLaws.joinTotal,Bool.not_eq_true']
  have h2:=ZL h
  have e : (⟨#[c]⟩ : Str).length = 1:=rfl
  rw [e]
  unfold Builtin.Str.tooLong
  have e2 : sizeLine = 16777216:=rfl
  rw [decide_eq_false_iff_not,e2,Nat.mul_one]
  omega
structure TextOk (x : Str) (rows : List Str) : Prop where
  sp : Txt.split x "\n" = rows
  len : x.length ≤ 400000
  cnt : rows.length ≤ 1000
  fit : ∀ r ∈ rows,Fit r
theorem YX {rows : List Str} (h : ∀ r ∈ rows,Row r) (hn : rows.length ≤ 12) : JoinOk "\n" rows = true:=by
  rw [xz]
  exact Z8 (B:=30000) (fun w hw=>(h w hw).len) (by omega)
theorem vL {rows : List Str} (ne : rows ≠ []) (h : ∀ r ∈ rows,Row r) (hn : rows.length ≤ 12) : TextOk (Txt.join "\n" rows) rows:=by
  refine ⟨?_,?_,by omega,fun r hr=>(h r hr).fit⟩
  · rw [xz]
    exact xO ne fun w hw=>(h w hw).nf
  · rw [xz]
    have:=wN (c:=10) (B:=30000) (fun w hw=>(h w hw).len)
    omega
section
variable {P : Program} {w : World} {K : PySem.W.Frag} {mg : Str→Option Value} {base : Heap} {a : Ad}
def zdq : Sp:=fun vs H Q _=>∃ (x : Str) (rows : List Str),vs = [.str x]∧TextOk x rows ∧
  (∀ i : Nat,i < 4→(∀ j < i,zP rows j ≠ none)→zP rows i = none→∀ H',Same H H'→Q (.int i) H') ∧
  ((∀ j < 4,zP rows j ≠ none)→4 < rows.length→∀ H',Same H H'→Q (.int 4) H') ∧
  (∀ e1 e2 e3 e4,zP rows 0 = some e1→zP rows 1 = some e2→zP rows 2 = some e3→zP rows 3 = some e4→rows.length ≤ 4→GoodE e1 e2 e3 e4∧∀ H',Same H H'→Q .non H')
def zdr (K : PySem.W.Frag) : Sp:=fun vs H Q _=>∃ (v : V) (t : Value),vs = [v]∧TyOf K H v t∧PySem.W.kitOne K t (.type "str") = some false∧∀ H',Same H H'→Q (.int 0) H'
def zdt (K : PySem.W.Frag) : Sp:=fun vs H Q E=>zdq vs H Q E∨zdr K vs H Q E
theorem zjw (T : Txt w K mg a) : PySem.W.kitAny K (.ref a.c_NoText) [.ref a.c_NoProgram,.ref a.c_NoWeb] = some false:=by
  unfold PySem.W.kitAny
  rw [T.k_NoText_NoProgram]
  show PySem.W.kitAny K (.ref a.c_NoText) [.ref a.c_NoWeb] = some false
  unfold PySem.W.kitAny
  rw [T.k_NoText_NoWeb]
  rfl
theorem zjp (T : Txt w K mg a) : FnOk P w K mg base CX0 25 a.f__law_row a.d__law_row ["_law_text"] (zdt K):=by
  have cx_read_program : Callee1 P w K mg base "read_program" a.f_read_program a.d_read_program ["text"] 24 (V0 K a):=⟨zad T,T.g_read_program,T.F_read_program.kp,T.b_read_program⟩
  refine T.F__law_row.ok sc__law_row (fun vs H Q E h=>?_) (fun cdv A outer s H vs Q E hr h=>?_)
  · rcases h with ⟨x,rows,rfl,_⟩ | ⟨v,t,rfl,_⟩ <;> rfl
  · refine yh (zd (zr (i:=1) sc__law_row.nd rfl (Or.inl rfl) yl)
      (wc (YO (i:=2) rfl rfl sc__law_row.nd rfl rfl (Or.inr ⟨_,T.xn_NoText⟩) T.g_NoText (YM (zb9 cx_read_program (hr.mono (by omega)) (zh (zj 0) za))) (fun _=>(zd (zr (i:=1) sc__law_row.nd rfl (Or.inl rfl) (YS (K:=K) rfl (zj 2) rfl))
        (zf (zx (zaI (xC (zX (zq (Wp (K:=K) rfl) (by rfl) T.n_isinstance zB (zh (zj 2) (VU (yS (zh (yT T.g_NoProgram) (zh (yT T.g_NoWeb) za))) za)))) (xC (vJ (zX (zq (Wr (K:=K) rfl) (by rfl) T.n_isinstance zB (zh (zj 2) (zh (yT T.g_BeatlessError) za))))) (xK (zX (zq (Wq (K:=K) rfl) (by rfl) T.n_isinstance zB (zh (zj 1) (zh (xN T.n_bool Wu) za))))))))
          (zf (zr (i:=1) sc__law_row.nd rfl (Or.inl rfl) ze))
          zo)))))
      (zf (zk (zj 1))))) ?_
    obtain ⟨v0,rfl⟩ : ∃ v0,vs = [v0]:=by
      rcases h with ⟨x,rows,rfl,_⟩ | ⟨v,t,rfl,_⟩
      · exact ⟨_,rfl⟩
      · exact ⟨_,rfl⟩
    refine ⟨fun σ' H'=>∃ v,σ' = [some v0,some v,none]∧Q v H',?_,?_⟩
    · rcases h with ⟨x,rows,e0,⟨hsp,hln,hct,hft⟩,k1,k2,k3⟩ | ⟨v,t,e0,ht,hk,k0⟩
      · cases e0
        refine ⟨_,rfl,.inl ⟨x,rows,rfl,hsp,hln,hct,hft,fun i hi hj hr d H' sm hd0 hd=>?_,fun hall h4 d H' sm hd0 hd=>?_,fun e1 e2 e3 e4 h1 h2 h3 h4 hl=>?_⟩⟩
        · refine ⟨a.c_NoText,rfl,.inl ⟨rfl,fun ax hax=>?_⟩⟩
          have nd : d ≠ ax:=ne_of_none hd hax
          have sx:=Same.new (o:=HO.ext (ObX ax a.c_NoText (some d))) hax
          refine ⟨_,rfl,ax,_,d,_,_,rfl,upd_same,(upd_ne nd).trans hd,T.xg_NoText,rfl,?_⟩
          refine ⟨_,rfl,(by show 2 ≤ sizeLine; decide),fun p hp=>?_⟩
          have sp:=Same.new (o:=HO.tup [V.ref a.c_NoProgram,V.ref a.c_NoWeb]) hp
          refine ⟨ax,_,p,_,_,[.ref a.c_NoProgram,.ref a.c_NoWeb],false,rfl,sp _ _ upd_same,upd_same,rfl,T.xi_NoText,zjw T,_,rfl,iteN rfl ?_⟩
          refine ⟨_,rfl,ax,_,_,_,_,_,rfl,rfl,sp _ _ upd_same,T.xi_NoText,T.k_NoText_BeatlessError,_,rfl,iteN rfl ?_⟩
          refine ⟨_,rfl,_,_,_,_,_,rfl,rfl,TyOf.int _,T.k_tint_tbool,_,rfl,iteN rfl ?_⟩
          exact ⟨_,rfl,k1 i hi hj hr _ (sm.trans (sx.trans sp))⟩
        · refine ⟨a.c_NoText,rfl,.inl ⟨rfl,fun ax hax=>?_⟩⟩
          have nd : d ≠ ax:=ne_of_none hd hax
          have sx:=Same.new (o:=HO.ext (ObX ax a.c_NoText (some d))) hax
          refine ⟨_,rfl,ax,_,d,_,_,rfl,upd_same,(upd_ne nd).trans hd,T.xg_NoText,rfl,?_⟩
          refine ⟨_,rfl,(by show 2 ≤ sizeLine; decide),fun p hp=>?_⟩
          have sp:=Same.new (o:=HO.tup [V.ref a.c_NoProgram,V.ref a.c_NoWeb]) hp
          refine ⟨ax,_,p,_,_,[.ref a.c_NoProgram,.ref a.c_NoWeb],false,rfl,sp _ _ upd_same,upd_same,rfl,T.xi_NoText,zjw T,_,rfl,iteN rfl ?_⟩
          refine ⟨_,rfl,ax,_,_,_,_,_,rfl,rfl,sp _ _ upd_same,T.xi_NoText,T.k_NoText_BeatlessError,_,rfl,iteN rfl ?_⟩
          refine ⟨_,rfl,_,_,_,_,_,rfl,rfl,TyOf.int _,T.k_tint_tbool,_,rfl,iteN rfl ?_⟩
          exact ⟨_,rfl,k2 hall h4 _ (sm.trans (sx.trans sp))⟩
        · obtain ⟨hg,kg⟩:=k3 e1 e2 e3 e4 h1 h2 h3 h4 hl
          exact ⟨fun _ r H' _ sm=>⟨_,rfl,kg _ sm⟩,fun hb=>absurd hg hb⟩
      · cases e0
        refine ⟨_,rfl,.inr ⟨v0,t,rfl,ht,hk,fun d H' sm hd0 hd=>?_⟩⟩
        refine ⟨a.c_NoText,rfl,.inl ⟨rfl,fun ax hax=>?_⟩⟩
        have nd : d ≠ ax:=ne_of_none hd hax
        have sx:=Same.new (o:=HO.ext (ObX ax a.c_NoText (some d))) hax
        refine ⟨_,rfl,ax,_,d,_,_,rfl,upd_same,(upd_ne nd).trans hd,T.xg_NoText,rfl,?_⟩
        refine ⟨_,rfl,(by show 2 ≤ sizeLine; decide),fun p hp=>?_⟩
        have sp:=Same.new (o:=HO.tup [V.ref a.c_NoProgram,V.ref a.c_NoWeb]) hp
        refine ⟨ax,_,p,_,_,[.ref a.c_NoProgram,.ref a.c_NoWeb],false,rfl,sp _ _ upd_same,upd_same,rfl,T.xi_NoText,zjw T,_,rfl,iteN rfl ?_⟩
        refine ⟨_,rfl,ax,_,_,_,_,_,rfl,rfl,sp _ _ upd_same,T.xi_NoText,T.k_NoText_BeatlessError,_,rfl,iteN rfl ?_⟩
        refine ⟨_,rfl,_,_,_,_,_,rfl,rfl,TyOf.int _,T.k_tint_tbool,_,rfl,iteN rfl ?_⟩
        exact ⟨_,rfl,k0 _ (sm.trans (sx.trans sp))⟩
    · rintro σ' H' ⟨v,rfl,q⟩
      exact ⟨_,rfl,q⟩
end
end K04

namespace K04
open PySem L2
theorem cut_to {xs : List V} (k : Nat) : vA xs none (some (k : Int)) = xs.take k:=by
  have h1 : HT.sIx xs.length xs.length (some (k : Int)) = min k xs.length:=by
    unfold HT.sIx
    simp
    omega
  have h2 : HT.sIx xs.length 0 none = 0:=rfl
  unfold vA
  rw [h1,h2]
  simp
theorem zdJ {xs : List V} {d : Int} (h0 : 0 ≤ d) (h1 : d < xs.length) : ∃ v,atI xs d = some v∧v ∈ xs:=by
  obtain ⟨n,rfl⟩ : ∃ n : Nat,d = n:=⟨d.toNat,by omega⟩
  have hn : n < xs.length:=by omega
  exact ⟨xs[n],zW (by simp [hn]),List.getElem_mem hn⟩
theorem zjd {ws : List Str} {d : Int} (h0 : 0 ≤ d) (h1 : d < ws.length) : ∃ x ∈ ws,atI (ws.map V.str) d = some (.str x):=by
  obtain ⟨v,e,hv⟩:=zdJ (xs:=ws.map V.str) h0 (by rw [List.length_map]; exact h1)
  obtain ⟨x,hx,rfl⟩:=List.mem_map.mp hv
  exact ⟨x,hx,e⟩
def GvX (σ : St) (H0 : Hp) (te : TE) (x : Str) : Prop:=∀ H,Same H0 H→∀ Q : VK,(∀ H',Same H H'→Q (.str x) H')→te σ H Q
def GvS (σ : St) (H0 : Hp) (t : TA) (ws : List Str) : Prop:=∀ H,Same H0 H→∀ Q : List V→Hp→Prop,(∀ H',Same H H'→Q (ws.map V.str) H')→t σ H Q
def GvO (σ : St) (H0 : Hp) (t : TO) (l : Option Int) : Prop:=∀ H,Same H0 H→∀ Q : Option Int→Hp→Prop,(∀ H',Same H H'→Q l H')→t σ H Q
def GvW (σ : St) (H0 : Hp) (te : TE) (ws : List Str) : Prop:=∀ H,Same H0 H→∀ Q : VK,(∀ p H',Same H H'→H' p = some (.lst (ws.map V.str))→Q (.ref p) H')→te σ H Q
def PR (H : Hp) : List V→List (List Str)→Prop
  | [],[]=>True
  | r :: rs,ws :: wss=>(∃ p,r = .ref p∧H p = some (.lst (ws.map V.str)))∧PR H rs wss
  | _,_=>False
theorem PR.same {H H' : Hp} (s : Same H H') : ∀ {rs : List V} {wss : List (List Str)},PR H rs wss→PR H' rs wss
  | [],[],_=>trivial
  | _ :: _,_ :: _,⟨⟨p,e,h⟩,t⟩=>⟨⟨p,e,s _ _ h⟩,PR.same s t⟩
theorem PR.app {H : Hp} : ∀ {rs rs' : List V} {wss wss' : List (List Str)},PR H rs wss→PR H rs' wss'→PR H (rs ++ rs') (wss ++ wss')
  | [],_,[],_,_,h=>h
  | _ :: _,_,_ :: _,_,⟨h,t⟩,h'=>⟨h,PR.app t h'⟩
theorem PR.mem {H : Hp} {r : V} : ∀ {rs : List V} {wss : List (List Str)},PR H rs wss→r ∈ rs→∃ p ws,r = .ref p∧ws ∈ wss∧H p = some (.lst (ws.map V.str))
  | r' :: rs,ws :: wss,⟨⟨p,e,h⟩,t⟩,hm=>by
    rcases List.mem_cons.mp hm with rfl | hm
    · exact ⟨p,ws,e,List.mem_cons_self ..,h⟩
    · obtain ⟨p',ws',e',hw,h'⟩:=PR.mem t hm
      exact ⟨p',ws',e',List.mem_cons_of_mem _ hw,h'⟩
theorem PR.len {H : Hp} : ∀ {rs : List V} {wss : List (List Str)},PR H rs wss→rs.length = wss.length
  | [],[],_=>rfl
  | _ :: _,_ :: _,⟨_,t⟩=>by rw [List.length_cons,List.length_cons,PR.len t]
def GvL (σ : St) (H0 : Hp) (t : TA) (wss : List (List Str)) : Prop:=∀ H,Same H0 H→∀ Q : List V→Hp→Prop,(∀ rs H',Same H H'→PR H' rs wss→Q rs H')→t σ H Q
section
variable {σ : St} {H0 : Hp} {ta tb te tx : TE} {t : TA} {lo hi : TO} {us vs ws : List Str} {wss : List (List Str)} {x : Str} {i : Nat} {k : Int} {l u : Option Int} {K : PySem.W.Frag}
theorem xt : GvX σ H0 (tC (.str x)) x:=fun H _ Q k=>k H (Same.refl H)
theorem yP : GvS σ H0 YZ []:=fun H _ Q k=>k H (Same.refl H)
theorem zw (h : GvX σ H0 tx x) (r : GvS σ H0 t ws) : GvS σ H0 (xv tx t) (x :: ws):=fun H s Q k=>h H s _ fun H1 s1=>r H1 (s.trans s1) _ fun H2 s2=>k H2 (s1.trans s2)
theorem yO (h : GvS σ H0 t ws) (hz : ws.length ≤ 1000) : GvW σ H0 (zaK t) ws:=fun H s Q k=>h H s _ fun H1 s1=>⟨by rw [List.length_map]; exact Nat.le_trans hz (by decide),fun p hp=>k p _ (s1.trans (Same.new hp)) upd_same⟩
theorem gw_var {p : Addr} (hs : σ[i]? = some (some (.ref p))) (hp : H0 p = some (.lst (ws.map V.str))) : GvW σ H0 (WO i) ws:=fun H s Q k=>⟨_,hs,k p H (Same.refl H) (s _ _ hp)⟩
theorem yw (ha : GvW σ H0 ta us) (hb : GvW σ H0 tb vs) (hz : us.length + vs.length ≤ 1000) : GvW σ H0 (tOp zdD ta tb) (us ++ vs):=fun H s Q k=>ha H s _ fun p H1 s1 hp=>hb H1 (s.trans s1) _ fun q H2 s2 hq =>
  ⟨p,q,_,_,rfl,rfl,s2 _ _ hp,hq,by rw [List.length_map,List.length_map]; exact Nat.le_trans hz (by decide),fun r hr=>k r _ (s1.trans (s2.trans (Same.new hr))) (by rw [upd_same,List.map_append])⟩
theorem xn : GvO σ H0 Zn none:=fun H _ Q k=>k H (Same.refl H)
theorem X9 : GvO σ H0 (YY (tC (.int k))) (some k):=fun H _ Q q=>⟨_,rfl,q H (Same.refl H)⟩
theorem wz (hs : σ[i]? = some (some (.int k))) : GvO σ H0 (YY (WO i)) (some k):=fun H _ Q q=>⟨_,hs,_,rfl,q H (Same.refl H)⟩
theorem X8 {j : Int} (hs : σ[i]? = some (some (.int k))) : GvO σ H0 (YY (tOp (rI0 fun i j=>.int (i + j)) (WO i) (tC (.int j)))) (some (k + j)):=fun H _ Q q=>⟨_,hs,_,_,rfl,rfl,_,rfl,q H (Same.refl H)⟩
theorem xm (h : GvW σ H0 te us) (hl : GvO σ H0 lo l) (hu : GvO σ H0 hi u) (e : vA (us.map V.str) l u = ws.map V.str) : GvW σ H0 (tSl (zo5 K) te lo hi) ws:=fun H s Q k=>h H s _ fun p H1 s1 hp=>hl H1 (s.trans s1) _ fun H2 s2=>hu H2 (s.trans (s1.trans s2)) _ fun H3 s3 =>
  ⟨p,_,rfl,SqL.of (s3 _ _ (s2 _ _ hp)),fun q hq=>k q _ (s1.trans (s2.trans (s3.trans (Same.new hq)))) (by rw [upd_same,e])⟩
theorem Yb : GvL σ H0 YZ []:=fun H _ Q k=>k [] H (Same.refl H) trivial
theorem zey (h : GvL σ H0 t wss) (hz : wss.length ≤ 1000) : ∀ H,Same H0 H→∀ Q : VK,(∀ p rs H',Same H H'→H' p = some (.lst rs)→PR H' rs wss→Q (.ref p) H')→zaK t σ H Q:=fun H s Q k=>h H s _ fun rs H1 s1 pr=>⟨by rw [pr.len]; exact Nat.le_trans hz (by decide),fun p hp=>k p rs _ (s1.trans (Same.new hp)) upd_same (pr.same (Same.new hp))⟩
theorem yi (h : GvW σ H0 te ws) (r : GvL σ H0 t wss) : GvL σ H0 (xv te t) (ws :: wss):=fun H s Q k=>h H s _ fun p H1 s1 hp=>r H1 (s.trans s1) _ fun rs H2 s2 pr=>k _ H2 (s1.trans s2) ⟨⟨p,rfl,s2 _ _ hp⟩,pr⟩
end
def GvP (σ : St) (H0 : Hp) (te : TE) (wss : List (List Str)) : Prop:=∀ H,Same H0 H→∀ Q : VK,(∀ p rs H',Same H H'→H' p = some (.lst rs)→PR H' rs wss→Q (.ref p) H')→te σ H Q
section
variable {σ : St} {H0 : Hp} {ta tb te tx : TE} {t : TA} {lo hi : TO} {us vs ws : List Str} {wss wss' : List (List Str)} {x : Str} {i : Nat}
theorem Ya (h : GvL σ H0 t wss) (hz : wss.length ≤ 1000) : GvP σ H0 (zaK t) wss:=zey h hz
theorem X5 {p : Addr} {rs : List V} (hs : σ[i]? = some (some (.ref p))) (hp : H0 p = some (.lst rs)) (pr : PR H0 rs wss) : GvP σ H0 (WO i) wss:=fun H s Q k=>⟨_,hs,k p rs H (Same.refl H) (s _ _ hp) (pr.same s)⟩
theorem X6 (ha : GvP σ H0 ta wss) (hb : GvP σ H0 tb wss') (hz : wss.length + wss'.length ≤ 1000) : GvP σ H0 (tOp zdD ta tb) (wss ++ wss'):=fun H s Q k=>ha H s _ fun p rs H1 s1 hp pr=>hb H1 (s.trans s1) _ fun q rs' H2 s2 hq pr' =>
  ⟨p,q,_,_,rfl,rfl,s2 _ _ hp,hq,by rw [pr.len,pr'.len]; exact Nat.le_trans hz (by decide),fun r hr=>k r _ _ (s1.trans (s2.trans (Same.new hr))) upd_same (PR.app ((pr.same s2).same (Same.new hr)) (pr'.same (Same.new hr)))⟩
theorem zeP {D : Ends} {rest : TS} {H : Hp} (h : GvP σ H te wss) (k : ∀ p rs H2,Same H H2→H2 p = some (.lst rs)→PR H2 rs wss→rest D (σ.set i (some (.ref p))) H2) : zaJ (WS te (vz i)) rest D σ H:=h H (Same.refl H) _ k
theorem zq7 {D : Ends} {rest : TS} {H : Hp} (h : GvW σ H te ws) (k : ∀ p H2,Same H H2→H2 p = some (.lst (ws.map V.str))→rest D (σ.set i (some (.ref p))) H2) : zaJ (WS te (vz i)) rest D σ H:=h H (Same.refl H) _ k
end
section
variable {P : Program} {w : World} {K : PySem.W.Frag} {mg : Str→Option Value} {base : Heap} {a : Ad}
def Bad (f y : Str) : Prop:=Row y∧Zj f y = none
theorem Wv {f : Str} {ws : List Str} (h : Spoil f ws) : Bad f (Txt.join " " ws)∧JoinOk " " ws = true:=by
  obtain ⟨w,r,rfl,no⟩:=h.no
  have hl:=h.len
  refine ⟨⟨uM (by simp) h.wd (by omega),?_⟩,?_⟩
  · unfold Zj
    rw [wS (by simp) h.wd]
    show (if w = f then xH r else none) = none
    by_cases q : w = f
    · rw [if_pos q]
      rcases no with n | n
      · exact absurd q n
      · exact n
    · exact if_neg q
  · rw [yx]
    exact Z8 (B:=70) (fun w hw=>(h.wd w hw).2) (by omega)
def Y6 : Sp:=fun vs H Q _=>∃ (f : Str) (e : Ex) (cell : Int),vs = [.str (xr f e),.int cell]∧f ∈ rowWs∧Rdb e∧∀ y H',Bad f y→Same H H'→Q (.str y) H'
theorem W8 (T : Txt w K mg a) : FnOk P w K mg base CX0 1 a.f__law_spoiled a.d__law_spoiled ["_law_row_here", "_law_cell"] Y6:=by
  refine T.F__law_spoiled.ok sc__law_spoiled (fun vs H Q E h=>?_) (fun cdv A outer s H vs Q E hr h=>?_)
  · obtain ⟨f,e,cell,rfl,_⟩:=h
    rfl
  · obtain ⟨f,e,cell,rfl,hf,hd,k⟩:=h
    refine yh (zd (zr (i:=2) sc__law_spoiled.nd rfl (Or.inl rfl) (zO PySem.F.plainAttrs_str PySem.F.slot_str_split PySem.F.type_str_split wL (zj 0) (zl ze za)))
      (zd (zr (i:=3) sc__law_spoiled.nd rfl (Or.inl rfl) (zi xB zb (zi xI (zi xQ (zj 1) zb) (zi wm (zq zE (by rfl) T.n_len xl (zh (zj 2) za)) zb))))
      (zd (zr (i:=4) sc__law_spoiled.nd rfl (Or.inl rfl) (zp (zL (zi zH (zp (zl ze za)) (zv zK (zj 2) (zy zb) zA)) (zg (zv zK (zj 2) (zy zb) zA) (zL (zi zH (zp (zF (WI PySem.F.plainAttrs_str PySem.F.slot_str_upper PySem.F.type_str_upper Vp (zm zu (zj 2) zb (fun _ _=>rfl))) za)) (zv zK (zj 2) (zy zb) zA)) (zL (zi zH (zp (zl ze za)) (zj 2)) (zL (zi zH (zj 2) (zp (zl ze za))) (zg (zv zK (zj 2) zA (zy zb)) za))))))))
      (zd (zr (i:=4) sc__law_spoiled.nd rfl (Or.inl rfl) (zi zH (zj 4) (zp (zL (zi zH (zi zH (zv zK (zj 2) zA (zy (zj 3))) (zp (zl ze za))) (zv zK (zj 2) (zy (zj 3)) zA)) (zL (zi zH (zj 2) (zp (zl ze za))) (zL (zi zH (zj 2) (zp (zl ze za))) (zL (zi zH (zi zH (zv zK (zj 2) zA (zy zb)) (zp (zl ze za))) (zv zK (zj 2) (zy zb) zA)) (zg (zp (zl ze za)) za))))))))
      (zd (zr (i:=5) sc__law_spoiled.nd rfl (Or.inl rfl) (zp (zl ze (zl ze (zl ze (zl ze (zl ze (zl ze (zl ze (zl ze (zl ze (zl ze (zl ze (zl ze (zl ze (zl ze (zl ze (zl ze za))))))))))))))))))
      (zd (zr (i:=4) sc__law_spoiled.nd rfl (Or.inl rfl) (zi zH (zj 4) (zp (zL (zi zH (zi zH (zv zK (zj 2) zA (zy (zj 3))) (zp (zg (zm zu (zj 5) (zi xI (zi xQ (zj 1) zb) zb) (fun _ _=>rfl)) za))) (zv zK (zj 2) (zy (zi xB (zj 3) zb)) zA)) (zL (zi zH (zv zK (zj 2) zA (zy zb)) (zp (zl ze (zl ze (zl ze za))))) za)))))
      (zd (zr (i:=4) sc__law_spoiled.nd rfl (Or.inl rfl) (zi zH (zj 4) (zp (zL (zi zH (zv zK (zj 2) zA (zy zb)) (zp (zl ze (zl ze (zl ze (zl ze (zl ze za))))))) (zL (zi zH (zv zK (zj 2) zA (zy zb)) (zp (zl ze (zl ze (zl ze (zl ze za)))))) (zL (zi zH (zv zK (zj 2) zA (zy zb)) (zp (zl ze za))) za))))))
      (zf (zk (zO PySem.F.plainAttrs_str PySem.F.slot_str_join PySem.F.type_str_join yA ze (zg (zm zu (zj 4) (zi xI (zj 1) (zq zE (by rfl) T.n_len xl (zh (zj 4) za))) (fun _ _=>rfl)) za))))))))))) ?_
    have hs:=wZ hf hd
    have hl:=w6 hf hd
    have hpt:=wl (xr f e) " "
    have e2' : sizeLine = 16777216:=rfl
    obtain ⟨n1,n60⟩:=ue hf hd
    refine ⟨_,rfl,rfl,_,_,rfl,rfl,(by decide +kernel),(by omega),(by rw [hs]; simp; omega),(by omega),fun pw hpw=>?_⟩
    rw [hs]
    generalize hH1 : upd H pw (HO.lst ((f :: e.words).map V.str)) = H1 at *
    have s1 : Same H H1:=by rw [← hH1]; exact Same.new hpw
    have hw1 : H1 pw = some (.lst ((f :: e.words).map V.str)):=by rw [← hH1]; exact upd_same
    have lw : ((f :: e.words).map V.str).length = e.words.length + 1:=by rw [List.length_map,List.length_cons]
    have pos : (0 : Int) < (e.words.length : Int):=by omega
    obtain ⟨j,hj,ej⟩ : ∃ j : Nat,j < e.words.length∧1 + cell / 32 % ((((f :: e.words).map V.str).length : Int) - 1) = ((j + 1 : Nat) : Int):=by
      rw [lw]
      have h1:=Int.emod_nonneg (cell / 32) (show ((e.words.length + 1 : Nat) : Int) - 1 ≠ 0 by omega)
      have h2:=Int.emod_lt_of_pos (cell / 32) (show 0 < ((e.words.length + 1 : Nat) : Int) - 1 by omega)
      exact ⟨(cell / 32 % (((e.words.length + 1 : Nat) : Int) - 1)).toNat,by omega,by omega⟩
    refine ⟨_,rfl,_,_,rfl,rfl,⟨by decide,by decide⟩,_,rfl,pw,_,rfl,.inl (SqL.of hw1),_,_,rfl,rfl,_,_,rfl,rfl,(by rw [lw]; show (0 : Int) < ((e.words.length + 1 : Nat) : Int) - 1; omega),_,_,rfl,rfl,?_⟩
    have c1 : vA ((f :: e.words).map V.str) (some 1) none = e.words.map V.str:=by rw [List.map_cons]; exact zjy
    have c2 : vA ((f :: e.words).map V.str) none (some 1) = ([f] : List Str).map V.str:=by rw [show (1 : Int) = ((1 : Nat) : Int) from rfl,cut_to]; rfl
    have c3 : vA ((f :: e.words).map V.str) none (some (1 + cell / 32 % ((((f :: e.words).map V.str).length : Int) - 1))) = ((f :: e.words).take (j + 1)).map V.str:=by rw [ej,cut_to,List.map_take]
    have c4 : vA ((f :: e.words).map V.str) (some (1 + cell / 32 % ((((f :: e.words).map V.str).length : Int) - 1))) none = ((f :: e.words).drop (j + 1)).map V.str:=by rw [ej,xT,List.map_drop]
    have c5 : vA ((f :: e.words).map V.str) (some (1 + cell / 32 % ((((f :: e.words).map V.str).length : Int) - 1) + 1)) none = ((f :: e.words).drop (j + 2)).map V.str:=by rw [ej,show (((j + 1 : Nat) : Int) + 1) = ((j + 2 : Nat) : Int) by omega,xT,List.map_drop]
    have lt : ((f :: e.words).take (j + 1)).length ≤ 61:=Nat.le_trans (List.length_take_le' _ _) (by simp; omega)
    have ld : ∀ m,((f :: e.words).drop m).length ≤ 61:=fun m=>by rw [List.length_drop,List.length_cons]; omega
    refine zeP (Ya (yi (ws:=(["x"] : List Str) ++ e.words) (yw (yO (zw xt yP) (by simp)) (xm (gw_var rfl hw1) X9 xn c1) (by simp; omega)) (yi (xm (gw_var rfl hw1) X9 xn c1) (yi (ws:=[Txt.upper f] ++ e.words) (yw (yO (zw ?up yP) (by simp)) (xm (gw_var rfl hw1) X9 xn c1) (by simp; omega)) (yi (ws:=([""] : List Str) ++ (f :: e.words)) (yw (yO (zw xt yP) (by simp)) (gw_var rfl hw1) (by simp; omega)) (yi (ws:=(f :: e.words) ++ ([""] : List Str)) (yw (gw_var rfl hw1) (yO (zw xt yP) (by simp)) (by simp; omega)) (yi (ws:=[f]) (xm (gw_var rfl hw1) xn X9 c2) Yb)))))) (by simp)) fun p1 rs1 H2 s2 hp1 pr1=>?_
    case up=>exact fun H' s' Q' k'=>⟨_,rfl,pw,_,0,_,rfl,rfl,SqL.of (s' _ _ hw1),at0,rfl,_,rfl,rfl,Nat.le_trans (UB f hf).2.2 (by decide),k' H' (Same.refl _)⟩
    have hw2:=s2 _ _ hw1
    refine zeP (X6 (X5 rfl hp1 pr1) (Ya (yi (ws:=(f :: e.words).take (j + 1) ++ ([""] : List Str) ++ (f :: e.words).drop (j + 1)) (yw (yw (xm (gw_var rfl hw2) xn (wz rfl) c3) (yO (zw xt yP) (by simp)) (by simp; omega)) (xm (gw_var rfl hw2) (wz rfl) xn c4) (by simp; omega)) (yi (ws:=(f :: e.words) ++ (["5"] : List Str)) (yw (gw_var rfl hw2) (yO (zw xt yP) (by simp)) (by simp; omega)) (yi (ws:=(f :: e.words) ++ (["me"] : List Str)) (yw (gw_var rfl hw2) (yO (zw xt yP) (by simp)) (by simp; omega)) (yi (ws:=[f] ++ (["add"] : List Str) ++ e.words) (yw (yw (xm (gw_var rfl hw2) xn X9 c2) (yO (zw xt yP) (by simp)) (by simp)) (xm (gw_var rfl hw2) X9 xn c1) (by simp; omega)) (yi (ws:=([""] : List Str)) (yO (zw xt yP) (by simp)) Yb))))) (by simp)) (by simp)) fun p2 rs2 H3 s3 hp2 pr2=>?_
    have hw3:=s3 _ _ hw2
    have lo : oddL.length = 16:=rfl
    obtain ⟨ow,how,eow⟩:=zjd (ws:=oddL) (d:=cell / 512 % 16) (Int.emod_nonneg _ (by decide)) (Int.emod_lt_of_pos _ (by decide))
    obtain ⟨onw,owd⟩:=zd7 ow how
    refine zq7 (ws:=oddL) (yO (zw xt (zw xt (zw xt (zw xt (zw xt (zw xt (zw xt (zw xt (zw xt (zw xt (zw xt (zw xt (zw xt (zw xt (zw xt (zw xt yP)))))))))))))))) (by simp)) fun p3 H4 s4 hp3=>?_
    have hw4:=s4 _ _ hw3
    have hp2':=s4 _ _ hp2
    have pr2':=pr2.same s4
    refine zeP (X6 (X5 rfl hp2' pr2') (Ya (yi (ws:=(f :: e.words).take (j + 1) ++ [ow] ++ (f :: e.words).drop (j + 2)) (yw (yw (xm (gw_var rfl hw4) xn (wz rfl) c3) (yO (zw ?ox yP) (by simp)) (by simp; omega)) (xm (gw_var rfl hw4) (X8 rfl) xn c5) (by simp; omega)) (yi (ws:=[f] ++ (["mod", "me", "me"] : List Str)) (yw (xm (gw_var rfl hw4) xn X9 c2) (yO (zw xt (zw xt (zw xt yP))) (by simp)) (by simp)) Yb)) (by simp)) (by simp)) fun p4 rs4 H5 s5 hp4 pr4=>?_
    case ox=>exact fun H' s' Q' k'=>⟨_,rfl,_,rfl,_,_,rfl,rfl,⟨by decide,by decide⟩,_,_,rfl,rfl,(show (0 : Int) < 16 by decide),p3,_,_,_,rfl,rfl,SqL.of (s' _ _ hp3),eow,k' H' (Same.refl _)⟩
    have hw5:=s5 _ _ hw4
    refine zeP (X6 (X5 rfl hp4 pr4) (Ya (yi (ws:=[f] ++ (["mod", "me", "add", "1", "2"] : List Str)) (yw (xm (gw_var rfl hw5) xn X9 c2) (yO (zw xt (zw xt (zw xt (zw xt (zw xt yP))))) (by simp)) (by simp)) (yi (ws:=[f] ++ (["less", "1", "2", "3"] : List Str)) (yw (xm (gw_var rfl hw5) xn X9 c2) (yO (zw xt (zw xt (zw xt (zw xt yP)))) (by simp)) (by simp)) (yi (ws:=[f] ++ ([""] : List Str)) (yw (xm (gw_var rfl hw5) xn X9 c2) (yO (zw xt yP) (by simp)) (by simp)) Yb))) (by simp)) (by simp)) fun p5 rs5 H6 s6 hp5 pr5=>?_
    have sE:=s1.trans (s2.trans (s3.trans (s4.trans (s5.trans s6))))
    have l5 : rs5.length = 16:=pr5.len
    obtain ⟨v,ev,hv⟩:=zdJ (xs:=rs5) (d:=cell % (rs5.length : Int)) (Int.emod_nonneg _ (by omega)) (Int.emod_lt_of_pos _ (by omega))
    obtain ⟨q,ws,rfl,hws,hq⟩:=pr5.mem hv
    have sp : Spoil f ws:=by
      have a1:=sp1 hf hd
      have a2:=sp2 hf hd
      have a3:=sp3 hf hd
      have a4:=sp4 hf hd
      have a5:=sp5 hf hd
      have a6:=sp6 hf hd
      have a7:=spN hf hd Uk Z2 j (j + 1)
      have a8:=sp8 hf hd
      have a9:=sp9 hf hd
      have a10:=zrc hf hd
      have a11:=zo2 hf hd
      have a12:=spN hf hd onw (um owd) j (j + 2)
      have a13:=zrb hf hd
      have a14:=zra hf hd
      have a15:=zq9 hf hd
      have a16:=zq8 hf hd
      simp only [List.mem_append,List.mem_cons,List.not_mem_nil,or_false] at hws
      rcases hws with (((h | h | h | h | h | h) | h | h | h | h | h) | h | h) | h | h | h <;> rw [h] <;> assumption
    obtain ⟨bd,jo⟩:=Wv sp
    refine ⟨rfl,_,rfl,_,rfl,_,rfl,p5,_,rfl,.inl (SqL.of hp5),_,_,rfl,rfl,(by rw [l5]; show (0 : Int) < 16; decide),p5,_,_,_,rfl,rfl,SqL.of hp5,ev,_,q,ws,rfl,rfl,SqL.of hq,jo,?_⟩
    exact k _ _ bd sE
end
end K04

namespace K04
open PySem L2
theorem sqSame {K : PySem.W.Frag} {H H' : Hp} {b : Addr} {xs : List V} (h : SqL K H b xs) (s : Same H H') : SqL K H' b xs:=by
  rcases h with (h | ⟨o,h⟩) | h
  · exact .inl (.inl (s _ _ h))
  · exact .inl (.inr ⟨o,s _ _ h⟩)
  · exact .inr h
def Vd (rows : List Str) (v : V) : Prop:=(∃ i : Nat,i < 4∧(∀ j < i,zP rows j ≠ none)∧zP rows i = none∧v = .int i)∨((∀ j < 4,zP rows j ≠ none)∧4 < rows.length∧v = .int 4) ∨
  (∃ e1 e2 e3 e4,zP rows 0 = some e1∧zP rows 1 = some e2∧zP rows 2 = some e3∧zP rows 3 = some e4∧rows.length ≤ 4∧GoodE e1 e2 e3 e4∧v = .non)
theorem zjv {K : PySem.W.Frag} {H : Hp} {Q : VK} {E : XK} {x : Str} {rows : List Str} {v : V} (t : TextOk x rows) (h : Vd rows v) (k : ∀ H',Same H H'→Q v H') : zdt K [.str x] H Q E:=by
  refine .inl ⟨x,rows,rfl,t,fun i hi hj hn=>?_,fun ha h4=>?_,fun e1 e2 e3 e4 h1 h2 h3 h4 hl=>?_⟩
  · rcases h with ⟨i',hi',hj',hn',rfl⟩ | ⟨ha',_⟩ | ⟨f1,f2,f3,f4,g1,g2,g3,g4,_⟩
    · have : i = i':=by
        rcases Nat.lt_trichotomy i i' with z | z | z
        · exact absurd hn (hj' i z)
        · exact z
        · exact absurd hn' (hj i' z)
      subst this
      exact k
    · exact absurd hn (ha' i hi)
    · match i,hi,hn with
      | 0,_,hn=>rw [g1] at hn; cases hn
      | 1,_,hn=>rw [g2] at hn; cases hn
      | 2,_,hn=>rw [g3] at hn; cases hn
      | 3,_,hn=>rw [g4] at hn; cases hn
  · rcases h with ⟨i',hi',hj',hn',rfl⟩ | ⟨_,_,rfl⟩ | ⟨f1,f2,f3,f4,_,_,_,_,hl,_⟩
    · exact absurd hn' (ha i' hi')
    · exact k
    · omega
  · rcases h with ⟨i',hi',hj',hn',rfl⟩ | ⟨_,hl',_⟩ | ⟨f1,f2,f3,f4,g1,g2,g3,g4,_,hg,rfl⟩
    · match i',hi',hn' with
      | 0,_,hn=>rw [h1] at hn; cases hn
      | 1,_,hn=>rw [h2] at hn; cases hn
      | 2,_,hn=>rw [h3] at hn; cases hn
      | 3,_,hn=>rw [h4] at hn; cases hn
    · omega
    · rw [g1] at h1
      rw [g2] at h2
      rw [g3] at h3
      rw [g4] at h4
      cases h1
      cases h2
      cases h3
      cases h4
      exact ⟨hg,k⟩
theorem wJ {rows rows' : List Str} {j : Nat} (h : rows'[j]? = rows[j]?) : zP rows' j = zP rows j:=by
  unfold zP
  rw [h]
theorem xa {rows : List Str} {j : Nat} {f y : Str} (hf : rowWs[j]? = some f) (hy : rows[j]? = some y) (hb : Zj f y = none) : zP rows j = none:=by
  unfold zP
  rw [hf,hy]
  exact hb
theorem Yt {rows : List Str} {j : Nat} (h : rows[j]? = none) : zP rows j = none:=by
  unfold zP
  rw [h]
  cases rowWs[j]? <;> rfl
theorem WJ {rows rows' : List Str} {t : Nat} (h4 : t < 4) (ha : ∀ j < 4,zP rows j ≠ none) (hs : ∀ j < t,rows'[j]? = rows[j]?) (hn : zP rows' t = none) : Vd rows' (.int t) :=
  .inl ⟨t,h4,fun j hj=>by rw [wJ (hs j hj)]; exact ha j (by omega),hn,rfl⟩
theorem uh {f : Str} {e : Ex} (hf : f ∈ rowWs) (h : Rdb e) : Bad f "" := by
  have:=(Wv (zo2 hf h)).1
  rw [Z7] at this
  exact this
theorem YJ {f : Str} {e : Ex} (hf : f ∈ rowWs) (h : Rdb e) : Row "reckon" := by
  have:=(Wv (sp6 (f := "reckon") (by simp) h)).1.1
  rw [Z7] at this
  exact this
theorem WN {f : Str} {e : Ex} (hf : f ∈ rowWs) (h : Rdb e) : TextOk "" [""]:=by
  have:=vL (rows:=[("" : Str)]) (by simp) (fun r hr=>by rw [List.mem_singleton.mp hr]; exact (uh hf h).1) (by simp)
  rw [show Txt.join "\n" [("" : Str)] = "" by decide +kernel] at this
  exact this
theorem zay : ("\n" : Str).cps.toList = [10]:=by decide +kernel
theorem XX {us : List Str} (hu : us ≠ []) : Txt.join "\n" us ++ "\n" = Txt.join "\n" (us ++ [("" : Str)]):=by
  apply wR
  rw [zeG,zay,xz]
  have e0 : ∀ ws,Txt.join ⟨#[10]⟩ ws = Str.join ⟨#[10]⟩ ws:=fun ws=>StrLaws.glued_eq_join _ _
  rw [e0,e0,xb,xb,List.map_append,Yf (by simpa using hu) (by simp)]
  rfl
theorem uT {f g : Str} {e : Ex} (hg : g ∈ rowWs) (h : Rdb e) (ne : g ≠ f) : Zj f (xr g e) = none:=by
  unfold Zj
  rw [wZ hg h]
  exact if_neg ne
def zrI (σ : St) (H0 : Hp) (te : TE) (Px : Str→Prop) : Prop:=∀ H,Same H0 H→∀ Q : VK,(∀ x H',Px x→Same H H'→Q (.str x) H')→te σ H Q
def zqF (σ : St) (H0 : Hp) (te : TE) (Pw : List Str→Prop) : Prop:=∀ H,Same H0 H→∀ Q : VK,(∀ p ws H',Pw ws→Same H H'→H p = none→H' p = some (.lst (ws.map V.str))→Q (.ref p) H')→te σ H Q
def GvV (σ : St) (H0 : Hp) (te : TE) (v : V) : Prop:=∀ H,Same H0 H→∀ Q : VK,(∀ H',Same H H'→Q v H')→te σ H Q
def GvT (σ : St) (H0 : Hp) (tt : TT) (c : Bool) : Prop:=∀ H,Same H0 H→∀ Q : Bool→Hp→Prop,(∀ H',Same H H'→Q c H')→tt σ H Q
section
variable {σ : St} {H0 : Hp} {ta tb te tx : TE} {tt tu : TT} {us vs ws rows : List Str} {x : Str} {i : Nat} {u v : V} {K : PySem.W.Frag} {c d : Bool}
theorem ZC (h : GvW σ H0 te rows) (j : JoinOk "\n" rows = true) : GvX σ H0 (tBM K "str" (UR K) (tC (.str "\n")) (xv te YZ)) (Txt.join "\n" rows):=fun H s Q k =>
  ⟨rfl,h H s _ fun p H1 s1 hp=>⟨_,p,rows,rfl,rfl,SqL.of hp,j,k H1 s1⟩⟩
theorem zew {y : Str} (ha : GvX σ H0 ta x) (hb : GvX σ H0 tb y) (hz : x.length + y.length ≤ sizeLine) : GvX σ H0 (tOp (fun x y H Q=>∃ i j,x = V.str i∧y = V.str j∧i.length + j.length ≤ sizeLine∧Q (V.str (i ++ j)) H) ta tb) (x ++ y):=fun H s Q k =>
  ha H s _ fun H1 s1=>hb H1 (s.trans s1) _ fun H2 s2=>⟨_,_,rfl,rfl,hz,k H2 (s1.trans s2)⟩
theorem VB {p : Addr} {j : Nat} (hs : σ[i]? = some (some (.ref p))) (hp : H0 p = some (.lst (ws.map V.str))) (hj : ws[j]? = some x) : GvX σ H0 (tOp (zo6 K) (WO i) (tC (.int (j : Int)))) x:=fun H s Q k =>
  ⟨_,hs,p,_,_,_,rfl,rfl,SqL.of (s _ _ hp),zW (by rw [List.getElem?_map,hj]; rfl),k H (Same.refl H)⟩
theorem zar {Px : Str→Prop} (ha : GvW σ H0 ta us) (hx : zrI σ H0 tx Px) (hb : GvW σ H0 tb vs) (hz : us.length + 1 + vs.length ≤ 1000) : zqF σ H0 (tOp zdD (tOp zdD ta (zaK (xv tx YZ))) tb) (fun ws=>∃ y,Px y∧ws = us ++ [y] ++ vs):=fun H s Q k =>
  ha H s _ fun p H1 s1 hp=>hx H1 (s.trans s1) _ fun y H2 py s2=>⟨by show 1 ≤ sizeLine; decide,fun q hq=>by
    have n1:=Same.new (o:=HO.lst [V.str y]) hq
    refine ⟨p,q,_,_,rfl,rfl,n1 _ _ (s2 _ _ hp),upd_same,by rw [List.length_map]; exact Nat.le_trans (show us.length + 1 ≤ 1000 by omega) (by decide),fun r hr=>?_⟩
    have n2:=Same.new (o:=HO.lst (us.map V.str ++ [V.str y])) hr
    refine hb _ (s.trans (s1.trans (s2.trans (n1.trans n2)))) _ fun q2 H3 s3 hq2=>⟨r,q2,_,_,rfl,rfl,s3 _ _ upd_same,hq2,by rw [List.length_append,List.length_map,List.length_map]; exact Nat.le_trans (show us.length + 1 + vs.length ≤ 1000 by omega) (by decide),fun r2 hr2=>?_⟩
    have n3:=s1.trans (s2.trans (n1.trans (n2.trans s3)))
    exact k r2 _ _ ⟨y,py,rfl⟩ (n3.trans (Same.new hr2)) (n3.free hr2) (by rw [upd_same,List.map_append,List.map_append]; rfl)⟩
theorem zi2 {Pw : List Str→Prop} {D : Ends} {rest : TS} {H : Hp} (h : zqF σ H te Pw) (k : ∀ p ws H2,Pw ws→Same H H2→H p = none→H2 p = some (.lst (ws.map V.str))→rest D (σ.set i (some (.ref p))) H2) : zaJ (WS te (vz i)) rest D σ H:=h H (Same.refl H) _ k
theorem zex : GvV σ H0 (tC v) v:=fun H _ Q k=>k H (Same.refl H)
theorem Z9 (hs : σ[i]? = some (some v)) : GvV σ H0 (WO i) v:=fun H _ Q k=>⟨_,hs,k H (Same.refl H)⟩
theorem VC (h : GvX σ H0 te x) (t : TextOk x rows) (hv : Vd rows v) : GvV σ H0 (uy (zdt K) [] E0 (xv te YZ)) v:=fun H s Q k=>h H s _ fun H1 s1=>zjv t hv fun H2 s2=>k H2 (s1.trans s2)
theorem gv_lrj (h : GvW σ H0 te rows) (ne : rows ≠ []) (hr : ∀ r ∈ rows,Row r) (hl : rows.length ≤ 12) (hv : Vd rows v) : GvV σ H0 (uy (zdt K) [] E0 (xv (tBM K "str" (UR K) (tC (.str "\n")) (xv te YZ)) YZ)) v:=VC (ZC h (YX hr hl)) (vL ne hr hl) hv
theorem ub (ha : GvV σ H0 ta v) (hb : GvV σ H0 tb v) (hs : zi6 v v = true) : GvT σ H0 (UE (tOp rNe ta tb)) false:=fun H s Q k=>ha H s _ fun H1 s1=>hb H1 (s.trans s1) _ fun H2 s2=>⟨hs,_,rfl,by simpa using k H2 (s1.trans s2)⟩
theorem VD (ha : GvT σ H0 tt false) (hb : GvT σ H0 tu false) : GvT σ H0 (tOr tt tu) false:=fun H s Q k=>ha H s _ fun H1 s1=>iteN rfl (hb H1 (s.trans s1) _ fun H2 s2=>k H2 (s1.trans s2))
theorem UG {D : Ends} {rest t : TS} {H : Hp} (h : GvT σ H tt false) (k : ∀ H2,Same H H2→rest D σ H2) : zaJ (zeO tt t WP) rest D σ H:=h H (Same.refl H) _ fun H2 s2=>iteN rfl (k H2 s2)
theorem VX {D : Ends} {t : TS} {H : Hp} (h : GvT σ H tt false) (k : ∀ H2,Same H H2→D.nx σ H2) : zeO tt t WP D σ H:=h H (Same.refl H) _ fun H2 s2=>iteN rfl (k H2 s2)
end
section
variable {P : Program} {w : World} {K : PySem.W.Frag} {mg : Str→Option Value} {base : Heap} {a : Ad}
def V5 (K : PySem.W.Frag) : Sp:=fun vs H Q _=>∃ (l : Addr) (ns : List Int) (k : Int),vs = [.ref l,.int k]∧SqL K H l (ns.map V.int)∧0 ≤ k∧∀ i : Int,Q (.int i) H
theorem zai (T : Txt w K mg a) : FnOk P w K mg base CX0 1 a.f__law_cell_at a.d__law_cell_at ["_law_script", "_law_k"] (V5 K):=by
  refine T.F__law_cell_at.ok wV (fun vs H Q E h=>?_) (fun cdv A outer s H vs Q E hr h=>?_)
  · obtain ⟨l,ns,k,rfl,_⟩:=h
    rfl
  · obtain ⟨l,ns,k,rfl,hl,k0,q⟩:=h
    refine yh (zd (zx (zn uV (zj 1) (zq zE (by rfl) T.n_len xl (zh (zj 0) za)) (zD _))
        (zf (zk (zm zu (zj 0) (zj 1) (fun _ _=>rfl))))
        zo)
      (zf (zk zb))) ?_
    refine ⟨_,rfl,_,rfl,l,_,rfl,.inl hl,_,_,rfl,rfl,_,rfl,?_⟩
    rw [List.length_map]
    refine Vw (fun z=>?_) (fun z=>?_)
    · have z : k < ns.length:=of_decide_eq_true z
      obtain ⟨n,rfl⟩ : ∃ n : Nat,k = n:=⟨k.toNat,by omega⟩
      have hn : n < ns.length:=by omega
      refine ⟨_,rfl,_,rfl,l,_,_,V.int ns[n],rfl,rfl,hl,zW (by simp [hn]),?_⟩
      exact q _
    · exact q 0
def spLaw (K : PySem.W.Frag) : Sp:=fun vs H Q _=>∃ (a : Addr) (ns : List Int),vs = [.ref a]∧SqL K H a (ns.map V.int)∧ns.length ≤ 63∧∀ H',Q (.bl true) H'
theorem sp_law_of {K : PySem.W.Frag} {H : Hp} {a : Addr} {ns : List Int} (hl : ns.length ≤ 63) (hO : zeM H) (hS : SqL K H a (ns.map V.int)) : spLaw K [.ref a] H (fun v _=>v = .bl true) fun _ _ _=>False:=⟨a,ns,rfl,hS,hl,fun _=>rfl⟩
theorem ok_law (T : Txt w K mg a) : FnOk P w K mg base CX0 26 a.f_law a.d_law ["_law_script"] (spLaw K):=by
  have c__law_cell_at : Callee P w K mg base "_law_cell_at" a.f__law_cell_at a.d__law_cell_at ["_law_script", "_law_k"] 1 (V5 K):=⟨zai T,T.g__law_cell_at,T.F__law_cell_at.kp,T.b__law_cell_at⟩
  have c__law_four : Callee P w K mg base "_law_four" a.f__law_four a.d__law_four ["_law_state"] 8 V3:=⟨zag T,T.g__law_four,T.F__law_four.kp,T.b__law_four⟩
  have c__law_program : Callee P w K mg base "_law_program" a.f__law_program a.d__law_program ["_law_four_here"] 24 (uC a):=⟨Yz T,T.g__law_program,T.F__law_program.kp,T.b__law_program⟩
  have c_program_text : Callee P w K mg base "program_text" a.f_program_text a.d_program_text ["program"] 10 (VZ a):=⟨zac T,T.g_program_text,T.F_program_text.kp,T.b_program_text⟩
  have c__law_spoiled : Callee P w K mg base "_law_spoiled" a.f__law_spoiled a.d__law_spoiled ["_law_row_here", "_law_cell"] 1 Y6:=⟨W8 T,T.g__law_spoiled,T.F__law_spoiled.kp,T.b__law_spoiled⟩
  have c__law_row : Callee P w K mg base "_law_row" a.f__law_row a.d__law_row ["_law_text"] 25 (zdt K):=⟨zjp T,T.g__law_row,T.F__law_row.kp,T.b__law_row⟩
  refine T.F_law.ok sc_law (fun vs H Q E h=>?_) (fun cdv A outer s H vs Q E hr h=>?_)
  · obtain ⟨x,ns,rfl,_⟩:=h
    rfl
  · obtain ⟨sc,ns,rfl,hS,hlen,k⟩:=h
    refine yh (zd (zr (i:=1) sc_law.nd rfl (Or.inl rfl) (zO PySem.F.plainAttrs_str PySem.F.slot_str_split PySem.F.type_str_split wL (zt c_program_text (hr.mono (by omega)) (zF (zt c__law_program (hr.mono (by omega)) (zF (zt c__law_four (hr.mono (by omega)) (zg (zp (zF (zt c__law_cell_at (hr.mono (by omega)) (zh (zj 0) (zl zb za))) za)) za)) za)) za)) (zl ze za)))
      (zd (zx (zn zab (zt c__law_row (hr.mono (by omega)) (zF (zO PySem.F.plainAttrs_str PySem.F.slot_str_join PySem.F.type_str_join yA ze (zh (zj 1) za)) za)) yl (zD _))
        (zf (zk yz))
        zo)
      (zd (xL PassesOwn.never rfl (Zl rfl T.n_range (zl zb (zF (zq (Wo rfl) (by rfl) T.n_max zeI (zl zb (zF (zq (Zf rfl) (by rfl) T.n_min Uv (zl zb (zF (zq zE (by rfl) T.n_len xl (zh (zj 0) za)) za))) za))) za))) (zY (i:=2) sc_law.nd rfl (Or.inl rfl))
        (zd (zr (i:=3) sc_law.nd rfl (Or.inl rfl) (zi xB (zt c__law_cell_at (hr.mono (by omega)) (zh (zj 0) (zh (zj 2) za))) (zi vD zb (zj 2))))
        (zd (zr (i:=4) sc_law.nd rfl (Or.inl rfl) (zi xI (zj 3) zb))
        (zd (zr (i:=5) sc_law.nd rfl (Or.inl rfl) (zi zH (zi zH (zv zK (zj 1) zA (zy (zj 4))) (zp (zF (zt c__law_spoiled (hr.mono (by omega)) (zg (zm zu (zj 1) (zj 4) (fun _ _=>rfl)) (zL (zi xQ (zj 3) zb) za))) za))) (zv zK (zj 1) (zy (zi xB (zj 4) zb)) zA)))
        (zd (zx (zn vc (zt c__law_row (hr.mono (by omega)) (zF (zO PySem.F.plainAttrs_str PySem.F.slot_str_join PySem.F.type_str_join yA ze (zh (zj 5) za)) za)) (zj 4) (zD _))
          (zf (zk yz))
          zo)
        (wc (zx (zn uV (zj 4) zb (zD _))
          (zd (wF ze (wG (zj 5) zb wH))
          (zf (zx (zn vc (zt c__law_row (hr.mono (by omega)) (zF (zO PySem.F.plainAttrs_str PySem.F.slot_str_join PySem.F.type_str_join yA ze (zh (zj 5) za)) za)) (zj 4) (zD _))
            (zf (zk yz))
            zo)))
          zo)
        (zf (zx (zaI (xC (zn vc (zt c__law_row (hr.mono (by omega)) (zF (zO PySem.F.plainAttrs_str PySem.F.slot_str_join PySem.F.type_str_join yA ze (zg (zv zK (zj 1) zA (zy (zj 4))) za)) za)) (zj 4) (zD _)) (xK (zn vc (zt c__law_row (hr.mono (by omega)) (zF (zO PySem.F.plainAttrs_str PySem.F.slot_str_join PySem.F.type_str_join yA ze (zL (zi zH (zi zH (zv zK (zj 1) zA (zy (zj 4))) (zp (zl ze za))) (zv zK (zj 1) (zy (zj 4)) zA)) za)) za)) (zj 4) (zD _)))))
          (zf (zk yz))
          zo))))))))
      (zd (zx (zaI (xC (zn vc (zt c__law_row (hr.mono (by omega)) (zL (zi Yy (zO PySem.F.plainAttrs_str PySem.F.slot_str_join PySem.F.type_str_join yA ze (zh (zj 1) za)) ze) za)) zb (zD _)) (xC (zn vc (zt c__law_row (hr.mono (by omega)) (zF (zO PySem.F.plainAttrs_str PySem.F.slot_str_join PySem.F.type_str_join yA ze (zL (zi zH (zj 1) (zj 1)) za)) za)) zb (zD _)) (xK (zn vc (zt c__law_row (hr.mono (by omega)) (zl ze za)) zb (zD _))))))
        (zf (zk yz))
        zo)
      (zd (zx (zaI (xC (zn vc (zt c__law_row (hr.mono (by omega)) (zF (zO PySem.F.plainAttrs_str PySem.F.slot_str_join PySem.F.type_str_join yA ze (zg (zp (zg (zm zu (zj 1) zb (fun _ _=>rfl)) (zg (zm zu (zj 1) zb (fun _ _=>rfl)) (zg (zm zu (zj 1) zb (fun _ _=>rfl)) (zg (zm zu (zj 1) zb (fun _ _=>rfl)) za))))) za)) za)) zb (zD _)) (xK (zn vc (zt c__law_row (hr.mono (by omega)) (zF (zO PySem.F.plainAttrs_str PySem.F.slot_str_join PySem.F.type_str_join yA ze (zg (zv zK (zj 1) (zy zb) zA) za)) za)) zb (zD _)))))
        (zf (zk yz))
        zo)
      (zd (xL PassesOwn.never rfl (ut (zp (zl yl (zl zb (zl yz (zh (zj 1) (VU (yS (zl ze za)) za))))))) (zY (i:=6) sc_law.nd rfl (Or.inl rfl))
        (zf (zx (zn vc (zt c__law_row (hr.mono (by omega)) (zh (zj 6) za)) zb (zD _))
          (zf (zk yz))
          zo)))
      (zf (zk (yo XB (zt c__law_row (hr.mono (by omega)) (zF (zO PySem.F.plainAttrs_str PySem.F.slot_str_join PySem.F.type_str_join yA ze (zh (zj 1) za)) za)) yl (zD _)))))))))) ?_
    refine ⟨_,rfl,sc,ns,0,rfl,hS,by decide,fun c=>⟨by show 1 ≤ sizeLine; decide,fun l hl=>?_⟩⟩
    have s1:=Same.new (o:=HO.lst [V.int c]) hl
    refine ⟨l,rfl,⟨_,upd_same,.inl ⟨c,rfl⟩⟩,fun q v1 v2 v3 v4 e1 e2 e3 e4 H2 hq0 hq t1 t2 t3 t4 _ x2=>?_⟩
    have s2 : Same H H2:=fun b o e=>x2 b o (s1 b o e) (ne_of_none e hl)
    refine ⟨q,v1,v2,v3,v4,e1,e2,e3,e4,rfl,hq,⟨t1,t2,t3,t4⟩,fun r H3 hP s3=>?_⟩
    obtain ⟨pp,pdx,r1,r2,r3,r4,hre,hpp,hF⟩:=id hP
    have hG:=hF.good
    obtain ⟨d1,d2,d3,d4⟩:=hG.rd
    refine ⟨r,e1,e2,e3,e4,rfl,hP,fun H4 s4=>?_⟩
    have hsp : Txt.split (Zs e1 e2 e3 e4) "\n" = rowsOf e1 e2 e3 e4:=Yw d1 d2 d3 d4
    have hpl:=WZ d1 d2 d3 d4
    have hpt:=wl (Zs e1 e2 e3 e4) "\n"
    have e2' : sizeLine = 16777216:=rfl
    refine ⟨rfl,_,_,rfl,rfl,(by decide +kernel),(by omega),(by rw [hsp]; show 4 ≤ sizeLine; decide),(by omega),fun pr hpr=>?_⟩
    rw [hsp]
    have s5 : Same H _:=(s2.trans (s3.trans s4)).trans (Same.new (o:=HO.lst ((rowsOf e1 e2 e3 e4).map V.str)) hpr)
    have w0 : ("start" : Str) ∈ rowWs:=by simp
    have w1 : ("send" : Str) ∈ rowWs:=by simp
    have w2 : ("when" : Str) ∈ rowWs:=by simp
    have w3 : ("reckon" : Str) ∈ rowWs:=by simp
    have a0 : zP (rowsOf e1 e2 e3 e4) 0 = some e1:=ZT w0 d1
    have a1 : zP (rowsOf e1 e2 e3 e4) 1 = some e2:=ZT w1 d2
    have a2 : zP (rowsOf e1 e2 e3 e4) 2 = some e3:=ZT w2 d3
    have a3 : zP (rowsOf e1 e2 e3 e4) 3 = some e4:=ZT w3 d4
    have hR : ∀ r ∈ rowsOf e1 e2 e3 e4,Row r:=fun r hr=>by
      simp only [rowsOf,List.mem_cons,List.not_mem_nil,or_false] at hr
      rcases hr with rfl | rfl | rfl | rfl
      · exact wI w0 d1
      · exact wI w1 d2
      · exact wI w2 d3
      · exact wI w3 d4
    have lR : (rowsOf e1 e2 e3 e4).length = 4:=rfl
    have i0 : (rowsOf e1 e2 e3 e4)[0]? = some (xr "start" e1):=rfl
    have i1 : (rowsOf e1 e2 e3 e4)[1]? = some (xr "send" e2):=rfl
    have i2 : (rowsOf e1 e2 e3 e4)[2]? = some (xr "when" e3):=rfl
    have i3 : (rowsOf e1 e2 e3 e4)[3]? = some (xr "reckon" e4):=rfl
    have hT : ∀ t : Nat,t < 4→∃ f e,rowWs[t]? = some f∧f ∈ rowWs∧Rdb e∧(rowsOf e1 e2 e3 e4)[t]? = some (xr f e):=fun t ht=>by
      match t,ht with
      | 0,_=>exact ⟨_,_,rfl,w0,d1,rfl⟩
      | 1,_=>exact ⟨_,_,rfl,w1,d2,rfl⟩
      | 2,_=>exact ⟨_,_,rfl,w2,d3,rfl⟩
      | 3,_=>exact ⟨_,_,rfl,w3,d4,rfl⟩
    have hall : ∀ j < 4,zP (rowsOf e1 e2 e3 e4) j ≠ none:=fun j hj=>by
      match j,hj with
      | 0,_=>rw [a0]; simp
      | 1,_=>rw [a1]; simp
      | 2,_=>rw [a2]; simp
      | 3,_=>rw [a3]; simp
    have nil0:=WN w0 d1
    have rnil : Row "" := (uh w0 d1).1
    have rreck:=YJ w0 d1
    have b0 : Zj "start" "" = none:=(uh w0 d1).2
    have oo1 : Zj "send" (xr "when" e3) = none:=uT w2 d3 (by decide +kernel)
    have oo2 : Zj "start" (xr "send" e2) = none:=uT w1 d2 (by decide +kernel)
    generalize hRe : rowsOf e1 e2 e3 e4 = R at *
    have neR : R ≠ []:=fun z=>by rw [z] at lR; cases lR
    have vdR : Vd R .non:=.inr (.inr ⟨e1,e2,e3,e4,a0,a1,a2,a3,by omega,hG,rfl⟩)
    generalize hH5 : upd H4 pr (HO.lst (R.map V.str)) = H5 at *
    have hrows : H5 pr = some (.lst (R.map V.str)):=by rw [← hH5]; exact upd_same
    have hS5:=sqSame hS s5
    have z1 : ∀ {n},n ≤ 100→n ≤ sizeLine:=fun h=>by omega
    refine gv_lrj (gw_var rfl hrows) neR hR (by omega) vdR _ (Same.refl _) _ fun H6 s6=>⟨rfl,_,rfl,iteN rfl ?_⟩
    have hS6:=sqSame hS5 s6
    have hr6:=s6 _ _ hrows
    refine ⟨_,rfl,sc,_,rfl,.inl hS6,40,_,rfl,2,_,rfl,1,_,rfl,⟨by decide,by decide,?_,?_⟩,?_⟩
    · rw [List.length_map]
      repeat' split
      all_goals omega
    · rw [List.length_map]
      repeat' split
      all_goals omega
    refine Wa (lo:=1) (fun i σ H'=>∃ (o2 o3 o4 o5 o6 : Option V),σ = [some (.ref sc),some (.ref pr),o2,o3,o4,o5,o6]∧Same H6 H') ?_ ?_ ?_
    · exact ⟨none,none,none,none,none,rfl,Same.refl H6⟩
    · rintro i σ H7 hi ⟨o2,o3,o4,o5,o6,rfl,s7⟩
      refine ⟨_,rfl,_,rfl,sc,ns,_,rfl,sqSame hS6 s7,by omega,fun c'=>?_⟩
      refine ⟨_,rfl,13,_,rfl,rfl,.inl ⟨by decide,by decide⟩,_,_,rfl,rfl,_,rfl,_,_,rfl,rfl,(show (0 : Int) < 4 by decide),?_⟩
      generalize hcell : c' + 13 * (1 + (i : Int)) = cell
      have ha0:=Int.emod_nonneg cell (show (4 : Int) ≠ 0 by decide)
      have ha1:=Int.emod_lt_of_pos cell (show (0 : Int) < 4 by decide)
      obtain ⟨t,ht⟩ : ∃ t : Nat,cell % 4 = t:=⟨(cell % 4).toNat,by omega⟩
      have t4 : t < 4:=by omega
      obtain ⟨f,e,hft,hfm,hd,hRt⟩:=hT t t4
      have hr7:=s7 _ _ hr6
      have le : (R.take t).length = t:=by rw [List.length_take]; omega
      have c1 : vA (R.map V.str) none (some ((t : Nat) : Int)) = (R.take t).map V.str:=by rw [cut_to,List.map_take]
      have c2 : vA (R.map V.str) (some ((t : Nat) : Int)) none = (R.drop t).map V.str:=by rw [xT,List.map_drop]
      have c3 : vA (R.map V.str) (some (((t : Nat) : Int) + 1)) none = (R.drop (t + 1)).map V.str:=by rw [show (((t : Nat) : Int) + 1) = ((t + 1 : Nat) : Int) by omega,xT,List.map_drop]
      refine zi2 (zar (us:=R.take t) (vs:=R.drop (t + 1)) (Px:=Bad f) (xm (gw_var rfl hr7) xn (wz (k:=(t : Int)) (by rw [← ht]; rfl)) c1) ?sp (xm (gw_var rfl hr7) (X8 (k:=(t : Int)) (by rw [← ht]; rfl)) xn c3) (by rw [List.length_drop]; omega)) fun p5 ws H8 hws s8 hp0 hp5=>?_
      case sp=>exact fun H' s' Q' k'=>⟨_,rfl,_,rfl,pr,_,_,V.str (xr f e),rfl,rfl,SqL.of (s' _ _ hr7),(by rw [ht]; exact zW (by rw [List.getElem?_map,hRt]; rfl)),_,rfl,_,_,rfl,rfl,⟨by decide,by decide⟩,f,e,_,rfl,hfm,hd,fun y H2 hy s2=>k' y H2 hy s2⟩
      obtain ⟨y,hy,rfl⟩:=hws
      have es : R.take t ++ [y] ++ R.drop (t + 1) = R.set t y:=by rw [List.set_eq_take_append_cons_drop,if_pos (by omega)]; simp
      rw [es] at hp5
      have hRy : ∀ r ∈ R.set t y,Row r:=fun r hr=>(List.mem_or_eq_of_mem_set hr).elim (hR r) fun h=>by rw [h]; exact hy.1
      have v1 : Vd (R.set t y) (.int t):=WJ t4 hall (fun j hj=>List.getElem?_set_ne (by omega)) (xa hft (List.getElem?_set_self (by omega)) hy.2)
      have ne1 : R.set t y ≠ []:=fun z=>by have:=congrArg List.length z; rw [List.length_set,lR] at this; cases this
      refine UG (ub (gv_lrj (gw_var rfl hp5) ne1 hRy (by rw [List.length_set]; omega) v1) (Z9 (v:=V.int t) (by rw [← ht]; rfl)) rfl) fun H9 s9=>?_
      have hp9:=s9 _ _ hp5
      have s79 : Same H7 H9:=s8.trans s9
      refine ⟨fun σ' H'=>σ' = [some (.ref sc),some (.ref pr),some (.int (1 + (i : Int))),some (.int cell),some (.int t),some (.ref p5),o6]∧Same H7 H',?_,?_⟩
      · refine ⟨_,rfl,_,_,rfl,rfl,_,rfl,Vw (fun z=>?_) (fun z=>?_)⟩
        · have z : cell % 4 < 3:=of_decide_eq_true z
          have ix3 : ixN ((R.set t y).map V.str).length 3 = some 3:=by rw [List.length_map,List.length_set,lR]; rfl
          refine ⟨_,rfl,p5,_,3,3,rfl,rfl,hp9,ix3,?_⟩
          have em : ((R.set t y).map V.str).set 3 (V.str "reckon") = ((R.set t y).set 3 "reckon").map V.str:=List.map_set.symm
          rw [em]
          have sW : Same H7 (upd H9 p5 (.lst (((R.set t y).set 3 "reckon").map V.str))):=Same.updF s79 hp0
          have hRy2 : ∀ r ∈ (R.set t y).set 3 "reckon",Row r:=fun r hr=>(List.mem_or_eq_of_mem_set hr).elim (hRy r) fun h=>by rw [h]; exact rreck
          have v2 : Vd ((R.set t y).set 3 "reckon") (.int t):=WJ t4 hall (fun j hj=>by rw [List.getElem?_set_ne (by omega)]; exact List.getElem?_set_ne (by omega)) (xa hft (by rw [List.getElem?_set_ne (by omega)]; exact List.getElem?_set_self (by omega)) hy.2)
          have ne2 : (R.set t y).set 3 "reckon" ≠ []:=fun z=>by have:=congrArg List.length z; rw [List.length_set,List.length_set,lR] at this; cases this
          refine VX (ub (gv_lrj (gw_var rfl upd_same) ne2 hRy2 (by rw [List.length_set,List.length_set]; omega) v2) (Z9 (v:=V.int t) (by rw [← ht]; rfl)) rfl) fun H10 s10=>?_
          exact ⟨by rw [← ht,← hcell]; rfl,sW.trans s10⟩
        · exact ⟨by rw [← ht,← hcell]; rfl,s79⟩
      · rintro σ' H10 ⟨rfl,s10⟩
        have hr10:=s10 _ _ hr7
        have hnil : ∀ r ∈ R.take t ++ [("" : Str)] ++ R.drop t,Row r:=fun r hr=>by
          rcases List.mem_append.mp hr with hr | hr
          · rcases List.mem_append.mp hr with hr | hr
            · exact hR r (List.mem_of_mem_take hr)
            · rw [List.mem_singleton.mp hr]; exact rnil
          · exact hR r (List.mem_of_mem_drop hr)
        have v4 : Vd (R.take t ++ [("" : Str)] ++ R.drop t) (.int t):=WJ t4 hall (fun j hj=>by rw [List.append_assoc,List.getElem?_append_left (by omega),List.getElem?_take_of_lt hj]) (xa hft (by rw [List.append_assoc,List.getElem?_append_right (by omega),le]; simp) (uh hfm hd).2)
        refine VX (VD (ub ?lr (Z9 (v:=V.int t) rfl) rfl) (ub (gv_lrj (yw (yw (xm (ws:=R.take t) (gw_var rfl hr10) xn (wz (k:=(t : Int)) rfl) c1) (yO (ws:=[("" : Str)]) (zw xt yP) (by simp)) (by simp; omega)) (xm (ws:=R.drop t) (gw_var rfl hr10) (wz (k:=(t : Int)) rfl) xn c2) (by simp; omega)) (by simp) hnil (by simp; omega) v4) (Z9 (v:=V.int t) rfl) rfl)) fun H11 s11=>?_
        case lr =>
          by_cases t0 : t = 0
          · subst t0
            refine VC (rows:=[("" : Str)]) (ZC (xm (ws:=[]) (gw_var rfl hr10) xn (wz (k:=((0 : Nat) : Int)) rfl) c1) (by decide +kernel)) ?_ (.inl ⟨0,by decide,fun j hj=>by omega,xa (j:=0) rfl rfl b0,rfl⟩)
            rw [show Txt.join "\n" ([] : List Str) = "" by decide +kernel]
            exact nil0
          · refine gv_lrj (xm (ws:=R.take t) (gw_var rfl hr10) xn (wz (k:=(t : Int)) rfl) c1) (fun z=>?_) (fun r hr=>hR r (List.mem_of_mem_take hr)) (by omega) (WJ t4 hall (fun j hj=>List.getElem?_take_of_lt hj) (Yt (List.getElem?_eq_none (by omega))))
            rw [z] at le
            exact t0 le.symm
        exact ⟨_,_,_,_,_,rfl,s7.trans (s10.trans s11)⟩
    · rintro σ H7 ⟨o2,o3,o4,o5,o6,rfl,s7⟩
      have hr7:=s7 _ _ hr6
      refine UG (VD (ub (VC (rows:=R ++ [("" : Str)]) (zew (ZC (gw_var rfl hr7) (YX hR (by omega))) xt ?z1) ?t1 ?v1) zex rfl) (VD (ub (gv_lrj (yw (gw_var rfl hr7) (gw_var rfl hr7) (by omega)) (by simp [neR]) (fun r hr=>(List.mem_append.mp hr).elim (hR r) (hR r)) (by rw [List.length_append]; omega) ?v2) zex rfl) (ub (VC xt nil0 ?v3) zex rfl))) fun H8 s8=>?_
      case z1=>have:=(vL neR hR (by omega)).len; exact Nat.le_trans (Nat.add_le_add this (show ("\n" : Str).length ≤ 1 by decide +kernel)) (by decide)
      case t1 =>
        rw [XX neR]
        exact vL (by simp) (fun r hr=>(List.mem_append.mp hr).elim (hR r) fun h=>by rw [List.mem_singleton.mp h]; exact rnil) (by rw [List.length_append,lR]; decide)
      case v1=>exact .inr (.inl ⟨fun j hj=>by rw [wJ (List.getElem?_append_left (by omega))]; exact hall j hj,by rw [List.length_append,lR]; decide,rfl⟩)
      case v2=>exact .inr (.inl ⟨fun j hj=>by rw [wJ (List.getElem?_append_left (by omega))]; exact hall j hj,by rw [List.length_append,lR]; decide,rfl⟩)
      case v3=>exact .inl ⟨0,by decide,fun j hj=>by omega,xa (j:=0) rfl rfl b0,rfl⟩
      have hr8:=s8 _ _ hr7
      refine UG (VD (ub (gv_lrj (yO (zw (VB (j:=0) rfl hr8 i0) (zw (VB (j:=2) rfl hr8 i2) (zw (VB (j:=1) rfl hr8 i1) (zw (VB (j:=3) rfl hr8 i3) yP)))) (by simp)) (by simp) ?r4 (by simp) ?v4) zex rfl) (ub (gv_lrj (xm (ws:=R.drop 1) (gw_var rfl hr8) X9 xn ?c5) ?n5 (fun r hr=>hR r (List.mem_of_mem_drop hr)) (by rw [List.length_drop]; omega) ?v5) zex rfl)) fun H9 s9=>?_
      case r4 =>
        intro r hr
        apply hR
        simp only [List.mem_cons,List.not_mem_nil,or_false] at hr
        rcases hr with rfl | rfl | rfl | rfl
        · exact List.mem_of_getElem? i0
        · exact List.mem_of_getElem? i2
        · exact List.mem_of_getElem? i1
        · exact List.mem_of_getElem? i3
      case v4 =>
        refine .inl ⟨1,by decide,fun j hj=>?_,xa (j:=1) rfl rfl oo1,rfl⟩
        obtain rfl : j = 0:=by omega
        rw [wJ (rows:=R) i0.symm,a0]
        simp
      case c5=>rw [show (1 : Int) = ((1 : Nat) : Int) from rfl,xT,List.map_drop]
      case n5=>intro z; have:=congrArg List.length z; rw [List.length_drop,lR] at this; cases this
      case v5=>exact .inl ⟨0,by decide,fun j hj=>by omega,xa (j:=0) rfl (by rw [List.getElem?_drop]; exact i1) oo2,rfl⟩
      have hr9:=s9 _ _ hr8
      refine ⟨_,rfl,(by show 1 ≤ sizeLine; decide),fun pt hpt=>?_⟩
      have sA:=Same.new (o:=HO.tup [V.str "start"]) hpt
      refine ⟨(by show 5 ≤ sizeLine; decide),fun po hpo=>?_⟩
      have sB:=sA.trans (Same.new (o:=HO.lst [V.non,V.int 5,V.bl true,V.ref pr,V.ref pt]) hpo)
      refine ⟨po,rfl,⟨_,SqL.of upd_same⟩,?_⟩
      generalize hHA : upd (upd H9 pt (HO.tup [V.str "start"])) po (HO.lst [V.non,V.int 5,V.bl true,V.ref pr,V.ref pt]) = HA at *
      have hpoA : HA po = some (.lst [V.non,V.int 5,V.bl true,V.ref pr,V.ref pt]):=by rw [← hHA]; exact upd_same
      have hprA:=sB _ _ hr9
      have hptA : HA pt = some (.tup [V.str "start"]):=by rw [← hHA]; exact (Same.new (o:=HO.lst [V.non,V.int 5,V.bl true,V.ref pr,V.ref pt]) hpo) _ _ upd_same
      refine Yd (xs:=[V.non,V.int 5,V.bl true,V.ref pr,V.ref pt]) (fun i σ H'=>∃ (o2 o3 o4 o5 o6 : Option V),σ = [some (.ref sc),some (.ref pr),o2,o3,o4,o5,o6]∧Same HA H') ?_ ?_ ?_ ?_
      · exact ⟨_,_,_,_,_,rfl,Same.refl HA⟩
      · rintro i σ H' hi ⟨o2,o3,o4,o5,o6,rfl,s'⟩
        exact SqL.of (s' _ _ hpoA)
      · rintro i x σ H' hx ⟨o2,o3,o4,o5,o6,rfl,s'⟩
        have ty : ∃ t,TyOf K H' x t∧PySem.W.kitOne K t (.type "str") = some false:=by
          have hm:=List.mem_of_getElem? hx
          simp only [List.mem_cons,List.not_mem_nil,or_false] at hm
          rcases hm with rfl | rfl | rfl | rfl | rfl
          · exact ⟨_,.non,T.k_tNoneType_tstr⟩
          · exact ⟨_,.int _,T.k_tint_tstr⟩
          · exact ⟨_,.bl _,T.k_tbool_tstr⟩
          · exact ⟨_,.lst (s' _ _ hprA),T.k_tlist_tstr⟩
          · exact ⟨_,.tup (s' _ _ hptA),T.k_ttuple_tstr⟩
        obtain ⟨t,ht,hk⟩:=ty
        refine ⟨_,rfl,.inr ⟨x,t,rfl,ht,hk,fun H2 s2=>⟨rfl,_,rfl,iteN rfl ?_⟩⟩⟩
        exact ⟨_,_,_,_,_,rfl,s'.trans s2⟩
      · rintro σ HB ⟨o2,o3,o4,o5,o6,rfl,s'⟩
        refine gv_lrj (gw_var rfl (s' _ _ hprA)) neR hR (by omega) vdR _ (Same.refl _) _ fun HC sC=>⟨rfl,?_⟩
        exact k _
end
end K04

noncomputable section
namespace Hd
open PySem PySem.W PySem.Calls PyProof.Rows
variable (P : Params)
def tt {α : Type} (_ : α) : Bool:=true
def S (i : Nat) : Stmt:=PySem.Challenge.pw_beatless_k10_texts_that_are_none.main.body.getD i (.Pass ⟨0,0,0,0⟩)
def en (P : Params) (x : Str) (t : Tok) (v : Value) : DictEntry:=⟨PyData.keyHash P x,.str x t,v⟩
def fd (n q : Str) (s : Stmt) (g : Addr) (cl : List (Str × Addr)) (d k c m : Value) (an : Option Addr) (cd ct : Value) (b : Addr) : FuncData :=
  ⟨n,q,L2.defArgs s,.stmts (L2.defBody s),L2.defScope s,g,cl,d,k,c,m,an,cd,ct,b⟩
abbrev an : Option Value:=(Option.some (.ref 6))
def env : Env:={ scope:=PySem.Challenge.pw_beatless_k10_texts_that_are_none.main.scope,locals:=mainNs,globals:=mainNs,cells:=[],code:=(.ref 13),frame:=some 14 }
abbrev bE : List Stmt:=behindTheImports PySem.Challenge.pw_beatless_k10_texts_that_are_none
abbrev cE : Code:=.body bE env
abbrev qE : Pos:=(Pos.mk 0 0 0 0)
abbrev B : List Frame:=[topFrame qE]
def s0 (w : World) (os : OsState) : Shared:=⟨boot_heap w.params,⟨[]⟩,boot_drawn,boot_toks,os⟩
def tO (l : Array Value) : Obj:=Obj.mk (.type "tuple") .none (Data.seq l 0) #[]
def vO (l : Array Value) : Obj:=Obj.mk .none .none (Data.fields l) #[]
def cO (n q : Str) (a b c : Tok) (l m : Int) (k : Int) (r1 r2 r3 r4 r5 : Addr) (x : Int) (y : Tok) : Obj:=Obj.mk (.type "code") .none (Data.fields #[(.str n a),(.str q b),(.str "/claim/cut.py" c),(.int l 0),(.int m 0),(.int 0 0),(.int 0 0),(.int k 0),(.ref r1),(.bool true),(.int 181 0),(.ref r2),.none,(.ref r3),(.ref r4),(.ref r5),(.int x 0),(.int l 0),(.str "/claim/cut.py" y)]) #[]
def uO (n q : Str) (s : Stmt) (m : Str) (t : Tok) (r : Addr) : Obj:=Obj.mk (.type "function") .none (Data.func (fd n q s 3 [] .none .none .none (.str m t) .none (.ref r) .none 0)) #[]
def gO (n q : Str) (s : Stmt) : Obj:=Obj.mk .none .none (Data.func (fd n q s 0 [] .none .none .none .none .none .none .none 0)) #[]
def o0 (P : Params):=tO #[]
def o1 (P : Params):=vO #[]
def o2 (P : Params):=Obj.mk (.type "code") .none (Data.fields #[(.str "<module>" 182),(.str "<module>" 183),(.str "/claim/cut.py" 184),(.int 1 0),(.int 0 0),(.int 0 0),(.int 0 0),(.int 0 0),(.ref 11),(.bool false),(.int 181 0),(.ref 12),.none,.none,.none,.none,(.int 185 0),(.int 1 0),(.str "/claim/cut.py" 186)]) #[]
def o3 (P : Params):=Obj.mk (.type "frame") .none Data.plain #[(Option.some (.ref 13)),(Option.some (.ref 3)),(Option.some (.ref 3)),.none,(Option.some (.str "__main__" 164)),.none,(Option.some (.ref 0))]
def t14:=BT.node (boot_o_0 P) (BT.node (boot_o_1 P) (BT.node (boot_o_3 P) (BT.node (boot_o_7 P) .nil .nil) (BT.node (o0 P) .nil .nil)) (BT.node (boot_o_5 P) (BT.node (boot_o_9 P) .nil .nil) (BT.node (o2 P) .nil .nil))) (BT.node (boot_o_2 P) (BT.node (boot_o_4 P) (BT.node (boot_o_8 P) .nil .nil) (BT.node (o1 P) .nil .nil)) (BT.node (boot_o_6 P) (BT.node (boot_o_10 P) .nil .nil) (BT.node (o3 P) .nil .nil)))
def sa (w : World) (os : OsState) : SharedT:=⟨(t14 w.params),15,(Life.mk [] [] [] 0 [] [] false #[] [] 0 false false false 0 [2000,10,10] false 0 true [] [] 0 false),⟨[]⟩,(Drawn.mk 0 0 0 0),187,os⟩
def La (w : World) (os : OsState) : Option (Shared × Thread):=topGo treeTable PySem.Challenge.pw_beatless_k10_texts_that_are_none w 11 an 12 (s0 w os) (topStub PySem.Challenge.pw_beatless_k10_texts_that_are_none)
def Ra (w : World) (os : OsState) : Option (Shared × Thread):=some ((sa w os).abs,⟨denote treeTable cE,cE,(Pos.mk 0 0 0 0),B⟩)
theorem qa : tt (Hd.La,Hd.Ra) = true:=by k_qdec
theorem ra : ∀ w,Fast.tw11367235000924431832 w = Fast.tw15912052731592885781 w:=fun w=>by kernel_rfl
theorem ea (w : World) (os : OsState) : Hd.La w os = Hd.Ra w os :=
  (congrFun (congrFun Fast.te11367235000924431832 w) os).trans ((congrFun (ra w) os).trans (congrFun (congrFun Fast.te15912052731592885781 w) os).symm)
def sb0 (w : World) (os : OsState) : SharedT:=⟨(t14 w.params),15,(Life.mk [] [] [] 0 [] [] false #[] [] 0 false false false 0 [2000,10,10] false 0 true [] [] 0 false),⟨[]⟩,(Drawn.mk 0 0 0 0),187,os⟩
def Lb (w : World) (os : OsState) : Option (Flow × SharedT × Code × Pos):=segRunT treeTable PySem.Challenge.pw_beatless_k10_texts_that_are_none w 11 an 1 1 (sa w os) (blockOf bE env cE (Pos.mk 0 0 0 0) B)
def Rb (w : World) (os : OsState) : Option (Flow × SharedT × Code × Pos):=some (.next,sb0 w os,cE,(Pos.mk 0 0 0 0))
theorem qb : tt (Hd.Lb,Hd.Rb) = true:=by k_qdec
theorem rb : ∀ w,Fast.tw16430817790641568776 w = Fast.tw15716482383535360375 w:=fun w=>by kernel_rfl
theorem eb (w : World) (os : OsState) : Hd.Lb w os = Hd.Rb w os :=
  (congrFun (congrFun Fast.te16430817790641568776 w) os).trans ((congrFun (rb w) os).trans (congrFun (congrFun Fast.te15716482383535360375 w) os).symm)
def zo1 : List Stmt:=[S 0,S 1,S 2,S 3]
def o4:=Obj.mk (.type "dict") .none (Data.dict #[en P "__name__" 165 (.str "beatless.errors" 194),en P "__doc__" 166 .none,en P "__package__" 167 .none,en P "__loader__" 168 (.builtin "__main__.__loader__#opaque"),en P "__spec__" 169 .none,en P "__annotations__" 170 (.ref 6),en P "__builtins__" 171 (.ref 4),en P "__file__" 173 (.str "/claim/cut.py" 172),en P "__cached__" 174 .none,en P "_wall" 193 (.ref 21),en P "BeatlessError" 213 (.ref 31),en P "NoWeb" 229 (.ref 44)] 12) #[]
def o5 (P : Params):=vO #[(.int 1 0),(.int 0 0),(.ref 20),(.int 5 0),(.int 0 0),(.ref 27),(.int 7 0),(.int 0 0),(.ref 40)]
def o6 (P : Params):=tO #[]
def o7 (P : Params):=vO #[]
def o8 (P : Params):=tO #[(.str "k" 190)]
def o9 (P : Params):=tO #[]
def o10 (P : Params):=gO "_wall" "_wall" (S 0)
def o11 (P : Params):=cO "_wall" "_wall" 187 188 189 1 1 3 15 16 17 18 19 191 192
def o12 (P : Params):=uO "_wall" "_wall" (S 0) "__main__" 164 20
def o13 (P : Params):=tO #[(.type "ValueError")]
def o14 (P : Params):=Obj.mk (.type "builtin_function_or_method") .none (Data.fields #[(.builtin "type.__prepare__"),(.type "type")]) #[]
def o15:=Obj.mk (.type "dict") .none (Data.dict #[en P "__module__" 203 (.str "beatless.errors" 194),en P "__qualname__" 205 (.str "BeatlessError" 204),en P "__firstlineno__" 207 (.int 5 206),en P "__static_attributes__" 208 (.ref 29)] 4) #[]
def o16 (P : Params):=tO #[]
def o17 (P : Params):=vO #[]
def o18 (P : Params):=Obj.mk (.type "code") .none (Data.fields #[(.str "BeatlessError" 198),(.str "BeatlessError" 199),(.str "/claim/cut.py" 200),(.int 5 0),(.int 0 0),(.int 0 0),(.int 0 0),(.int 0 0),(.ref 25),(.bool false),(.int 181 0),(.ref 26),.none,.none,.none,.none,(.int 201 0),(.int 5 0),(.str "/claim/cut.py" 202)]) #[]
def o19 (P : Params):=Obj.mk (.type "frame") .none Data.plain #[(Option.some (.ref 27)),(Option.some (.ref 3)),(Option.some (.ref 24)),.none,(Option.some (.str "beatless.errors" 194)),.none,(Option.some (.ref 0))]
def o20 (P : Params):=tO #[]
def o21:=Obj.mk (.type "dict") .none (Data.dict #[en P "__module__" 203 (.str "beatless.errors" 194),en P "__firstlineno__" 207 (.int 5 206),en P "__static_attributes__" 208 (.ref 29),en P "__weakref__" 210 (.ref 32),en P "__doc__" 211 .none] 3) #[]
def o22 (P : Params):=Obj.mk (.type "type") .none (Data.cls (ClassData.mk "BeatlessError" [(.type "ValueError")] [(.ref 31),(.type "ValueError"),(.type "Exception"),(.type "BaseException"),(.type "object")] 30 "BeatlessError" true [] [(.ref 44)] false .none false)) #[(Option.some (.ref 22)),.none,(Option.some (.str "BeatlessError" 196)),(Option.some (.str "BeatlessError" 204)),(Option.some (.builtin "ValueError.__new__")),(Option.some (.bool true))]
def o23 (P : Params):=Obj.mk (.type "getset_descriptor") .none (Data.fields #[(.str "__weakref__" 209),(.ref 31),(.builtin "ExceptionGroup.__weakref__"),.none]) #[]
def o24 (P : Params):=Obj.mk (.type "super") .none (Data.fields #[(.ref 31),(.ref 31),(.ref 31)]) #[]
def o25 (P : Params):=Obj.mk (.type "builtin_function_or_method") .none (Data.fields #[(.builtin "object.__init_subclass__"),(.ref 31)]) #[]
def o26 (P : Params):=tO #[(.ref 31)]
def o27 (P : Params):=Obj.mk (.type "builtin_function_or_method") .none (Data.fields #[(.builtin "type.__prepare__"),(.type "type")]) #[]
def o28:=Obj.mk (.type "dict") .none (Data.dict #[en P "__module__" 221 (.str "beatless.errors" 194),en P "__qualname__" 223 (.str "NoWeb" 222),en P "__firstlineno__" 225 (.int 7 224),en P "__static_attributes__" 226 (.ref 42)] 4) #[]
def o29 (P : Params):=tO #[]
def o30 (P : Params):=vO #[]
def o31 (P : Params):=Obj.mk (.type "code") .none (Data.fields #[(.str "NoWeb" 216),(.str "NoWeb" 217),(.str "/claim/cut.py" 218),(.int 7 0),(.int 0 0),(.int 0 0),(.int 0 0),(.int 0 0),(.ref 38),(.bool false),(.int 181 0),(.ref 39),.none,.none,.none,.none,(.int 219 0),(.int 7 0),(.str "/claim/cut.py" 220)]) #[]
def o32 (P : Params):=Obj.mk (.type "frame") .none Data.plain #[(Option.some (.ref 40)),(Option.some (.ref 3)),(Option.some (.ref 37)),.none,(Option.some (.str "beatless.errors" 194)),.none,(Option.some (.ref 0))]
def o33 (P : Params):=tO #[]
def o34:=Obj.mk (.type "dict") .none (Data.dict #[en P "__module__" 221 (.str "beatless.errors" 194),en P "__firstlineno__" 225 (.int 7 224),en P "__static_attributes__" 226 (.ref 42),en P "__doc__" 227 .none] 2) #[]
def o35 (P : Params):=Obj.mk (.type "type") .none (Data.cls (ClassData.mk "NoWeb" [(.ref 31)] [(.ref 44),(.ref 31),(.type "ValueError"),(.type "Exception"),(.type "BaseException"),(.type "object")] 43 "NoWeb" true [] [] false .none false)) #[(Option.some (.ref 35)),.none,(Option.some (.str "NoWeb" 214)),(Option.some (.str "NoWeb" 222)),(Option.some (.builtin "ValueError.__new__")),(Option.some (.bool true))]
def o36 (P : Params):=Obj.mk (.type "super") .none (Data.fields #[(.ref 44),(.ref 44),(.ref 44)]) #[]
def o37 (P : Params):=Obj.mk (.type "builtin_function_or_method") .none (Data.fields #[(.builtin "object.__init_subclass__"),(.ref 44)]) #[]
def t56:=BT.node (o37 P) .nil .nil
def t60:=BT.node (boot_o_2 P) (BT.node (boot_o_4 P) (BT.node (boot_o_8 P) (BT.node (o7 P) (BT.node (o23 P) .nil .nil) .nil) (BT.node (o15 P) (BT.node (o31 P) .nil .nil) .nil)) (BT.node (o5 P) (BT.node (o11 P) (BT.node (o27 P) .nil .nil) .nil) (BT.node (o19 P) (BT.node (o35 P) .nil .nil) .nil))) (BT.node (boot_o_6 P) (BT.node (boot_o_10 P) (BT.node (o9 P) (BT.node (o25 P) .nil .nil) .nil) (BT.node (o17 P) (BT.node (o33 P) .nil .nil) .nil)) (BT.node (o3 P) (BT.node (o13 P) (BT.node (o29 P) .nil .nil) .nil) (BT.node (o21 P) (t56 P) .nil)))
def t61:=BT.node (boot_o_0 P) (BT.node (boot_o_1 P) (BT.node (o4 P) (BT.node (boot_o_7 P) (BT.node (o6 P) (BT.node (o22 P) .nil .nil) .nil) (BT.node (o14 P) (BT.node (o30 P) .nil .nil) .nil)) (BT.node (o0 P) (BT.node (o10 P) (BT.node (o26 P) .nil .nil) .nil) (BT.node (o18 P) (BT.node (o34 P) .nil .nil) .nil))) (BT.node (boot_o_5 P) (BT.node (boot_o_9 P) (BT.node (o8 P) (BT.node (o24 P) .nil .nil) .nil) (BT.node (o16 P) (BT.node (o32 P) .nil .nil) .nil)) (BT.node (o2 P) (BT.node (o12 P) (BT.node (o28 P) .nil .nil) .nil) (BT.node (o20 P) (BT.node (o36 P) .nil .nil) .nil)))) (t60 P)
def sb1 (w : World) (os : OsState) : SharedT:=⟨(t61 w.params),47,(Life.mk [] [] [] 0 [] [] false #[] [] 0 false false false 0 [2000,10,10] false 0 true [] [] 0 false),⟨[]⟩,(Drawn.mk 0 0 0 0),230,os⟩
def L0 (w : World) (os : OsState) : Option (Flow × SharedT × Code × Pos):=segRunT treeTable PySem.Challenge.pw_beatless_k10_texts_that_are_none w 11 an 1 438 (sb0 w os) (piecesOf zo1 env cE (Pos.mk 0 0 0 0) B)
def R0 (w : World) (os : OsState) : Option (Flow × SharedT × Code × Pos):=some (.next,sb1 w os,cE,(Pos.mk 7 0 8 8))
theorem q0 : tt (Hd.L0,Hd.R0) = true:=by k_qdec
theorem r0 : ∀ w,Fast.tw4453942571644881324 w = Fast.tw13470614248104656481 w:=fun w=>by kernel_rfl
theorem e0 (w : World) (os : OsState) : Hd.L0 w os = Hd.R0 w os :=
  (congrFun (congrFun Fast.te4453942571644881324 w) os).trans ((congrFun (r0 w) os).trans (congrFun (congrFun Fast.te13470614248104656481 w) os).symm)
def zo0 : List Stmt:=[S 4,S 5,S 6]
def o38:=Obj.mk (.type "dict") .none (Data.dict #[en P "__name__" 165 (.str "beatless.exprs" 271),en P "__doc__" 166 .none,en P "__package__" 167 .none,en P "__loader__" 168 (.builtin "__main__.__loader__#opaque"),en P "__spec__" 169 .none,en P "__annotations__" 170 (.ref 6),en P "__builtins__" 171 (.ref 4),en P "__file__" 173 (.str "/claim/cut.py" 172),en P "__cached__" 174 .none,en P "_wall" 193 (.ref 21),en P "BeatlessError" 213 (.ref 31),en P "NoWeb" 229 (.ref 44),en P "NoProgram" 245 (.ref 56),en P "NoText" 270 (.ref 75)] 14) #[]
def o39 (P : Params):=vO #[(.int 1 0),(.int 0 0),(.ref 20),(.int 5 0),(.int 0 0),(.ref 27),(.int 7 0),(.int 0 0),(.ref 40),(.int 9 0),(.int 0 0),(.ref 52),(.int 11 0),(.int 0 0),(.ref 64)]
def o40 (P : Params):=Obj.mk (.type "type") .none (Data.cls (ClassData.mk "BeatlessError" [(.type "ValueError")] [(.ref 31),(.type "ValueError"),(.type "Exception"),(.type "BaseException"),(.type "object")] 30 "BeatlessError" true [] [(.ref 44),(.ref 56),(.ref 75)] false .none false)) #[(Option.some (.ref 22)),.none,(Option.some (.str "BeatlessError" 196)),(Option.some (.str "BeatlessError" 204)),(Option.some (.builtin "ValueError.__new__")),(Option.some (.bool true))]
def o41 (P : Params):=tO #[(.ref 31)]
def o42 (P : Params):=Obj.mk (.type "builtin_function_or_method") .none (Data.fields #[(.builtin "type.__prepare__"),(.type "type")]) #[]
def o43:=Obj.mk (.type "dict") .none (Data.dict #[en P "__module__" 237 (.str "beatless.errors" 194),en P "__qualname__" 239 (.str "NoProgram" 238),en P "__firstlineno__" 241 (.int 9 240),en P "__static_attributes__" 242 (.ref 54)] 4) #[]
def o44 (P : Params):=tO #[]
def o45 (P : Params):=vO #[]
def o46 (P : Params):=Obj.mk (.type "code") .none (Data.fields #[(.str "NoProgram" 232),(.str "NoProgram" 233),(.str "/claim/cut.py" 234),(.int 9 0),(.int 0 0),(.int 0 0),(.int 0 0),(.int 0 0),(.ref 50),(.bool false),(.int 181 0),(.ref 51),.none,.none,.none,.none,(.int 235 0),(.int 9 0),(.str "/claim/cut.py" 236)]) #[]
def o47 (P : Params):=Obj.mk (.type "frame") .none Data.plain #[(Option.some (.ref 52)),(Option.some (.ref 3)),(Option.some (.ref 49)),.none,(Option.some (.str "beatless.errors" 194)),.none,(Option.some (.ref 0))]
def o48 (P : Params):=tO #[]
def o49:=Obj.mk (.type "dict") .none (Data.dict #[en P "__module__" 237 (.str "beatless.errors" 194),en P "__firstlineno__" 241 (.int 9 240),en P "__static_attributes__" 242 (.ref 54),en P "__doc__" 243 .none] 2) #[]
def o50 (P : Params):=Obj.mk (.type "type") .none (Data.cls (ClassData.mk "NoProgram" [(.ref 31)] [(.ref 56),(.ref 31),(.type "ValueError"),(.type "Exception"),(.type "BaseException"),(.type "object")] 55 "NoProgram" true [] [] false .none false)) #[(Option.some (.ref 47)),.none,(Option.some (.str "NoProgram" 230)),(Option.some (.str "NoProgram" 238)),(Option.some (.builtin "ValueError.__new__")),(Option.some (.bool true))]
def o51 (P : Params):=Obj.mk (.type "super") .none (Data.fields #[(.ref 56),(.ref 56),(.ref 56)]) #[]
def o52 (P : Params):=Obj.mk (.type "builtin_function_or_method") .none (Data.fields #[(.builtin "object.__init_subclass__"),(.ref 56)]) #[]
def o53 (P : Params):=tO #[(.ref 31)]
def o54 (P : Params):=Obj.mk (.type "builtin_function_or_method") .none (Data.fields #[(.builtin "type.__prepare__"),(.type "type")]) #[]
def o55:=Obj.mk (.type "dict") .none (Data.dict #[en P "__module__" 253 (.str "beatless.errors" 194),en P "__qualname__" 255 (.str "NoText" 254),en P "__firstlineno__" 257 (.int 11 256),en P "__init__" 265 (.ref 72),en P "__static_attributes__" 267 (.ref 73)] 5) #[]
def o56 (P : Params):=tO #[]
def o57 (P : Params):=vO #[(.int 13 0),(.int 4 0),(.ref 71)]
def o58 (P : Params):=Obj.mk (.type "code") .none (Data.fields #[(.str "NoText" 248),(.str "NoText" 249),(.str "/claim/cut.py" 250),(.int 11 0),(.int 0 0),(.int 0 0),(.int 0 0),(.int 0 0),(.ref 62),(.bool false),(.int 181 0),(.ref 63),.none,.none,.none,.none,(.int 251 0),(.int 11 0),(.str "/claim/cut.py" 252)]) #[]
def o59 (P : Params):=Obj.mk (.type "frame") .none Data.plain #[(Option.some (.ref 64)),(Option.some (.ref 3)),(Option.some (.ref 61)),.none,(Option.some (.str "beatless.errors" 194)),.none,(Option.some (.ref 0))]
def o60 (P : Params):=tO #[]
def o61 (P : Params):=vO #[]
def o62 (P : Params):=tO #[(.str "self" 261),(.str "row" 262)]
def o63 (P : Params):=tO #[]
def o64 (P : Params):=gO "__init__" "NoText.__init__" (L2.inClass (S 5) 0)
def o65 (P : Params):=cO "__init__" "NoText.__init__" 258 259 260 13 2 3 66 67 68 69 70 263 264
def o66 (P : Params):=uO "__init__" "NoText.__init__" (L2.inClass (S 5) 0) "beatless.errors" 194 71
def o67 (P : Params):=tO #[(.str "row" 266)]
def o68:=Obj.mk (.type "dict") .none (Data.dict #[en P "__module__" 253 (.str "beatless.errors" 194),en P "__firstlineno__" 257 (.int 11 256),en P "__init__" 265 (.ref 72),en P "__static_attributes__" 267 (.ref 73),en P "__doc__" 268 .none] 2) #[]
def o69 (P : Params):=Obj.mk (.type "type") .none (Data.cls (ClassData.mk "NoText" [(.ref 31)] [(.ref 75),(.ref 31),(.type "ValueError"),(.type "Exception"),(.type "BaseException"),(.type "object")] 74 "NoText" true [] [] false .none false)) #[(Option.some (.ref 59)),.none,(Option.some (.str "NoText" 246)),(Option.some (.str "NoText" 254)),(Option.some (.builtin "ValueError.__new__")),(Option.some (.bool true))]
def o70 (P : Params):=Obj.mk (.type "super") .none (Data.fields #[(.ref 75),(.ref 75),(.ref 75)]) #[]
def o71 (P : Params):=Obj.mk (.type "builtin_function_or_method") .none (Data.fields #[(.builtin "object.__init_subclass__"),(.ref 75)]) #[]
def t66:=BT.node (o65 P) .nil .nil
def t75:=BT.node (o69 P) .nil .nil
def t85:=BT.node (o67 P) .nil .nil
def t90:=BT.node (o63 P) .nil .nil
def t94:=BT.node (o71 P) .nil .nil
def t99:=BT.node (boot_o_5 P) (BT.node (boot_o_9 P) (BT.node (o8 P) (BT.node (o24 P) (BT.node (o59 P) .nil .nil) .nil) (BT.node (o43 P) .nil .nil)) (BT.node (o16 P) (BT.node (o32 P) (t85 P) .nil) (BT.node (o51 P) .nil .nil))) (BT.node (o2 P) (BT.node (o12 P) (BT.node (o28 P) (t90 P) .nil) (BT.node (o47 P) .nil .nil)) (BT.node (o20 P) (BT.node (o36 P) (t94 P) .nil) (BT.node (o55 P) .nil .nil)))
def zoR:=BT.node (o66 P) .nil .nil
def zoQ:=BT.node (o62 P) .nil .nil
def zoP:=BT.node (o70 P) .nil .nil
def zoO:=BT.node (o68 P) .nil .nil
def zoN:=BT.node (o64 P) .nil .nil
def zq6:=BT.node (boot_o_6 P) (BT.node (boot_o_10 P) (BT.node (o9 P) (BT.node (o25 P) (BT.node (o60 P) .nil .nil) .nil) (BT.node (o44 P) .nil .nil)) (BT.node (o17 P) (BT.node (o33 P) (zoO P) .nil) (BT.node (o52 P) .nil .nil))) (BT.node (o3 P) (BT.node (o13 P) (BT.node (o29 P) (zoN P) .nil) (BT.node (o48 P) .nil .nil)) (BT.node (o21 P) (t56 P) (BT.node (o56 P) .nil .nil)))
def zq5:=BT.node (boot_o_2 P) (BT.node (boot_o_4 P) (BT.node (boot_o_8 P) (BT.node (o7 P) (BT.node (o23 P) (BT.node (o58 P) .nil .nil) .nil) (BT.node (o42 P) .nil .nil)) (BT.node (o15 P) (BT.node (o31 P) (zoR P) .nil) (BT.node (o50 P) .nil .nil))) (BT.node (o39 P) (BT.node (o11 P) (BT.node (o27 P) (zoQ P) .nil) (BT.node (o46 P) .nil .nil)) (BT.node (o19 P) (BT.node (o35 P) (zoP P) .nil) (BT.node (o54 P) .nil .nil)))) (zq6 P)
def zq4:=BT.node (boot_o_0 P) (BT.node (boot_o_1 P) (BT.node (o38 P) (BT.node (boot_o_7 P) (BT.node (o6 P) (BT.node (o40 P) (BT.node (o57 P) .nil .nil) .nil) (BT.node (o41 P) .nil .nil)) (BT.node (o14 P) (BT.node (o30 P) (t66 P) .nil) (BT.node (o49 P) .nil .nil))) (BT.node (o0 P) (BT.node (o10 P) (BT.node (o26 P) (BT.node (o61 P) .nil .nil) .nil) (BT.node (o45 P) .nil .nil)) (BT.node (o18 P) (BT.node (o34 P) (t75 P) .nil) (BT.node (o53 P) .nil .nil)))) (t99 P)) (zq5 P)
def sb2 (w : World) (os : OsState) : SharedT:=⟨(zq4 w.params),78,(Life.mk [] [] [] 0 [] [] false #[] [] 0 false false false 0 [2000,10,10] false 0 true [] [] 0 false),⟨[]⟩,(Drawn.mk 0 0 0 0),273,os⟩
def L1 (w : World) (os : OsState) : Option (Flow × SharedT × Code × Pos):=segRunT treeTable PySem.Challenge.pw_beatless_k10_texts_that_are_none w 11 an 1 468 (sb1 w os) (piecesOf zo0 env cE (Pos.mk 7 0 8 8) B)
def R1 (w : World) (os : OsState) : Option (Flow × SharedT × Code × Pos):=some (.next,sb2 w os,cE,(Pos.mk 15 0 15 8))
theorem q1 : tt (Hd.L1,Hd.R1) = true:=by k_qdec
theorem r1 : ∀ w,Fast.tw6387051279210280424 w = Fast.tw17943070361625844382 w:=fun w=>by kernel_rfl
theorem e1 (w : World) (os : OsState) : Hd.L1 w os = Hd.R1 w os :=
  (congrFun (congrFun Fast.te6387051279210280424 w) os).trans ((congrFun (r1 w) os).trans (congrFun (congrFun Fast.te17943070361625844382 w) os).symm)
def zoZ : List Stmt:=[S 7,S 8]
def o72:=Obj.mk (.type "dict") .none (Data.dict #[en P "__name__" 165 (.str "beatless.exprs" 271),en P "__doc__" 166 .none,en P "__package__" 167 .none,en P "__loader__" 168 (.builtin "__main__.__loader__#opaque"),en P "__spec__" 169 .none,en P "__annotations__" 170 (.ref 6),en P "__builtins__" 171 (.ref 4),en P "__file__" 173 (.str "/claim/cut.py" 172),en P "__cached__" 174 .none,en P "_wall" 193 (.ref 21),en P "BeatlessError" 213 (.ref 31),en P "NoWeb" 229 (.ref 44),en P "NoProgram" 245 (.ref 56),en P "NoText" 270 (.ref 75),en P "Expr" 292 (.ref 87),en P "Num" 339 (.ref 129)] 16) #[]
def o73 (P : Params):=vO #[(.int 1 0),(.int 0 0),(.ref 20),(.int 5 0),(.int 0 0),(.ref 27),(.int 7 0),(.int 0 0),(.ref 40),(.int 9 0),(.int 0 0),(.ref 52),(.int 11 0),(.int 0 0),(.ref 64),(.int 16 0),(.int 0 0),(.ref 83),(.int 18 0),(.int 0 0),(.ref 97)]
def o74 (P : Params):=tO #[]
def o75 (P : Params):=Obj.mk (.type "builtin_function_or_method") .none (Data.fields #[(.builtin "type.__prepare__"),(.type "type")]) #[]
def o76:=Obj.mk (.type "dict") .none (Data.dict #[en P "__module__" 280 (.str "beatless.exprs" 271),en P "__qualname__" 282 (.str "Expr" 281),en P "__firstlineno__" 284 (.int 16 283),en P "__static_attributes__" 285 (.ref 85)] 4) #[]
def o77 (P : Params):=tO #[]
def o78 (P : Params):=vO #[]
def o79 (P : Params):=Obj.mk (.type "code") .none (Data.fields #[(.str "Expr" 275),(.str "Expr" 276),(.str "/claim/cut.py" 277),(.int 16 0),(.int 0 0),(.int 0 0),(.int 0 0),(.int 0 0),(.ref 81),(.bool false),(.int 181 0),(.ref 82),.none,.none,.none,.none,(.int 278 0),(.int 16 0),(.str "/claim/cut.py" 279)]) #[]
def o80 (P : Params):=Obj.mk (.type "frame") .none Data.plain #[(Option.some (.ref 83)),(Option.some (.ref 3)),(Option.some (.ref 80)),.none,(Option.some (.str "beatless.exprs" 271)),.none,(Option.some (.ref 0))]
def o81 (P : Params):=tO #[]
def o82:=Obj.mk (.type "dict") .none (Data.dict #[en P "__module__" 280 (.str "beatless.exprs" 271),en P "__firstlineno__" 284 (.int 16 283),en P "__static_attributes__" 285 (.ref 85),en P "__dict__" 287 (.ref 88),en P "__weakref__" 289 (.ref 89),en P "__doc__" 290 .none] 4) #[]
def o83 (P : Params):=Obj.mk (.type "type") .none (Data.cls (ClassData.mk "Expr" [(.type "object")] [(.ref 87),(.type "object")] 86 "Expr" true [] [(.ref 129)] false .none false)) #[.none,.none,(Option.some (.str "Expr" 273)),(Option.some (.str "Expr" 281)),(Option.some (.builtin "object.__new__")),(Option.some (.bool true))]
def o84 (P : Params):=Obj.mk (.type "getset_descriptor") .none (Data.fields #[(.str "__dict__" 286),(.ref 87),(.builtin "function.__dict__"),(.builtin "function.__dict__#set")]) #[]
def o85 (P : Params):=Obj.mk (.type "getset_descriptor") .none (Data.fields #[(.str "__weakref__" 288),(.ref 87),(.builtin "ExceptionGroup.__weakref__"),.none]) #[]
def o86 (P : Params):=Obj.mk (.type "super") .none (Data.fields #[(.ref 87),(.ref 87),(.ref 87)]) #[]
def o87 (P : Params):=Obj.mk (.type "builtin_function_or_method") .none (Data.fields #[(.builtin "object.__init_subclass__"),(.ref 87)]) #[]
def o88 (P : Params):=tO #[(.ref 87)]
def o89 (P : Params):=Obj.mk (.type "builtin_function_or_method") .none (Data.fields #[(.builtin "type.__prepare__"),(.type "type")]) #[]
def o90:=Obj.mk (.type "dict") .none (Data.dict #[en P "__module__" 300 (.str "beatless.exprs" 271),en P "__qualname__" 302 (.str "Num" 301),en P "__firstlineno__" 304 (.int 18 303),en P "__init__" 312 (.ref 105),en P "reckon" 320 (.ref 112),en P "told" 327 (.ref 119),en P "words" 334 (.ref 126),en P "__static_attributes__" 336 (.ref 127)] 8) #[]
def o91 (P : Params):=tO #[]
def o92 (P : Params):=vO #[(.int 20 0),(.int 4 0),(.ref 104),(.int 23 0),(.int 4 0),(.ref 111),(.int 26 0),(.int 4 0),(.ref 118),(.int 29 0),(.int 4 0),(.ref 125)]
def o93 (P : Params):=Obj.mk (.type "code") .none (Data.fields #[(.str "Num" 295),(.str "Num" 296),(.str "/claim/cut.py" 297),(.int 18 0),(.int 0 0),(.int 0 0),(.int 0 0),(.int 0 0),(.ref 95),(.bool false),(.int 181 0),(.ref 96),.none,.none,.none,.none,(.int 298 0),(.int 18 0),(.str "/claim/cut.py" 299)]) #[]
def o94 (P : Params):=Obj.mk (.type "frame") .none Data.plain #[(Option.some (.ref 97)),(Option.some (.ref 3)),(Option.some (.ref 94)),.none,(Option.some (.str "beatless.exprs" 271)),.none,(Option.some (.ref 0))]
def o95 (P : Params):=tO #[]
def o96 (P : Params):=vO #[]
def o97 (P : Params):=tO #[(.str "self" 308),(.str "value" 309)]
def o98 (P : Params):=tO #[]
def o99 (P : Params):=gO "__init__" "Num.__init__" (L2.inClass (S 8) 0)
def Vl (P : Params):=cO "__init__" "Num.__init__" 305 306 307 20 2 3 99 100 101 102 103 310 311
def Vk (P : Params):=uO "__init__" "Num.__init__" (L2.inClass (S 8) 0) "beatless.exprs" 271 104
def Vj (P : Params):=tO #[]
def zal (P : Params):=vO #[]
def Vi (P : Params):=tO #[(.str "self" 316),(.str "worths" 317)]
def Vh (P : Params):=tO #[]
def zak (P : Params):=gO "reckon" "Num.reckon" (L2.inClass (S 8) 1)
def Vg (P : Params):=cO "reckon" "Num.reckon" 313 314 315 23 2 3 106 107 108 109 110 318 319
def Vf (P : Params):=uO "reckon" "Num.reckon" (L2.inClass (S 8) 1) "beatless.exprs" 271 111
def Ve (P : Params):=tO #[]
def zb3 (P : Params):=vO #[]
def Ui (P : Params):=tO #[(.str "self" 324)]
def Uh (P : Params):=tO #[]
def zb2 (P : Params):=gO "told" "Num.told" (L2.inClass (S 8) 2)
def Ug (P : Params):=cO "told" "Num.told" 321 322 323 26 1 3 113 114 115 116 117 325 326
def Uf (P : Params):=uO "told" "Num.told" (L2.inClass (S 8) 2) "beatless.exprs" 271 118
def Ue (P : Params):=tO #[]
def zb1 (P : Params):=vO #[]
def Ud (P : Params):=tO #[(.str "self" 331)]
def Uc (P : Params):=tO #[]
def zb0 (P : Params):=gO "words" "Num.words" (L2.inClass (S 8) 3)
def Ub (P : Params):=cO "words" "Num.words" 328 329 330 29 1 3 120 121 122 123 124 332 333
def Ua (P : Params):=uO "words" "Num.words" (L2.inClass (S 8) 3) "beatless.exprs" 271 125
def zbZ (P : Params):=tO #[(.str "value" 335)]
def zbY:=Obj.mk (.type "dict") .none (Data.dict #[en P "__module__" 300 (.str "beatless.exprs" 271),en P "__firstlineno__" 304 (.int 18 303),en P "__init__" 312 (.ref 105),en P "reckon" 320 (.ref 112),en P "told" 327 (.ref 119),en P "words" 334 (.ref 126),en P "__static_attributes__" 336 (.ref 127),en P "__doc__" 337 .none] 2) #[]
def zbX (P : Params):=Obj.mk (.type "type") .none (Data.cls (ClassData.mk "Num" [(.ref 87)] [(.ref 129),(.ref 87),(.type "object")] 128 "Num" true [] [] false .none false)) #[(Option.some (.ref 92)),.none,(Option.some (.str "Num" 293)),(Option.some (.str "Num" 301)),(Option.some (.builtin "object.__new__")),(Option.some (.bool true))]
def ziu (P : Params):=Obj.mk (.type "super") .none (Data.fields #[(.ref 129),(.ref 129),(.ref 129)]) #[]
def zit (P : Params):=Obj.mk (.type "builtin_function_or_method") .none (Data.fields #[(.builtin "object.__init_subclass__"),(.ref 129)]) #[]
def zoM:=BT.node (zbZ P) .nil .nil
def zoL:=BT.node (o57 P) (zoM P) .nil
def zoK:=BT.node (Vg P) .nil .nil
def zoJ:=BT.node (Uf P) .nil .nil
def zoI:=BT.node (zit P) .nil .nil
def zoH:=BT.node (o61 P) (zoI P) .nil
def zoG:=BT.node (Ui P) .nil .nil
def zoF:=BT.node (Uc P) .nil .nil
def zoE:=BT.node (zbX P) .nil .nil
def zoD:=BT.node (o59 P) (zoE P) .nil
def zoC:=BT.node (Ve P) .nil .nil
def zoB:=BT.node (zb1 P) .nil .nil
def zoA:=BT.node (zb2 P) .nil .nil
def zoz:=BT.node (Vh P) .nil .nil
def zoy:=BT.node (Ub P) .nil .nil
def zq3:=BT.node (boot_o_5 P) (BT.node (boot_o_9 P) (BT.node (o8 P) (BT.node (o24 P) (zoD P) (BT.node (o93 P) .nil .nil)) (BT.node (o43 P) (BT.node (o77 P) .nil .nil) (zoC P))) (BT.node (o16 P) (BT.node (o32 P) (t85 P) (BT.node (Vk P) .nil .nil)) (BT.node (o51 P) (BT.node (o85 P) .nil .nil) (zoB P)))) (BT.node (o2 P) (BT.node (o12 P) (BT.node (o28 P) (t90 P) (BT.node (o97 P) .nil .nil)) (BT.node (o47 P) (BT.node (o81 P) .nil .nil) (zoA P))) (BT.node (o20 P) (BT.node (o36 P) (t94 P) (zoz P)) (BT.node (o55 P) (BT.node (o89 P) .nil .nil) (zoy P))))
def zq2:=BT.node (boot_o_1 P) (BT.node (o72 P) (BT.node (boot_o_7 P) (BT.node (o6 P) (BT.node (o40 P) (zoL P) (BT.node (o91 P) .nil .nil)) (BT.node (o41 P) (BT.node (o75 P) .nil .nil) (zoK P))) (BT.node (o14 P) (BT.node (o30 P) (t66 P) (BT.node (o99 P) .nil .nil)) (BT.node (o49 P) (BT.node (o83 P) .nil .nil) (zoJ P)))) (BT.node (o0 P) (BT.node (o10 P) (BT.node (o26 P) (zoH P) (BT.node (o95 P) .nil .nil)) (BT.node (o45 P) (BT.node (o79 P) .nil .nil) (zoG P))) (BT.node (o18 P) (BT.node (o34 P) (t75 P) (BT.node (zal P) .nil .nil)) (BT.node (o53 P) (BT.node (o87 P) .nil .nil) (zoF P))))) (zq3 P)
def zox:=BT.node (zbY P) .nil .nil
def zow:=BT.node (o58 P) (zox P) .nil
def zov:=BT.node (Vf P) .nil .nil
def zou:=BT.node (Ue P) .nil .nil
def zot:=BT.node (Uh P) .nil .nil
def zos:=BT.node (Vi P) .nil .nil
def zor:=BT.node (zb0 P) .nil .nil
def zoq:=BT.node (ziu P) .nil .nil
def zop:=BT.node (o60 P) (zoq P) .nil
def zoo:=BT.node (zb3 P) .nil .nil
def zon:=BT.node (Ud P) .nil .nil
def zom:=BT.node (Ug P) .nil .nil
def zol:=BT.node (zak P) .nil .nil
def zok:=BT.node (Ua P) .nil .nil
def zq1:=BT.node (boot_o_6 P) (BT.node (boot_o_10 P) (BT.node (o9 P) (BT.node (o25 P) (zop P) (BT.node (o94 P) .nil .nil)) (BT.node (o44 P) (BT.node (o78 P) .nil .nil) (zoo P))) (BT.node (o17 P) (BT.node (o33 P) (zoO P) (BT.node (Vj P) .nil .nil)) (BT.node (o52 P) (BT.node (o86 P) .nil .nil) (zon P)))) (BT.node (o3 P) (BT.node (o13 P) (BT.node (o29 P) (zoN P) (BT.node (o98 P) .nil .nil)) (BT.node (o48 P) (BT.node (o82 P) .nil .nil) (zom P))) (BT.node (o21 P) (BT.node (o37 P) (BT.node (o74 P) .nil .nil) (zol P)) (BT.node (o56 P) (BT.node (o90 P) .nil .nil) (zok P))))
def zq0:=BT.node (boot_o_0 P) (zq2 P) (BT.node (boot_o_2 P) (BT.node (boot_o_4 P) (BT.node (boot_o_8 P) (BT.node (o7 P) (BT.node (o23 P) (zow P) (BT.node (o92 P) .nil .nil)) (BT.node (o42 P) (BT.node (o76 P) .nil .nil) (zov P))) (BT.node (o15 P) (BT.node (o31 P) (zoR P) (BT.node (Vl P) .nil .nil)) (BT.node (o50 P) (BT.node (o84 P) .nil .nil) (zou P)))) (BT.node (o73 P) (BT.node (o11 P) (BT.node (o27 P) (zoQ P) (BT.node (o96 P) .nil .nil)) (BT.node (o46 P) (BT.node (o80 P) .nil .nil) (zot P))) (BT.node (o19 P) (BT.node (o35 P) (zoP P) (zos P)) (BT.node (o54 P) (BT.node (o88 P) .nil .nil) (zor P))))) (zq1 P))
def sb3 (w : World) (os : OsState) : SharedT:=⟨(zq0 w.params),132,(Life.mk [] [] [] 0 [] [] false #[] [] 0 false false false 0 [2000,10,10] false 0 true [] [] 0 false),⟨[]⟩,(Drawn.mk 0 0 0 0),340,os⟩
def L2 (w : World) (os : OsState) : Option (Flow × SharedT × Code × Pos):=segRunT treeTable PySem.Challenge.pw_beatless_k10_texts_that_are_none w 11 an 1 530 (sb2 w os) (piecesOf zoZ env cE (Pos.mk 15 0 15 8) B)
def R2 (w : World) (os : OsState) : Option (Flow × SharedT × Code × Pos):=some (.next,sb3 w os,cE,(Pos.mk 18 0 30 32))
theorem q2 : tt (Hd.L2,Hd.R2) = true:=by k_qdec
theorem r2 : ∀ w,Fast.tw9171306275460833034 w = Fast.tw12913952840628719863 w:=fun w=>by kernel_rfl
theorem e2 (w : World) (os : OsState) : Hd.L2 w os = Hd.R2 w os :=
  (congrFun (congrFun Fast.te9171306275460833034 w) os).trans ((congrFun (r2 w) os).trans (congrFun (congrFun Fast.te12913952840628719863 w) os).symm)
def zoY : List Stmt:=[S 9]
def zrA:=Obj.mk (.type "dict") .none (Data.dict #[en P "__name__" 165 (.str "beatless.exprs" 271),en P "__doc__" 166 .none,en P "__package__" 167 .none,en P "__loader__" 168 (.builtin "__main__.__loader__#opaque"),en P "__spec__" 169 .none,en P "__annotations__" 170 (.ref 6),en P "__builtins__" 171 (.ref 4),en P "__file__" 173 (.str "/claim/cut.py" 172),en P "__cached__" 174 .none,en P "_wall" 193 (.ref 21),en P "BeatlessError" 213 (.ref 31),en P "NoWeb" 229 (.ref 44),en P "NoProgram" 245 (.ref 56),en P "NoText" 270 (.ref 75),en P "Expr" 292 (.ref 87),en P "Num" 339 (.ref 129),en P "Name" 386 (.ref 169)] 17) #[]
def zrz (P : Params):=vO #[(.int 1 0),(.int 0 0),(.ref 20),(.int 5 0),(.int 0 0),(.ref 27),(.int 7 0),(.int 0 0),(.ref 40),(.int 9 0),(.int 0 0),(.ref 52),(.int 11 0),(.int 0 0),(.ref 64),(.int 16 0),(.int 0 0),(.ref 83),(.int 18 0),(.int 0 0),(.ref 97),(.int 31 0),(.int 0 0),(.ref 137)]
def zry (P : Params):=Obj.mk (.type "type") .none (Data.cls (ClassData.mk "Expr" [(.type "object")] [(.ref 87),(.type "object")] 86 "Expr" true [] [(.ref 129),(.ref 169)] false .none false)) #[.none,.none,(Option.some (.str "Expr" 273)),(Option.some (.str "Expr" 281)),(Option.some (.builtin "object.__new__")),(Option.some (.bool true))]
def zbW (P : Params):=tO #[(.ref 87)]
def zis (P : Params):=Obj.mk (.type "builtin_function_or_method") .none (Data.fields #[(.builtin "type.__prepare__"),(.type "type")]) #[]
def zir:=Obj.mk (.type "dict") .none (Data.dict #[en P "__module__" 347 (.str "beatless.exprs" 271),en P "__qualname__" 349 (.str "Name" 348),en P "__firstlineno__" 351 (.int 31 350),en P "__init__" 359 (.ref 145),en P "reckon" 367 (.ref 152),en P "told" 374 (.ref 159),en P "words" 381 (.ref 166),en P "__static_attributes__" 383 (.ref 167)] 8) #[]
def ziq (P : Params):=tO #[]
def zio (P : Params):=vO #[(.int 33 0),(.int 4 0),(.ref 144),(.int 36 0),(.int 4 0),(.ref 151),(.int 39 0),(.int 4 0),(.ref 158),(.int 42 0),(.int 4 0),(.ref 165)]
def zin (P : Params):=Obj.mk (.type "code") .none (Data.fields #[(.str "Name" 342),(.str "Name" 343),(.str "/claim/cut.py" 344),(.int 31 0),(.int 0 0),(.int 0 0),(.int 0 0),(.int 0 0),(.ref 135),(.bool false),(.int 181 0),(.ref 136),.none,.none,.none,.none,(.int 345 0),(.int 31 0),(.str "/claim/cut.py" 346)]) #[]
def zim (P : Params):=Obj.mk (.type "frame") .none Data.plain #[(Option.some (.ref 137)),(Option.some (.ref 3)),(Option.some (.ref 134)),.none,(Option.some (.str "beatless.exprs" 271)),.none,(Option.some (.ref 0))]
def zbV (P : Params):=tO #[]
def zil (P : Params):=vO #[]
def zbU (P : Params):=tO #[(.str "self" 355),(.str "word" 356)]
def zbT (P : Params):=tO #[]
def zik (P : Params):=gO "__init__" "Name.__init__" (L2.inClass (S 9) 0)
def zbS (P : Params):=cO "__init__" "Name.__init__" 352 353 354 33 2 3 139 140 141 142 143 357 358
def zbR (P : Params):=uO "__init__" "Name.__init__" (L2.inClass (S 9) 0) "beatless.exprs" 271 144
def zbQ (P : Params):=tO #[]
def zij (P : Params):=vO #[]
def zbP (P : Params):=tO #[(.str "self" 363),(.str "worths" 364)]
def zbO (P : Params):=tO #[]
def zii (P : Params):=gO "reckon" "Name.reckon" (L2.inClass (S 9) 1)
def zbN (P : Params):=cO "reckon" "Name.reckon" 360 361 362 36 2 3 146 147 148 149 150 365 366
def zbM (P : Params):=uO "reckon" "Name.reckon" (L2.inClass (S 9) 1) "beatless.exprs" 271 151
def zbL (P : Params):=tO #[]
def zih (P : Params):=vO #[]
def zbK (P : Params):=tO #[(.str "self" 371)]
def zbJ (P : Params):=tO #[]
def zig (P : Params):=gO "told" "Name.told" (L2.inClass (S 9) 2)
def zbI (P : Params):=cO "told" "Name.told" 368 369 370 39 1 3 153 154 155 156 157 372 373
def zbH (P : Params):=uO "told" "Name.told" (L2.inClass (S 9) 2) "beatless.exprs" 271 158
def zbG (P : Params):=tO #[]
def zif (P : Params):=vO #[]
def zbF (P : Params):=tO #[(.str "self" 378)]
def zbE (P : Params):=tO #[]
def zie (P : Params):=gO "words" "Name.words" (L2.inClass (S 9) 3)
def zbD (P : Params):=cO "words" "Name.words" 375 376 377 42 1 3 160 161 162 163 164 379 380
def zbC (P : Params):=uO "words" "Name.words" (L2.inClass (S 9) 3) "beatless.exprs" 271 165
def zbB (P : Params):=tO #[(.str "word" 382)]
def zbA:=Obj.mk (.type "dict") .none (Data.dict #[en P "__module__" 347 (.str "beatless.exprs" 271),en P "__firstlineno__" 351 (.int 31 350),en P "__init__" 359 (.ref 145),en P "reckon" 367 (.ref 152),en P "told" 374 (.ref 159),en P "words" 381 (.ref 166),en P "__static_attributes__" 383 (.ref 167),en P "__doc__" 384 .none] 2) #[]
def zbz (P : Params):=Obj.mk (.type "type") .none (Data.cls (ClassData.mk "Name" [(.ref 87)] [(.ref 169),(.ref 87),(.type "object")] 168 "Name" true [] [] false .none false)) #[(Option.some (.ref 132)),.none,(Option.some (.str "Name" 340)),(Option.some (.str "Name" 348)),(Option.some (.builtin "object.__new__")),(Option.some (.bool true))]
def zid (P : Params):=Obj.mk (.type "super") .none (Data.fields #[(.ref 169),(.ref 169),(.ref 169)]) #[]
def zic (P : Params):=Obj.mk (.type "builtin_function_or_method") .none (Data.fields #[(.builtin "object.__init_subclass__"),(.ref 169)]) #[]
def zoj:=BT.node (zbH P) .nil .nil
def zoi:=BT.node (o91 P) (zoj P) .nil
def zoh:=BT.node (zik P) .nil .nil
def zog:=BT.node (ziq P) .nil .nil
def zof:=BT.node (zbB P) .nil .nil
def zoe:=BT.node (o99 P) (zof P) .nil
def ziD:=BT.node (zbN P) .nil .nil
def zod:=BT.node (zbE P) .nil .nil
def zoc:=BT.node (o95 P) (zod P) .nil
def zob:=BT.node (zij P) .nil .nil
def zoa:=BT.node (zbV P) .nil .nil
def zn9:=BT.node (zic P) .nil .nil
def zn8:=BT.node (zal P) (zn9 P) .nil
def zn7:=BT.node (zbK P) .nil .nil
def zn6:=BT.node (o87 P) (zn7 P) .nil
def zn5:=BT.node (zif P) .nil .nil
def zn4:=BT.node (o93 P) (zn5 P) .nil
def zn3:=BT.node (zbR P) .nil .nil
def zn2:=BT.node (zin P) .nil .nil
def zn1:=BT.node (zbz P) .nil .nil
def zn0:=BT.node (Vk P) (zn1 P) .nil
def znZ:=BT.node (zbL P) .nil .nil
def znY:=BT.node (o85 P) (znZ P) .nil
def znX:=BT.node (zis P) .nil .nil
def znW:=BT.node (zbD P) .nil .nil
def znV:=BT.node (o97 P) (znW P) .nil
def znU:=BT.node (zbO P) .nil .nil
def znT:=BT.node (o81 P) (znU P) .nil
def znS:=BT.node (zbU P) .nil .nil
def znR:=BT.node (zig P) .nil .nil
def znQ:=BT.node (o89 P) (znR P) .nil
def zqZ:=BT.node (boot_o_5 P) (BT.node (boot_o_9 P) (BT.node (o8 P) (BT.node (o24 P) (zoD P) (zn4 P)) (BT.node (o43 P) (BT.node (o77 P) (zn3 P) .nil) (zoC P))) (BT.node (o16 P) (BT.node (o32 P) (BT.node (o67 P) (zn2 P) .nil) (zn0 P)) (BT.node (o51 P) (znY P) (zoB P)))) (BT.node (o2 P) (BT.node (o12 P) (BT.node (o28 P) (BT.node (o63 P) (znX P) .nil) (znV P)) (BT.node (o47 P) (znT P) (zoA P))) (BT.node (o20 P) (BT.node (o36 P) (BT.node (o71 P) (znS P) .nil) (zoz P)) (BT.node (o55 P) (znQ P) (zoy P))))
def znP:=BT.node (zbG P) .nil .nil
def znO:=BT.node (o92 P) (znP P) .nil
def znN:=BT.node (zbS P) .nil .nil
def znM:=BT.node (zio P) .nil .nil
def znL:=BT.node (zbA P) .nil .nil
def znK:=BT.node (Vl P) (znL P) .nil
def znJ:=BT.node (zbM P) .nil .nil
def znI:=BT.node (o84 P) (znJ P) .nil
def znH:=BT.node (zbW P) .nil .nil
def znG:=BT.node (zie P) .nil .nil
def znF:=BT.node (o96 P) (znG P) .nil
def znE:=BT.node (zbP P) .nil .nil
def znD:=BT.node (o80 P) (znE P) .nil
def znC:=BT.node (zil P) .nil .nil
def znB:=BT.node (zbJ P) .nil .nil
def znA:=BT.node (o88 P) (znB P) .nil
def znz:=BT.node (zbF P) .nil .nil
def zny:=BT.node (o94 P) (znz P) .nil
def znx:=BT.node (zbQ P) .nil .nil
def znw:=BT.node (zim P) .nil .nil
def znv:=BT.node (zid P) .nil .nil
def znu:=BT.node (Vj P) (znv P) .nil
def znt:=BT.node (zih P) .nil .nil
def zns:=BT.node (o86 P) (znt P) .nil
def znr:=BT.node (zir P) .nil .nil
def znq:=BT.node (zbC P) .nil .nil
def znp:=BT.node (o98 P) (znq P) .nil
def zno:=BT.node (zii P) .nil .nil
def znn:=BT.node (o82 P) (zno P) .nil
def znm:=BT.node (zbT P) .nil .nil
def znl:=BT.node (zbI P) .nil .nil
def znk:=BT.node (o90 P) (znl P) .nil
def zqY:=BT.node (boot_o_6 P) (BT.node (boot_o_10 P) (BT.node (o9 P) (BT.node (o25 P) (zop P) (zny P)) (BT.node (o44 P) (BT.node (o78 P) (znx P) .nil) (zoo P))) (BT.node (o17 P) (BT.node (o33 P) (BT.node (o68 P) (znw P) .nil) (znu P)) (BT.node (o52 P) (zns P) (zon P)))) (BT.node (o3 P) (BT.node (o13 P) (BT.node (o29 P) (BT.node (o64 P) (znr P) .nil) (znp P)) (BT.node (o48 P) (znn P) (zom P))) (BT.node (o21 P) (BT.node (o37 P) (BT.node (o74 P) (znm P) .nil) (zol P)) (BT.node (o56 P) (znk P) (zok P))))
def zqX:=BT.node (boot_o_2 P) (BT.node (boot_o_4 P) (BT.node (boot_o_8 P) (BT.node (o7 P) (BT.node (o23 P) (zow P) (znO P)) (BT.node (o42 P) (BT.node (o76 P) (znN P) .nil) (zov P))) (BT.node (o15 P) (BT.node (o31 P) (BT.node (o66 P) (znM P) .nil) (znK P)) (BT.node (o50 P) (znI P) (zou P)))) (BT.node (zrz P) (BT.node (o11 P) (BT.node (o27 P) (BT.node (o62 P) (znH P) .nil) (znF P)) (BT.node (o46 P) (znD P) (zot P))) (BT.node (o19 P) (BT.node (o35 P) (BT.node (o70 P) (znC P) .nil) (zos P)) (BT.node (o54 P) (znA P) (zor P))))) (zqY P)
def zqW:=BT.node (boot_o_0 P) (BT.node (boot_o_1 P) (BT.node (zrA P) (BT.node (boot_o_7 P) (BT.node (o6 P) (BT.node (o40 P) (zoL P) (zoi P)) (BT.node (o41 P) (BT.node (o75 P) (zoh P) .nil) (zoK P))) (BT.node (o14 P) (BT.node (o30 P) (BT.node (o65 P) (zog P) .nil) (zoe P)) (BT.node (o49 P) (BT.node (zry P) (ziD P) .nil) (zoJ P)))) (BT.node (o0 P) (BT.node (o10 P) (BT.node (o26 P) (zoH P) (zoc P)) (BT.node (o45 P) (BT.node (o79 P) (zob P) .nil) (zoG P))) (BT.node (o18 P) (BT.node (o34 P) (BT.node (o69 P) (zoa P) .nil) (zn8 P)) (BT.node (o53 P) (zn6 P) (zoF P))))) (zqZ P)) (zqX P)
def sb4 (w : World) (os : OsState) : SharedT:=⟨(zqW w.params),172,(Life.mk [] [] [] 0 [] [] false #[] [] 0 false false false 0 [2000,10,10] false 0 true [] [] 0 false),⟨[]⟩,(Drawn.mk 0 0 0 0),387,os⟩
def L3 (w : World) (os : OsState) : Option (Flow × SharedT × Code × Pos):=segRunT treeTable PySem.Challenge.pw_beatless_k10_texts_that_are_none w 11 an 1 340 (sb3 w os) (piecesOf zoY env cE (Pos.mk 18 0 30 32) B)
def R3 (w : World) (os : OsState) : Option (Flow × SharedT × Code × Pos):=some (.next,sb4 w os,cE,(Pos.mk 31 0 43 26))
theorem q3 : tt (Hd.L3,Hd.R3) = true:=by k_qdec
theorem r3 : ∀ w,Fast.tw6196771281854559479 w = Fast.tw4539841377621278456 w:=fun w=>by kernel_rfl
theorem e3 (w : World) (os : OsState) : Hd.L3 w os = Hd.R3 w os :=
  (congrFun (congrFun Fast.te6196771281854559479 w) os).trans ((congrFun (r3 w) os).trans (congrFun (congrFun Fast.te4539841377621278456 w) os).symm)
def zoX : List Stmt:=[S 10]
def zrx:=Obj.mk (.type "dict") .none (Data.dict #[en P "__name__" 165 (.str "beatless.exprs" 271),en P "__doc__" 166 .none,en P "__package__" 167 .none,en P "__loader__" 168 (.builtin "__main__.__loader__#opaque"),en P "__spec__" 169 .none,en P "__annotations__" 170 (.ref 6),en P "__builtins__" 171 (.ref 4),en P "__file__" 173 (.str "/claim/cut.py" 172),en P "__cached__" 174 .none,en P "_wall" 193 (.ref 21),en P "BeatlessError" 213 (.ref 31),en P "NoWeb" 229 (.ref 44),en P "NoProgram" 245 (.ref 56),en P "NoText" 270 (.ref 75),en P "Expr" 292 (.ref 87),en P "Num" 339 (.ref 129),en P "Name" 386 (.ref 169),en P "Two" 439 (.ref 209)] 18) #[]
def zrw (P : Params):=vO #[(.int 1 0),(.int 0 0),(.ref 20),(.int 5 0),(.int 0 0),(.ref 27),(.int 7 0),(.int 0 0),(.ref 40),(.int 9 0),(.int 0 0),(.ref 52),(.int 11 0),(.int 0 0),(.ref 64),(.int 16 0),(.int 0 0),(.ref 83),(.int 18 0),(.int 0 0),(.ref 97),(.int 31 0),(.int 0 0),(.ref 137),(.int 44 0),(.int 0 0),(.ref 177)]
def zrv (P : Params):=Obj.mk (.type "type") .none (Data.cls (ClassData.mk "Expr" [(.type "object")] [(.ref 87),(.type "object")] 86 "Expr" true [] [(.ref 129),(.ref 169),(.ref 209)] false .none false)) #[.none,.none,(Option.some (.str "Expr" 273)),(Option.some (.str "Expr" 281)),(Option.some (.builtin "object.__new__")),(Option.some (.bool true))]
def zby (P : Params):=tO #[(.ref 87)]
def zib (P : Params):=Obj.mk (.type "builtin_function_or_method") .none (Data.fields #[(.builtin "type.__prepare__"),(.type "type")]) #[]
def zia:=Obj.mk (.type "dict") .none (Data.dict #[en P "__module__" 394 (.str "beatless.exprs" 271),en P "__qualname__" 396 (.str "Two" 395),en P "__firstlineno__" 398 (.int 44 397),en P "__init__" 408 (.ref 185),en P "reckon" 418 (.ref 192),en P "told" 425 (.ref 199),en P "words" 432 (.ref 206),en P "__static_attributes__" 436 (.ref 207)] 8) #[]
def zh9 (P : Params):=tO #[]
def zh8 (P : Params):=vO #[(.int 46 0),(.int 4 0),(.ref 184),(.int 51 0),(.int 4 0),(.ref 191),(.int 62 0),(.int 4 0),(.ref 198),(.int 65 0),(.int 4 0),(.ref 205)]
def zh7 (P : Params):=Obj.mk (.type "code") .none (Data.fields #[(.str "Two" 389),(.str "Two" 390),(.str "/claim/cut.py" 391),(.int 44 0),(.int 0 0),(.int 0 0),(.int 0 0),(.int 0 0),(.ref 175),(.bool false),(.int 181 0),(.ref 176),.none,.none,.none,.none,(.int 392 0),(.int 44 0),(.str "/claim/cut.py" 393)]) #[]
def zh6 (P : Params):=Obj.mk (.type "frame") .none Data.plain #[(Option.some (.ref 177)),(Option.some (.ref 3)),(Option.some (.ref 174)),.none,(Option.some (.str "beatless.exprs" 271)),.none,(Option.some (.ref 0))]
def zbx (P : Params):=tO #[]
def zh5 (P : Params):=vO #[]
def zbw (P : Params):=tO #[(.str "self" 402),(.str "word" 403),(.str "one" 404),(.str "other" 405)]
def zbv (P : Params):=tO #[]
def zh4 (P : Params):=gO "__init__" "Two.__init__" (L2.inClass (S 10) 0)
def zbu (P : Params):=cO "__init__" "Two.__init__" 399 400 401 46 4 3 179 180 181 182 183 406 407
def zbt (P : Params):=uO "__init__" "Two.__init__" (L2.inClass (S 10) 0) "beatless.exprs" 271 184
def zbs (P : Params):=tO #[]
def zh3 (P : Params):=vO #[]
def zbr (P : Params):=tO #[(.str "self" 412),(.str "worths" 413),(.str "one" 414),(.str "other" 415)]
def zbq (P : Params):=tO #[]
def zh2 (P : Params):=gO "reckon" "Two.reckon" (L2.inClass (S 10) 1)
def zbp (P : Params):=cO "reckon" "Two.reckon" 409 410 411 51 2 3 186 187 188 189 190 416 417
def zbo (P : Params):=uO "reckon" "Two.reckon" (L2.inClass (S 10) 1) "beatless.exprs" 271 191
def zbn (P : Params):=tO #[]
def zh1 (P : Params):=vO #[]
def zbm (P : Params):=tO #[(.str "self" 422)]
def zbl (P : Params):=tO #[]
def zh0 (P : Params):=gO "told" "Two.told" (L2.inClass (S 10) 2)
def zbk (P : Params):=cO "told" "Two.told" 419 420 421 62 1 3 193 194 195 196 197 423 424
def zbj (P : Params):=uO "told" "Two.told" (L2.inClass (S 10) 2) "beatless.exprs" 271 198
def zbi (P : Params):=tO #[]
def zhZ (P : Params):=vO #[]
def zbh (P : Params):=tO #[(.str "self" 429)]
def zbg (P : Params):=tO #[]
def zhY (P : Params):=gO "words" "Two.words" (L2.inClass (S 10) 3)
def zbf (P : Params):=cO "words" "Two.words" 426 427 428 65 1 3 200 201 202 203 204 430 431
def zbe (P : Params):=uO "words" "Two.words" (L2.inClass (S 10) 3) "beatless.exprs" 271 205
def zbd (P : Params):=tO #[(.str "one" 433),(.str "other" 434),(.str "word" 435)]
def zbc:=Obj.mk (.type "dict") .none (Data.dict #[en P "__module__" 394 (.str "beatless.exprs" 271),en P "__firstlineno__" 398 (.int 44 397),en P "__init__" 408 (.ref 185),en P "reckon" 418 (.ref 192),en P "told" 425 (.ref 199),en P "words" 432 (.ref 206),en P "__static_attributes__" 436 (.ref 207),en P "__doc__" 437 .none] 2) #[]
def zbb (P : Params):=Obj.mk (.type "type") .none (Data.cls (ClassData.mk "Two" [(.ref 87)] [(.ref 209),(.ref 87),(.type "object")] 208 "Two" true [] [] false .none false)) #[(Option.some (.ref 172)),.none,(Option.some (.str "Two" 387)),(Option.some (.str "Two" 395)),(Option.some (.builtin "object.__new__")),(Option.some (.bool true))]
def zhX (P : Params):=Obj.mk (.type "super") .none (Data.fields #[(.ref 209),(.ref 209),(.ref 209)]) #[]
def zhW (P : Params):=Obj.mk (.type "builtin_function_or_method") .none (Data.fields #[(.builtin "object.__init_subclass__"),(.ref 209)]) #[]
def znj:=BT.node (zbp P) .nil .nil
def zni:=BT.node (o57 P) (zoM P) (znj P)
def znh:=BT.node (zbd P) .nil .nil
def zng:=BT.node (o75 P) (zoh P) (znh P)
def znf:=BT.node (zh9 P) .nil .nil
def zne:=BT.node (zbj P) .nil .nil
def znd:=BT.node (o65 P) (zog P) (zne P)
def znc:=BT.node (zh4 P) .nil .nil
def znb:=BT.node (zbm P) .nil .nil
def zna:=BT.node (o61 P) (zoI P) (znb P)
def zm9:=BT.node (zhW P) .nil .nil
def zm8:=BT.node (o79 P) (zob P) (zm9 P)
def zm7:=BT.node (zbx P) .nil .nil
def zm6:=BT.node (zbg P) .nil .nil
def zm5:=BT.node (o69 P) (zoa P) (zm6 P)
def zm4:=BT.node (zh3 P) .nil .nil
def zm3:=BT.node (zbn P) .nil .nil
def zm2:=BT.node (o59 P) (zoE P) (zm3 P)
def zm1:=BT.node (zbb P) .nil .nil
def zm0:=BT.node (o77 P) (zn3 P) (zm1 P)
def zmZ:=BT.node (zh7 P) .nil .nil
def zmY:=BT.node (zhZ P) .nil .nil
def zmX:=BT.node (o67 P) (zn2 P) (zmY P)
def zmW:=BT.node (zbt P) .nil .nil
def zmV:=BT.node (zh0 P) .nil .nil
def zmU:=BT.node (o63 P) (znX P) (zmV P)
def zmT:=BT.node (zbw P) .nil .nil
def zmS:=BT.node (zbf P) .nil .nil
def zmR:=BT.node (o71 P) (znS P) (zmS P)
def zmQ:=BT.node (zib P) .nil .nil
def zmP:=BT.node (zbq P) .nil .nil
def zmO:=BT.node (Ub P) (zmP P) .nil
def zqV:=BT.node (boot_o_5 P) (BT.node (boot_o_9 P) (BT.node (o8 P) (BT.node (o24 P) (zm2 P) (zn4 P)) (BT.node (o43 P) (zm0 P) (BT.node (Ve P) (zmZ P) .nil))) (BT.node (o16 P) (BT.node (o32 P) (zmX P) (zn0 P)) (BT.node (o51 P) (znY P) (BT.node (zb1 P) (zmW P) .nil)))) (BT.node (o2 P) (BT.node (o12 P) (BT.node (o28 P) (zmU P) (znV P)) (BT.node (o47 P) (znT P) (BT.node (zb2 P) (zmT P) .nil))) (BT.node (o20 P) (BT.node (o36 P) (zmR P) (BT.node (Vh P) (zmQ P) .nil)) (BT.node (o55 P) (znQ P) (zmO P))))
def zmN:=BT.node (zbo P) .nil .nil
def zmM:=BT.node (o58 P) (zox P) (zmN P)
def zmL:=BT.node (zbc P) .nil .nil
def zmK:=BT.node (o76 P) (znN P) (zmL P)
def zmJ:=BT.node (zh8 P) .nil .nil
def zmI:=BT.node (zbi P) .nil .nil
def zmH:=BT.node (o66 P) (znM P) (zmI P)
def zmG:=BT.node (zbu P) .nil .nil
def zmF:=BT.node (zbl P) .nil .nil
def zmE:=BT.node (o62 P) (znH P) (zmF P)
def zmD:=BT.node (zh5 P) .nil .nil
def zmC:=BT.node (zhY P) .nil .nil
def zmB:=BT.node (o70 P) (znC P) (zmC P)
def zmA:=BT.node (zby P) .nil .nil
def zmz:=BT.node (zbr P) .nil .nil
def zmy:=BT.node (zb0 P) (zmz P) .nil
def zmx:=BT.node (zh1 P) .nil .nil
def zmw:=BT.node (o60 P) (zoq P) (zmx P)
def zmv:=BT.node (zhX P) .nil .nil
def zmu:=BT.node (o78 P) (znx P) (zmv P)
def zmt:=BT.node (zh6 P) .nil .nil
def zms:=BT.node (zbh P) .nil .nil
def zmr:=BT.node (o68 P) (znw P) (zms P)
def zmq:=BT.node (zbs P) .nil .nil
def zmp:=BT.node (zbk P) .nil .nil
def zmo:=BT.node (o64 P) (znr P) (zmp P)
def zmn:=BT.node (zbv P) .nil .nil
def zmm:=BT.node (zbe P) .nil .nil
def zml:=BT.node (o74 P) (znm P) (zmm P)
def zmk:=BT.node (zia P) .nil .nil
def zmj:=BT.node (zh2 P) .nil .nil
def zmi:=BT.node (Ua P) (zmj P) .nil
def zqU:=BT.node (boot_o_6 P) (BT.node (boot_o_10 P) (BT.node (o9 P) (BT.node (o25 P) (zmw P) (zny P)) (BT.node (o44 P) (zmu P) (BT.node (zb3 P) (zmt P) .nil))) (BT.node (o17 P) (BT.node (o33 P) (zmr P) (znu P)) (BT.node (o52 P) (zns P) (BT.node (Ud P) (zmq P) .nil)))) (BT.node (o3 P) (BT.node (o13 P) (BT.node (o29 P) (zmo P) (znp P)) (BT.node (o48 P) (znn P) (BT.node (Ug P) (zmn P) .nil))) (BT.node (o21 P) (BT.node (o37 P) (zml P) (BT.node (zak P) (zmk P) .nil)) (BT.node (o56 P) (znk P) (zmi P))))
def zqT:=BT.node (boot_o_2 P) (BT.node (boot_o_4 P) (BT.node (boot_o_8 P) (BT.node (o7 P) (BT.node (o23 P) (zmM P) (znO P)) (BT.node (o42 P) (zmK P) (BT.node (Vf P) (zmJ P) .nil))) (BT.node (o15 P) (BT.node (o31 P) (zmH P) (znK P)) (BT.node (o50 P) (znI P) (BT.node (Ue P) (zmG P) .nil)))) (BT.node (zrw P) (BT.node (o11 P) (BT.node (o27 P) (zmE P) (znF P)) (BT.node (o46 P) (znD P) (BT.node (Uh P) (zmD P) .nil))) (BT.node (o19 P) (BT.node (o35 P) (zmB P) (BT.node (Vi P) (zmA P) .nil)) (BT.node (o54 P) (znA P) (zmy P))))) (zqU P)
def zqS:=BT.node (boot_o_0 P) (BT.node (boot_o_1 P) (BT.node (zrx P) (BT.node (boot_o_7 P) (BT.node (o6 P) (BT.node (o40 P) (zni P) (zoi P)) (BT.node (o41 P) (zng P) (BT.node (Vg P) (znf P) .nil))) (BT.node (o14 P) (BT.node (o30 P) (znd P) (zoe P)) (BT.node (o49 P) (BT.node (zrv P) (ziD P) .nil) (BT.node (Uf P) (znc P) .nil)))) (BT.node (o0 P) (BT.node (o10 P) (BT.node (o26 P) (zna P) (zoc P)) (BT.node (o45 P) (zm8 P) (BT.node (Ui P) (zm7 P) .nil))) (BT.node (o18 P) (BT.node (o34 P) (zm5 P) (zn8 P)) (BT.node (o53 P) (zn6 P) (BT.node (Uc P) (zm4 P) .nil))))) (zqV P)) (zqT P)
def sb5 (w : World) (os : OsState) : SharedT:=⟨(zqS w.params),212,(Life.mk [] [] [] 0 [] [] false #[] [] 0 false false false 0 [2000,10,10] false 0 true [] [] 0 false),⟨[]⟩,(Drawn.mk 0 0 0 0),440,os⟩
def L4 (w : World) (os : OsState) : Option (Flow × SharedT × Code × Pos):=segRunT treeTable PySem.Challenge.pw_beatless_k10_texts_that_are_none w 11 an 1 346 (sb4 w os) (piecesOf zoX env cE (Pos.mk 31 0 43 26) B)
def R4 (w : World) (os : OsState) : Option (Flow × SharedT × Code × Pos):=some (.next,sb5 w os,cE,(Pos.mk 44 0 66 66))
theorem q4 : tt (Hd.L4,Hd.R4) = true:=by k_qdec
theorem r4 : ∀ w,Fast.tw18063231807419426806 w = Fast.tw9930642381628883879 w:=fun w=>by kernel_rfl
theorem e4 (w : World) (os : OsState) : Hd.L4 w os = Hd.R4 w os :=
  (congrFun (congrFun Fast.te18063231807419426806 w) os).trans ((congrFun (r4 w) os).trans (congrFun (congrFun Fast.te9930642381628883879 w) os).symm)
def zoW : List Stmt:=[S 11]
def zru:=Obj.mk (.type "dict") .none (Data.dict #[en P "__name__" 165 (.str "beatless.exprs" 271),en P "__doc__" 166 .none,en P "__package__" 167 .none,en P "__loader__" 168 (.builtin "__main__.__loader__#opaque"),en P "__spec__" 169 .none,en P "__annotations__" 170 (.ref 6),en P "__builtins__" 171 (.ref 4),en P "__file__" 173 (.str "/claim/cut.py" 172),en P "__cached__" 174 .none,en P "_wall" 193 (.ref 21),en P "BeatlessError" 213 (.ref 31),en P "NoWeb" 229 (.ref 44),en P "NoProgram" 245 (.ref 56),en P "NoText" 270 (.ref 75),en P "Expr" 292 (.ref 87),en P "Num" 339 (.ref 129),en P "Name" 386 (.ref 169),en P "Two" 439 (.ref 209),en P "Mod" 488 (.ref 249)] 19) #[]
def zrt (P : Params):=vO #[(.int 1 0),(.int 0 0),(.ref 20),(.int 5 0),(.int 0 0),(.ref 27),(.int 7 0),(.int 0 0),(.ref 40),(.int 9 0),(.int 0 0),(.ref 52),(.int 11 0),(.int 0 0),(.ref 64),(.int 16 0),(.int 0 0),(.ref 83),(.int 18 0),(.int 0 0),(.ref 97),(.int 31 0),(.int 0 0),(.ref 137),(.int 44 0),(.int 0 0),(.ref 177),(.int 67 0),(.int 0 0),(.ref 217)]
def zrs (P : Params):=Obj.mk (.type "type") .none (Data.cls (ClassData.mk "Expr" [(.type "object")] [(.ref 87),(.type "object")] 86 "Expr" true [] [(.ref 129),(.ref 169),(.ref 209),(.ref 249)] false .none false)) #[.none,.none,(Option.some (.str "Expr" 273)),(Option.some (.str "Expr" 281)),(Option.some (.builtin "object.__new__")),(Option.some (.bool true))]
def zba (P : Params):=tO #[(.ref 87)]
def zhV (P : Params):=Obj.mk (.type "builtin_function_or_method") .none (Data.fields #[(.builtin "type.__prepare__"),(.type "type")]) #[]
def zhU:=Obj.mk (.type "dict") .none (Data.dict #[en P "__module__" 447 (.str "beatless.exprs" 271),en P "__qualname__" 449 (.str "Mod" 448),en P "__firstlineno__" 451 (.int 67 450),en P "__init__" 460 (.ref 225),en P "reckon" 468 (.ref 232),en P "told" 475 (.ref 239),en P "words" 482 (.ref 246),en P "__static_attributes__" 485 (.ref 247)] 8) #[]
def zhT (P : Params):=tO #[]
def zhS (P : Params):=vO #[(.int 69 0),(.int 4 0),(.ref 224),(.int 73 0),(.int 4 0),(.ref 231),(.int 76 0),(.int 4 0),(.ref 238),(.int 79 0),(.int 4 0),(.ref 245)]
def zhR (P : Params):=Obj.mk (.type "code") .none (Data.fields #[(.str "Mod" 442),(.str "Mod" 443),(.str "/claim/cut.py" 444),(.int 67 0),(.int 0 0),(.int 0 0),(.int 0 0),(.int 0 0),(.ref 215),(.bool false),(.int 181 0),(.ref 216),.none,.none,.none,.none,(.int 445 0),(.int 67 0),(.str "/claim/cut.py" 446)]) #[]
def zhQ (P : Params):=Obj.mk (.type "frame") .none Data.plain #[(Option.some (.ref 217)),(Option.some (.ref 3)),(Option.some (.ref 214)),.none,(Option.some (.str "beatless.exprs" 271)),.none,(Option.some (.ref 0))]
def za9 (P : Params):=tO #[]
def zhP (P : Params):=vO #[]
def za8 (P : Params):=tO #[(.str "self" 455),(.str "inner" 456),(.str "number" 457)]
def za7 (P : Params):=tO #[]
def zhO (P : Params):=gO "__init__" "Mod.__init__" (L2.inClass (S 11) 0)
def za6 (P : Params):=cO "__init__" "Mod.__init__" 452 453 454 69 3 3 219 220 221 222 223 458 459
def za5 (P : Params):=uO "__init__" "Mod.__init__" (L2.inClass (S 11) 0) "beatless.exprs" 271 224
def za4 (P : Params):=tO #[]
def zhN (P : Params):=vO #[]
def za3 (P : Params):=tO #[(.str "self" 464),(.str "worths" 465)]
def za2 (P : Params):=tO #[]
def zhM (P : Params):=gO "reckon" "Mod.reckon" (L2.inClass (S 11) 1)
def za1 (P : Params):=cO "reckon" "Mod.reckon" 461 462 463 73 2 3 226 227 228 229 230 466 467
def za0 (P : Params):=uO "reckon" "Mod.reckon" (L2.inClass (S 11) 1) "beatless.exprs" 271 231
def zaZ (P : Params):=tO #[]
def zhL (P : Params):=vO #[]
def zaY (P : Params):=tO #[(.str "self" 472)]
def zaX (P : Params):=tO #[]
def zhK (P : Params):=gO "told" "Mod.told" (L2.inClass (S 11) 2)
def zaW (P : Params):=cO "told" "Mod.told" 469 470 471 76 1 3 233 234 235 236 237 473 474
def zaV (P : Params):=uO "told" "Mod.told" (L2.inClass (S 11) 2) "beatless.exprs" 271 238
def zaU (P : Params):=tO #[]
def zhJ (P : Params):=vO #[]
def zaT (P : Params):=tO #[(.str "self" 479)]
def zaS (P : Params):=tO #[]
def zhI (P : Params):=gO "words" "Mod.words" (L2.inClass (S 11) 3)
def zaR (P : Params):=cO "words" "Mod.words" 476 477 478 79 1 3 240 241 242 243 244 480 481
def zaQ (P : Params):=uO "words" "Mod.words" (L2.inClass (S 11) 3) "beatless.exprs" 271 245
def zaP (P : Params):=tO #[(.str "inner" 483),(.str "number" 484)]
def zaO:=Obj.mk (.type "dict") .none (Data.dict #[en P "__module__" 447 (.str "beatless.exprs" 271),en P "__firstlineno__" 451 (.int 67 450),en P "__init__" 460 (.ref 225),en P "reckon" 468 (.ref 232),en P "told" 475 (.ref 239),en P "words" 482 (.ref 246),en P "__static_attributes__" 485 (.ref 247),en P "__doc__" 486 .none] 2) #[]
def zaN (P : Params):=Obj.mk (.type "type") .none (Data.cls (ClassData.mk "Mod" [(.ref 87)] [(.ref 249),(.ref 87),(.type "object")] 248 "Mod" true [] [] false .none false)) #[(Option.some (.ref 212)),.none,(Option.some (.str "Mod" 440)),(Option.some (.str "Mod" 448)),(Option.some (.builtin "object.__new__")),(Option.some (.bool true))]
def zhH (P : Params):=Obj.mk (.type "super") .none (Data.fields #[(.ref 249),(.ref 249),(.ref 249)]) #[]
def zhG (P : Params):=Obj.mk (.type "builtin_function_or_method") .none (Data.fields #[(.builtin "object.__init_subclass__"),(.ref 249)]) #[]
def zmh:=BT.node (zhO P) .nil .nil
def zmg:=BT.node (zaV P) .nil .nil
def zmf:=BT.node (za1 P) .nil .nil
def zme:=BT.node (zhT P) .nil .nil
def zmd:=BT.node (Uf P) (znc P) (BT.node (zaP P) .nil .nil)
def zmc:=BT.node (zhN P) .nil .nil
def zmb:=BT.node (Ui P) (zm7 P) (BT.node (zaS P) .nil .nil)
def zma:=BT.node (zaY P) .nil .nil
def zl9:=BT.node (za9 P) .nil .nil
def zl8:=BT.node (Uc P) (zm4 P) (BT.node (zhG P) .nil .nil)
def zl7:=BT.node (za5 P) .nil .nil
def zl6:=BT.node (zhJ P) .nil .nil
def zl5:=BT.node (Ve P) (zmZ P) (zl6 P)
def zl4:=BT.node (zaZ P) .nil .nil
def zl3:=BT.node (zhR P) .nil .nil
def zl2:=BT.node (zb1 P) (zmW P) (BT.node (zaN P) .nil .nil)
def zl1:=BT.node (za2 P) .nil .nil
def zl0:=BT.node (zhV P) .nil .nil
def zlZ:=BT.node (zb2 P) (zmT P) (BT.node (zaR P) .nil .nil)
def zlY:=BT.node (zhK P) .nil .nil
def zlX:=BT.node (za8 P) .nil .nil
def zqR:=BT.node (boot_o_5 P) (BT.node (boot_o_9 P) (BT.node (o8 P) (BT.node (o24 P) (zm2 P) (BT.node (o93 P) (zn5 P) (zl7 P))) (BT.node (o43 P) (zm0 P) (zl5 P))) (BT.node (o16 P) (BT.node (o32 P) (zmX P) (BT.node (Vk P) (zn1 P) (zl4 P))) (BT.node (o51 P) (BT.node (o85 P) (znZ P) (zl3 P)) (zl2 P)))) (BT.node (o2 P) (BT.node (o12 P) (BT.node (o28 P) (zmU P) (BT.node (o97 P) (znW P) (zl1 P))) (BT.node (o47 P) (BT.node (o81 P) (znU P) (zl0 P)) (zlZ P))) (BT.node (o20 P) (BT.node (o36 P) (zmR P) (BT.node (Vh P) (zmQ P) (zlY P))) (BT.node (o55 P) (BT.node (o89 P) (znR P) (zlX P)) (zmO P))))
def zlW:=BT.node (za6 P) .nil .nil
def zlV:=BT.node (zaU P) .nil .nil
def zlU:=BT.node (za0 P) .nil .nil
def zlT:=BT.node (zhS P) .nil .nil
def zlS:=BT.node (Ue P) (zmG P) (BT.node (zaO P) .nil .nil)
def zlR:=BT.node (za3 P) .nil .nil
def zlQ:=BT.node (zba P) .nil .nil
def zlP:=BT.node (Uh P) (zmD P) (BT.node (zhI P) .nil .nil)
def zlO:=BT.node (zaX P) .nil .nil
def zlN:=BT.node (zhP P) .nil .nil
def zlM:=BT.node (za4 P) .nil .nil
def zlL:=BT.node (zb3 P) (zmt P) (BT.node (zaT P) .nil .nil)
def zlK:=BT.node (zhL P) .nil .nil
def zlJ:=BT.node (zhQ P) .nil .nil
def zlI:=BT.node (Ud P) (zmq P) (BT.node (zhH P) .nil .nil)
def zlH:=BT.node (zhM P) .nil .nil
def zlG:=BT.node (zhU P) .nil .nil
def zlF:=BT.node (Ug P) (zmn P) (BT.node (zaQ P) .nil .nil)
def zlE:=BT.node (zaW P) .nil .nil
def zlD:=BT.node (za7 P) .nil .nil
def zqQ:=BT.node (boot_o_6 P) (BT.node (boot_o_10 P) (BT.node (o9 P) (BT.node (o25 P) (zmw P) (BT.node (o94 P) (znz P) (zlM P))) (BT.node (o44 P) (zmu P) (zlL P))) (BT.node (o17 P) (BT.node (o33 P) (zmr P) (BT.node (Vj P) (znv P) (zlK P))) (BT.node (o52 P) (BT.node (o86 P) (znt P) (zlJ P)) (zlI P)))) (BT.node (o3 P) (BT.node (o13 P) (BT.node (o29 P) (zmo P) (BT.node (o98 P) (znq P) (zlH P))) (BT.node (o48 P) (BT.node (o82 P) (zno P) (zlG P)) (zlF P))) (BT.node (o21 P) (BT.node (o37 P) (zml P) (BT.node (zak P) (zmk P) (zlE P))) (BT.node (o56 P) (BT.node (o90 P) (znl P) (zlD P)) (zmi P))))
def zqP:=BT.node (boot_o_2 P) (BT.node (boot_o_4 P) (BT.node (boot_o_8 P) (BT.node (o7 P) (BT.node (o23 P) (zmM P) (BT.node (o92 P) (znP P) (zlW P))) (BT.node (o42 P) (zmK P) (BT.node (Vf P) (zmJ P) (zlV P)))) (BT.node (o15 P) (BT.node (o31 P) (zmH P) (BT.node (Vl P) (znL P) (zlU P))) (BT.node (o50 P) (BT.node (o84 P) (znJ P) (zlT P)) (zlS P)))) (BT.node (zrt P) (BT.node (o11 P) (BT.node (o27 P) (zmE P) (BT.node (o96 P) (znG P) (zlR P))) (BT.node (o46 P) (BT.node (o80 P) (znE P) (zlQ P)) (zlP P))) (BT.node (o19 P) (BT.node (o35 P) (zmB P) (BT.node (Vi P) (zmA P) (zlO P))) (BT.node (o54 P) (BT.node (o88 P) (znB P) (zlN P)) (zmy P))))) (zqQ P)
def zqO:=BT.node (boot_o_0 P) (BT.node (boot_o_1 P) (BT.node (zru P) (BT.node (boot_o_7 P) (BT.node (o6 P) (BT.node (o40 P) (zni P) (BT.node (o91 P) (zoj P) (zmh P))) (BT.node (o41 P) (zng P) (BT.node (Vg P) (znf P) (zmg P)))) (BT.node (o14 P) (BT.node (o30 P) (znd P) (BT.node (o99 P) (zof P) (zmf P))) (BT.node (o49 P) (BT.node (zrs P) (ziD P) (zme P)) (zmd P)))) (BT.node (o0 P) (BT.node (o10 P) (BT.node (o26 P) (zna P) (BT.node (o95 P) (zod P) (zmc P))) (BT.node (o45 P) (zm8 P) (zmb P))) (BT.node (o18 P) (BT.node (o34 P) (zm5 P) (BT.node (zal P) (zn9 P) (zma P))) (BT.node (o53 P) (BT.node (o87 P) (zn7 P) (zl9 P)) (zl8 P))))) (zqR P)) (zqP P)
def sb6 (w : World) (os : OsState) : SharedT:=⟨(zqO w.params),252,(Life.mk [] [] [] 0 [] [] false #[] [] 0 false false false 0 [2000,10,10] false 0 true [] [] 0 false),⟨[]⟩,(Drawn.mk 0 0 0 0),489,os⟩
def L5 (w : World) (os : OsState) : Option (Flow × SharedT × Code × Pos):=segRunT treeTable PySem.Challenge.pw_beatless_k10_texts_that_are_none w 11 an 1 342 (sb5 w os) (piecesOf zoW env cE (Pos.mk 44 0 66 66) B)
def R5 (w : World) (os : OsState) : Option (Flow × SharedT × Code × Pos):=some (.next,sb6 w os,cE,(Pos.mk 67 0 80 64))
theorem q5 : tt (Hd.L5,Hd.R5) = true:=by k_qdec
theorem r5 : ∀ w,Fast.tw7289443652863241282 w = Fast.tw2540258914238199871 w:=fun w=>by kernel_rfl
theorem e5 (w : World) (os : OsState) : Hd.L5 w os = Hd.R5 w os :=
  (congrFun (congrFun Fast.te7289443652863241282 w) os).trans ((congrFun (r5 w) os).trans (congrFun (congrFun Fast.te2540258914238199871 w) os).symm)
def zoV : List Stmt:=[S 12,S 13,S 14,S 15,S 16,S 17,S 18,S 19,S 20,S 21]
def zrr:=Obj.mk (.type "dict") .none (Data.dict #[en P "__name__" 165 (.str "beatless.programs" 551),en P "__doc__" 166 .none,en P "__package__" 167 .none,en P "__loader__" 168 (.builtin "__main__.__loader__#opaque"),en P "__spec__" 169 .none,en P "__annotations__" 170 (.ref 6),en P "__builtins__" 171 (.ref 4),en P "__file__" 173 (.str "/claim/cut.py" 172),en P "__cached__" 174 .none,en P "_wall" 193 (.ref 21),en P "BeatlessError" 213 (.ref 31),en P "NoWeb" 229 (.ref 44),en P "NoProgram" 245 (.ref 56),en P "NoText" 270 (.ref 75),en P "Expr" 292 (.ref 87),en P "Num" 339 (.ref 129),en P "Name" 386 (.ref 169),en P "Two" 439 (.ref 209),en P "Mod" 488 (.ref 249),en P "Less" 541 (.ref 289),en P "is_whole" 550 (.ref 298),en P "START_NAMES" 555 (.ref 299),en P "SEND_NAMES" 561 (.ref 300),en P "RENEW_NAMES" 570 (.ref 301),en P "ALL_NAMES" 580 (.ref 302),en P "TWO_WORDS" 585 (.ref 303),en P "ROW_WORDS" 590 (.ref 304)] 27) #[]
def zrq (P : Params):=vO #[(.int 1 0),(.int 0 0),(.ref 20),(.int 5 0),(.int 0 0),(.ref 27),(.int 7 0),(.int 0 0),(.ref 40),(.int 9 0),(.int 0 0),(.ref 52),(.int 11 0),(.int 0 0),(.ref 64),(.int 16 0),(.int 0 0),(.ref 83),(.int 18 0),(.int 0 0),(.ref 97),(.int 31 0),(.int 0 0),(.ref 137),(.int 44 0),(.int 0 0),(.ref 177),(.int 67 0),(.int 0 0),(.ref 217),(.int 81 0),(.int 0 0),(.ref 257),(.int 100 0),(.int 0 0),(.ref 297)]
def zaM (P : Params):=Obj.mk (.type "type") .none (Data.cls (ClassData.mk "Expr" [(.type "object")] [(.ref 87),(.type "object")] 86 "Expr" true [] [(.ref 129),(.ref 169),(.ref 209),(.ref 249),(.ref 289)] false .none false)) #[.none,.none,(Option.some (.str "Expr" 273)),(Option.some (.str "Expr" 281)),(Option.some (.builtin "object.__new__")),(Option.some (.bool true))]
def zd9 (P : Params):=tO #[(.ref 87)]
def zjs (P : Params):=Obj.mk (.type "builtin_function_or_method") .none (Data.fields #[(.builtin "type.__prepare__"),(.type "type")]) #[]
def zjr:=Obj.mk (.type "dict") .none (Data.dict #[en P "__module__" 496 (.str "beatless.exprs" 271),en P "__qualname__" 498 (.str "Less" 497),en P "__firstlineno__" 500 (.int 81 499),en P "__init__" 511 (.ref 265),en P "reckon" 519 (.ref 272),en P "told" 526 (.ref 279),en P "words" 533 (.ref 286),en P "__static_attributes__" 538 (.ref 287)] 8) #[]
def zqv (P : Params):=tO #[]
def zqu (P : Params):=vO #[(.int 83 0),(.int 4 0),(.ref 264),(.int 89 0),(.int 4 0),(.ref 271),(.int 94 0),(.int 4 0),(.ref 278),(.int 97 0),(.int 4 0),(.ref 285)]
def zqt (P : Params):=Obj.mk (.type "code") .none (Data.fields #[(.str "Less" 491),(.str "Less" 492),(.str "/claim/cut.py" 493),(.int 81 0),(.int 0 0),(.int 0 0),(.int 0 0),(.int 0 0),(.ref 255),(.bool false),(.int 181 0),(.ref 256),.none,.none,.none,.none,(.int 494 0),(.int 81 0),(.str "/claim/cut.py" 495)]) #[]
def zqs (P : Params):=Obj.mk (.type "frame") .none Data.plain #[(Option.some (.ref 257)),(Option.some (.ref 3)),(Option.some (.ref 254)),.none,(Option.some (.str "beatless.exprs" 271)),.none,(Option.some (.ref 0))]
def zhF (P : Params):=tO #[]
def zqr (P : Params):=vO #[]
def zhE (P : Params):=tO #[(.str "self" 504),(.str "one" 505),(.str "other" 506),(.str "third" 507),(.str "fourth" 508)]
def zhD (P : Params):=tO #[]
def zqq (P : Params):=gO "__init__" "Less.__init__" (L2.inClass (S 12) 0)
def zhC (P : Params):=cO "__init__" "Less.__init__" 501 502 503 83 5 3 259 260 261 262 263 509 510
def zhB (P : Params):=uO "__init__" "Less.__init__" (L2.inClass (S 12) 0) "beatless.exprs" 271 264
def zhA (P : Params):=tO #[]
def zqp (P : Params):=vO #[]
def zhz (P : Params):=tO #[(.str "self" 515),(.str "worths" 516)]
def zhy (P : Params):=tO #[]
def zqo (P : Params):=gO "reckon" "Less.reckon" (L2.inClass (S 12) 1)
def zhx (P : Params):=cO "reckon" "Less.reckon" 512 513 514 89 2 3 266 267 268 269 270 517 518
def zhw (P : Params):=uO "reckon" "Less.reckon" (L2.inClass (S 12) 1) "beatless.exprs" 271 271
def zhv (P : Params):=tO #[]
def zqn (P : Params):=vO #[]
def zhu (P : Params):=tO #[(.str "self" 523)]
def zht (P : Params):=tO #[]
def zqm (P : Params):=gO "told" "Less.told" (L2.inClass (S 12) 2)
def zhs (P : Params):=cO "told" "Less.told" 520 521 522 94 1 3 273 274 275 276 277 524 525
def zhr (P : Params):=uO "told" "Less.told" (L2.inClass (S 12) 2) "beatless.exprs" 271 278
def zhq (P : Params):=tO #[]
def zql (P : Params):=vO #[]
def zhp (P : Params):=tO #[(.str "self" 530)]
def zho (P : Params):=tO #[]
def zqk (P : Params):=gO "words" "Less.words" (L2.inClass (S 12) 3)
def zhn (P : Params):=cO "words" "Less.words" 527 528 529 97 1 3 280 281 282 283 284 531 532
def zhm (P : Params):=uO "words" "Less.words" (L2.inClass (S 12) 3) "beatless.exprs" 271 285
def zhl (P : Params):=tO #[(.str "fourth" 534),(.str "one" 535),(.str "other" 536),(.str "third" 537)]
def zhk:=Obj.mk (.type "dict") .none (Data.dict #[en P "__module__" 496 (.str "beatless.exprs" 271),en P "__firstlineno__" 500 (.int 81 499),en P "__init__" 511 (.ref 265),en P "reckon" 519 (.ref 272),en P "told" 526 (.ref 279),en P "words" 533 (.ref 286),en P "__static_attributes__" 538 (.ref 287),en P "__doc__" 539 .none] 2) #[]
def zhj (P : Params):=Obj.mk (.type "type") .none (Data.cls (ClassData.mk "Less" [(.ref 87)] [(.ref 289),(.ref 87),(.type "object")] 288 "Less" true [] [] false .none false)) #[(Option.some (.ref 252)),.none,(Option.some (.str "Less" 489)),(Option.some (.str "Less" 497)),(Option.some (.builtin "object.__new__")),(Option.some (.bool true))]
def zqj (P : Params):=Obj.mk (.type "super") .none (Data.fields #[(.ref 289),(.ref 289),(.ref 289)]) #[]
def zqi (P : Params):=Obj.mk (.type "builtin_function_or_method") .none (Data.fields #[(.builtin "object.__init_subclass__"),(.ref 289)]) #[]
def zhi (P : Params):=tO #[]
def zqh (P : Params):=vO #[]
def zhh (P : Params):=tO #[(.str "value" 547)]
def zhg (P : Params):=tO #[]
def zqg (P : Params):=gO "is_whole" "is_whole" (S 14)
def zhf (P : Params):=cO "is_whole" "is_whole" 544 545 546 100 1 3 292 293 294 295 296 548 549
def zhe (P : Params):=uO "is_whole" "is_whole" (S 14) "beatless.wholes" 542 297
def zhd (P : Params):=tO #[(.str "me" 553),(.str "lines" 554)]
def zhc (P : Params):=tO #[(.str "worth" 556),(.str "me" 557),(.str "round" 558),(.str "lines" 559),(.str "to" 560)]
def zhb (P : Params):=tO #[(.str "worth" 562),(.str "me" 563),(.str "round" 564),(.str "lines" 565),(.str "sum" 566),(.str "least" 567),(.str "most" 568),(.str "count" 569)]
def zha (P : Params):=tO #[(.str "worth" 571),(.str "me" 572),(.str "round" 573),(.str "lines" 574),(.str "to" 575),(.str "sum" 576),(.str "least" 577),(.str "most" 578),(.str "count" 579)]
def zg9 (P : Params):=tO #[(.str "add" 581),(.str "sub" 582),(.str "min" 583),(.str "max" 584)]
def zg8 (P : Params):=tO #[(.str "start" 586),(.str "send" 587),(.str "when" 588),(.str "reckon" 589)]
def zlC:=BT.node (zqv P) .nil .nil
def zlB:=BT.node (zhl P) .nil .nil
def zlA:=BT.node (zbH P) (zlB P) .nil
def zlz:=BT.node (zhx P) .nil .nil
def zly:=BT.node (zg9 P) .nil .nil
def zlx:=BT.node (zh9 P) (zly P) .nil
def zlw:=BT.node (zqq P) .nil .nil
def zlv:=BT.node (zhg P) .nil .nil
def zlu:=BT.node (zbB P) (zlv P) .nil
def zls:=BT.node (zhr P) .nil .nil
def zlr:=BT.node (zbN P) (zls P) .nil
def zlq:=BT.node (boot_o_7 P) (BT.node (o6 P) (BT.node (o40 P) (BT.node (o57 P) (BT.node (zbZ P) (zlC P) .nil) (znj P)) (BT.node (o91 P) (zlA P) (zmh P))) (BT.node (o41 P) (BT.node (o75 P) (BT.node (zik P) (zlz P) .nil) (znh P)) (BT.node (Vg P) (zlx P) (zmg P)))) (BT.node (o14 P) (BT.node (o30 P) (BT.node (o65 P) (BT.node (ziq P) (zlw P) .nil) (zne P)) (BT.node (o99 P) (zlu P) (zmf P))) (BT.node (o49 P) (BT.node (zaM P) (zlr P) (zme P)) (zmd P)))
def zlp:=BT.node (zhF P) .nil .nil
def zlo:=BT.node (zqi P) .nil .nil
def zln:=BT.node (zbE P) (zlo P) .nil
def zlm:=BT.node (zhu P) .nil .nil
def zll:=BT.node (zij P) (zlm P) .nil
def zlk:=BT.node (zqp P) .nil .nil
def zlj:=BT.node (zhd P) .nil .nil
def zli:=BT.node (zic P) (zlj P) .nil
def zlh:=BT.node (zho P) .nil .nil
def zlg:=BT.node (zbK P) (zlh P) .nil
def zlf:=BT.node (o0 P) (BT.node (o10 P) (BT.node (o26 P) (BT.node (o61 P) (BT.node (zit P) (zlp P) .nil) (znb P)) (BT.node (o95 P) (zln P) (zmc P))) (BT.node (o45 P) (BT.node (o79 P) (zll P) (zm9 P)) (zmb P))) (BT.node (o18 P) (BT.node (o34 P) (BT.node (o69 P) (BT.node (zbV P) (zlk P) .nil) (zm6 P)) (BT.node (zal P) (zli P) (zma P))) (BT.node (o53 P) (BT.node (o87 P) (zlg P) (zl9 P)) (zl8 P)))
def zle:=BT.node (zqt P) .nil .nil
def zld:=BT.node (zhj P) .nil .nil
def zlc:=BT.node (zif P) (zld P) .nil
def zlb:=BT.node (o24 P) (BT.node (o59 P) (BT.node (zbX P) (zle P) .nil) (zm3 P)) (BT.node (o93 P) (zlc P) (zl7 P))
def zla:=BT.node (zhv P) .nil .nil
def zk9:=BT.node (zbR P) (zla P) .nil
def zk8:=BT.node (o77 P) (zk9 P) (zm1 P)
def zk7:=BT.node (zhB P) .nil .nil
def zk6:=BT.node (zhf P) .nil .nil
def zk5:=BT.node (zbz P) (zk6 P) .nil
def zk4:=BT.node (zql P) .nil .nil
def zk3:=BT.node (zbL P) (zk4 P) .nil
def zk2:=BT.node (o16 P) (BT.node (o32 P) (BT.node (o67 P) (BT.node (zin P) (zk7 P) .nil) (zmY P)) (BT.node (Vk P) (zk5 P) (zl4 P))) (BT.node (o51 P) (BT.node (o85 P) (zk3 P) (zl3 P)) (zl2 P))
def zk1:=BT.node (zhE P) .nil .nil
def zk0:=BT.node (zqh P) .nil .nil
def zkZ:=BT.node (zbD P) (zk0 P) .nil
def zkY:=BT.node (zqm P) .nil .nil
def zkX:=BT.node (zbO P) (zkY P) .nil
def zkW:=BT.node (zhy P) .nil .nil
def zkV:=BT.node (zhb P) .nil .nil
def zkU:=BT.node (zib P) (zkV P) .nil
def zkT:=BT.node (zhn P) .nil .nil
def zkS:=BT.node (zig P) (zkT P) .nil
def zkR:=BT.node (o2 P) (BT.node (o12 P) (BT.node (o28 P) (BT.node (o63 P) (BT.node (zis P) (zk1 P) .nil) (zmV P)) (BT.node (o97 P) (zkZ P) (zl1 P))) (BT.node (o47 P) (BT.node (o81 P) (zkX P) (zl0 P)) (zlZ P))) (BT.node (o20 P) (BT.node (o36 P) (BT.node (o71 P) (BT.node (zbU P) (zkW P) .nil) (zmS P)) (BT.node (Vh P) (zkU P) (zlY P))) (BT.node (o55 P) (BT.node (o89 P) (zkS P) (zlX P)) (BT.node (Ub P) (zmP P) (BT.node (zjs P) .nil .nil))))
def zkQ:=BT.node (zqu P) .nil .nil
def zkP:=BT.node (zhk P) .nil .nil
def zkO:=BT.node (zbG P) (zkP P) .nil
def zkN:=BT.node (zhw P) .nil .nil
def zkM:=BT.node (zbS P) (zkN P) .nil
def zkL:=BT.node (zg8 P) .nil .nil
def zkK:=BT.node (zh8 P) (zkL P) .nil
def zkJ:=BT.node (zhC P) .nil .nil
def zkI:=BT.node (zqg P) .nil .nil
def zkH:=BT.node (zbA P) (zkI P) .nil
def zkG:=BT.node (zhq P) .nil .nil
def zkF:=BT.node (zbM P) (zkG P) .nil
def zkE:=BT.node (zqr P) .nil .nil
def zkD:=BT.node (zhi P) .nil .nil
def zkC:=BT.node (zie P) (zkD P) .nil
def zkB:=BT.node (zht P) .nil .nil
def zkA:=BT.node (zbP P) (zkB P) .nil
def zkz:=BT.node (zhz P) .nil .nil
def zky:=BT.node (zhc P) .nil .nil
def zkx:=BT.node (zby P) (zky P) .nil
def zkw:=BT.node (zqk P) .nil .nil
def zkv:=BT.node (zbJ P) (zkw P) .nil
def zqN:=BT.node (zrq P) (BT.node (o11 P) (BT.node (o27 P) (BT.node (o62 P) (BT.node (zbW P) (zkE P) .nil) (zmF P)) (BT.node (o96 P) (zkC P) (zlR P))) (BT.node (o46 P) (BT.node (o80 P) (zkA P) (zlQ P)) (zlP P))) (BT.node (o19 P) (BT.node (o35 P) (BT.node (o70 P) (BT.node (zil P) (zkz P) .nil) (zmC P)) (BT.node (Vi P) (zkx P) (zlO P))) (BT.node (o54 P) (BT.node (o88 P) (zkv P) (zlN P)) (BT.node (zb0 P) (zmz P) (BT.node (zd9 P) .nil .nil))))
def zku:=BT.node (zqs P) .nil .nil
def zkt:=BT.node (zqj P) .nil .nil
def zks:=BT.node (zbF P) (zkt P) .nil
def zkr:=BT.node (zqn P) .nil .nil
def zkq:=BT.node (zbQ P) (zkr P) .nil
def zkp:=BT.node (zhA P) .nil .nil
def zko:=BT.node (zhe P) .nil .nil
def zkn:=BT.node (zid P) (zko P) .nil
def zkm:=BT.node (zhp P) .nil .nil
def zkl:=BT.node (zih P) (zkm P) .nil
def zkk:=BT.node (zhD P) .nil .nil
def zkj:=BT.node (zhh P) .nil .nil
def zki:=BT.node (zbC P) (zkj P) .nil
def zkh:=BT.node (zhs P) .nil .nil
def zkg:=BT.node (zii P) (zkh P) .nil
def zkf:=BT.node (zqo P) .nil .nil
def zke:=BT.node (zha P) .nil .nil
def zkd:=BT.node (zia P) (zke P) .nil
def zkc:=BT.node (zhm P) .nil .nil
def zkb:=BT.node (zbI P) (zkc P) .nil
def zqM:=BT.node (o3 P) (BT.node (o13 P) (BT.node (o29 P) (BT.node (o64 P) (BT.node (zir P) (zkk P) .nil) (zmp P)) (BT.node (o98 P) (zki P) (zlH P))) (BT.node (o48 P) (BT.node (o82 P) (zkg P) (zlG P)) (zlF P))) (BT.node (o21 P) (BT.node (o37 P) (BT.node (o74 P) (BT.node (zbT P) (zkf P) .nil) (zmm P)) (BT.node (zak P) (zkd P) (zlE P))) (BT.node (o56 P) (BT.node (o90 P) (zkb P) (zlD P)) (BT.node (Ua P) (zmj P) (BT.node (zjr P) .nil .nil))))
def zqL:=BT.node (boot_o_6 P) (BT.node (boot_o_10 P) (BT.node (o9 P) (BT.node (o25 P) (BT.node (o60 P) (BT.node (ziu P) (zku P) .nil) (zmx P)) (BT.node (o94 P) (zks P) (zlM P))) (BT.node (o44 P) (BT.node (o78 P) (zkq P) (zmv P)) (zlL P))) (BT.node (o17 P) (BT.node (o33 P) (BT.node (o68 P) (BT.node (zim P) (zkp P) .nil) (zms P)) (BT.node (Vj P) (zkn P) (zlK P))) (BT.node (o52 P) (BT.node (o86 P) (zkl P) (zlJ P)) (zlI P)))) (zqM P)
def zka:=BT.node (boot_o_2 P) (BT.node (boot_o_4 P) (BT.node (boot_o_8 P) (BT.node (o7 P) (BT.node (o23 P) (BT.node (o58 P) (BT.node (zbY P) (zkQ P) .nil) (zmN P)) (BT.node (o92 P) (zkO P) (zlW P))) (BT.node (o42 P) (BT.node (o76 P) (zkM P) (zmL P)) (BT.node (Vf P) (zkK P) (zlV P)))) (BT.node (o15 P) (BT.node (o31 P) (BT.node (o66 P) (BT.node (zio P) (zkJ P) .nil) (zmI P)) (BT.node (Vl P) (zkH P) (zlU P))) (BT.node (o50 P) (BT.node (o84 P) (zkF P) (zlT P)) (zlS P)))) (zqN P)) (zqL P)
def zqK:=BT.node (boot_o_0 P) (BT.node (boot_o_1 P) (BT.node (zrr P) (zlq P) (zlf P)) (BT.node (boot_o_5 P) (BT.node (boot_o_9 P) (BT.node (o8 P) (zlb P) (BT.node (o43 P) (zk8 P) (zl5 P))) (zk2 P)) (zkR P))) (zka P)
def sb7 (w : World) (os : OsState) : SharedT:=⟨(zqK w.params),305,(Life.mk [] [] [] 0 [] [] false #[] [] 0 false false false 0 [2000,10,10] false 0 true [] [] 0 false),⟨[]⟩,(Drawn.mk 0 0 0 0),591,os⟩
def L6 (w : World) (os : OsState) : Option (Flow × SharedT × Code × Pos):=segRunT treeTable PySem.Challenge.pw_beatless_k10_texts_that_are_none w 11 an 1 485 (sb6 w os) (piecesOf zoV env cE (Pos.mk 67 0 80 64) B)
def R6 (w : World) (os : OsState) : Option (Flow × SharedT × Code × Pos):=some (.next,sb7 w os,cE,(Pos.mk 108 0 108 9))
theorem q6 : tt (Hd.L6,Hd.R6) = true:=by k_qdec
theorem r6 : ∀ w,Fast.tw11518265509499319272 w = Fast.tw3345738777826418175 w:=fun w=>by kernel_rfl
theorem e6 (w : World) (os : OsState) : Hd.L6 w os = Hd.R6 w os :=
  (congrFun (congrFun Fast.te11518265509499319272 w) os).trans ((congrFun (r6 w) os).trans (congrFun (congrFun Fast.te3345738777826418175 w) os).symm)
def zoU : List Stmt:=[S 22]
def zrp:=Obj.mk (.type "dict") .none (Data.dict #[en P "__name__" 165 (.str "beatless.programs" 551),en P "__doc__" 166 .none,en P "__package__" 167 .none,en P "__loader__" 168 (.builtin "__main__.__loader__#opaque"),en P "__spec__" 169 .none,en P "__annotations__" 170 (.ref 6),en P "__builtins__" 171 (.ref 4),en P "__file__" 173 (.str "/claim/cut.py" 172),en P "__cached__" 174 .none,en P "_wall" 193 (.ref 21),en P "BeatlessError" 213 (.ref 31),en P "NoWeb" 229 (.ref 44),en P "NoProgram" 245 (.ref 56),en P "NoText" 270 (.ref 75),en P "Expr" 292 (.ref 87),en P "Num" 339 (.ref 129),en P "Name" 386 (.ref 169),en P "Two" 439 (.ref 209),en P "Mod" 488 (.ref 249),en P "Less" 541 (.ref 289),en P "is_whole" 550 (.ref 298),en P "START_NAMES" 555 (.ref 299),en P "SEND_NAMES" 561 (.ref 300),en P "RENEW_NAMES" 570 (.ref 301),en P "ALL_NAMES" 580 (.ref 302),en P "TWO_WORDS" 585 (.ref 303),en P "ROW_WORDS" 590 (.ref 304),en P "PARTS" 609 (.ref 305)] 28) #[]
def zg7:=Obj.mk (.type "dict") .none (Data.dict #[en P "add" 591 (.int 2 592),en P "sub" 593 (.int 2 594),en P "min" 595 (.int 2 596),en P "max" 597 (.int 2 598),en P "mod" 599 (.int 2 600),en P "less" 601 (.int 4 602)] 6) #[]
def zj9:=BT.node (zg7 P) .nil .nil
def zj8:=BT.node (zh7 P) (zj9 P) .nil
def zqJ:=BT.node (boot_o_0 P) (BT.node (boot_o_1 P) (BT.node (zrp P) (zlq P) (zlf P)) (BT.node (boot_o_5 P) (BT.node (boot_o_9 P) (BT.node (o8 P) (zlb P) (BT.node (o43 P) (zk8 P) (BT.node (Ve P) (zj8 P) (zl6 P)))) (zk2 P)) (zkR P))) (zka P)
def sb8 (w : World) (os : OsState) : SharedT:=⟨(zqJ w.params),306,(Life.mk [] [] [] 0 [] [] false #[] [] 0 false false false 0 [2000,10,10] false 0 true [] [] 0 false),⟨[]⟩,(Drawn.mk 0 0 0 0),610,os⟩
def L7 (w : World) (os : OsState) : Option (Flow × SharedT × Code × Pos):=segRunT treeTable PySem.Challenge.pw_beatless_k10_texts_that_are_none w 11 an 1 101 (sb7 w os) (piecesOf zoU env cE (Pos.mk 108 0 108 9) B)
def R7 (w : World) (os : OsState) : Option (Flow × SharedT × Code × Pos):=some (.next,sb8 w os,cE,(Pos.mk 109 0 109 5))
theorem q7 : tt (Hd.L7,Hd.R7) = true:=by k_qdec
theorem r7 : ∀ w,Fast.tw9490284035958612641 w = Fast.tw15626045330170987150 w:=PySem.W.byRow2 (P:=fun w=>Fast.tw9490284035958612641 w = Fast.tw15626045330170987150 w) "special-get-raises" (fun w=>by kernel_rfl) (fun w=>by kernel_rfl)
theorem e7 (w : World) (os : OsState) : Hd.L7 w os = Hd.R7 w os :=
  (congrFun (congrFun Fast.te9490284035958612641 w) os).trans ((congrFun (r7 w) os).trans (congrFun (congrFun Fast.te15626045330170987150 w) os).symm)
def zoT : List Stmt:=[S 23,S 24,S 25,S 26,S 27,S 28,S 29,S 30,S 31,S 32,S 33,S 34]
def zro:=Obj.mk (.type "dict") .none (Data.dict #[en P "__name__" 165 (.str "beatless.programs" 551),en P "__doc__" 166 .none,en P "__package__" 167 .none,en P "__loader__" 168 (.builtin "__main__.__loader__#opaque"),en P "__spec__" 169 .none,en P "__annotations__" 170 (.ref 6),en P "__builtins__" 171 (.ref 4),en P "__file__" 173 (.str "/claim/cut.py" 172),en P "__cached__" 174 .none,en P "_wall" 193 (.ref 21),en P "BeatlessError" 213 (.ref 31),en P "NoWeb" 229 (.ref 44),en P "NoProgram" 245 (.ref 56),en P "NoText" 270 (.ref 75),en P "Expr" 292 (.ref 87),en P "Num" 339 (.ref 129),en P "Name" 386 (.ref 169),en P "Two" 439 (.ref 209),en P "Mod" 488 (.ref 249),en P "Less" 541 (.ref 289),en P "is_whole" 550 (.ref 298),en P "START_NAMES" 555 (.ref 299),en P "SEND_NAMES" 561 (.ref 300),en P "RENEW_NAMES" 570 (.ref 301),en P "ALL_NAMES" 580 (.ref 302),en P "TWO_WORDS" 585 (.ref 303),en P "ROW_WORDS" 590 (.ref 304),en P "PARTS" 609 (.ref 305),en P "FIGURES" 611 (.str "0123456789" 610),en P "MOST_WORDS" 613 (.int 60 612),en P "MOST_DEEP" 615 (.int 8 614),en P "is_short_number" 622 (.ref 312),en P "is_word_of" 630 (.ref 319),en P "is_divisor" 637 (.ref 326),en P "are_sound" 647 (.ref 333),en P "is_sound" 656 (.ref 340),en P "count_words" 662 (.ref 345),en P "Program" 730 (.ref 383),en P "program_text" 736 (.ref 392),en P "is_number_word" 745 (.ref 399)] 40) #[]
def zrn (P : Params):=vO #[(.int 1 0),(.int 0 0),(.ref 20),(.int 5 0),(.int 0 0),(.ref 27),(.int 7 0),(.int 0 0),(.ref 40),(.int 9 0),(.int 0 0),(.ref 52),(.int 11 0),(.int 0 0),(.ref 64),(.int 16 0),(.int 0 0),(.ref 83),(.int 18 0),(.int 0 0),(.ref 97),(.int 31 0),(.int 0 0),(.ref 137),(.int 44 0),(.int 0 0),(.ref 177),(.int 67 0),(.int 0 0),(.ref 217),(.int 81 0),(.int 0 0),(.ref 257),(.int 100 0),(.int 0 0),(.ref 297),(.int 113 0),(.int 0 0),(.ref 311),(.int 115 0),(.int 0 0),(.ref 318),(.int 117 0),(.int 0 0),(.ref 325),(.int 119 0),(.int 0 0),(.ref 332),(.int 124 0),(.int 0 0),(.ref 339),(.int 138 0),(.int 0 0),(.ref 344),(.int 140 0),(.int 0 0),(.ref 351),(.int 164 0),(.int 0 0),(.ref 391),(.int 167 0),(.int 0 0),(.ref 398)]
def zg6 (P : Params):=tO #[]
def zqf (P : Params):=vO #[]
def zg5 (P : Params):=tO #[(.str "value" 619)]
def zg4 (P : Params):=tO #[]
def zqe (P : Params):=gO "is_short_number" "is_short_number" (S 26)
def zg3 (P : Params):=cO "is_short_number" "is_short_number" 616 617 618 113 1 3 306 307 308 309 310 620 621
def zg2 (P : Params):=uO "is_short_number" "is_short_number" (S 26) "beatless.programs" 551 311
def zg1 (P : Params):=tO #[]
def zqd (P : Params):=vO #[]
def zg0 (P : Params):=tO #[(.str "word" 626),(.str "words" 627)]
def zgZ (P : Params):=tO #[]
def zqc (P : Params):=gO "is_word_of" "is_word_of" (S 27)
def zgY (P : Params):=cO "is_word_of" "is_word_of" 623 624 625 115 2 3 313 314 315 316 317 628 629
def zgX (P : Params):=uO "is_word_of" "is_word_of" (S 27) "beatless.programs" 551 318
def zgW (P : Params):=tO #[]
def zqb (P : Params):=vO #[]
def zgV (P : Params):=tO #[(.str "number" 634)]
def zgU (P : Params):=tO #[]
def zqa (P : Params):=gO "is_divisor" "is_divisor" (S 28)
def zgT (P : Params):=cO "is_divisor" "is_divisor" 631 632 633 117 1 3 320 321 322 323 324 635 636
def zgS (P : Params):=uO "is_divisor" "is_divisor" (S 28) "beatless.programs" 551 325
def zgR (P : Params):=tO #[]
def zp9 (P : Params):=vO #[]
def zgQ (P : Params):=tO #[(.str "parts" 641),(.str "names" 642),(.str "deep" 643),(.str "part" 644)]
def zgP (P : Params):=tO #[]
def zp8 (P : Params):=gO "are_sound" "are_sound" (S 29)
def zgO (P : Params):=cO "are_sound" "are_sound" 638 639 640 119 3 3 327 328 329 330 331 645 646
def zgN (P : Params):=uO "are_sound" "are_sound" (S 29) "beatless.programs" 551 332
def zgM (P : Params):=tO #[]
def zp7 (P : Params):=vO #[]
def zgL (P : Params):=tO #[(.str "expr" 651),(.str "names" 652),(.str "deep" 653)]
def zgK (P : Params):=tO #[]
def zp6 (P : Params):=gO "is_sound" "is_sound" (S 30)
def zgJ (P : Params):=cO "is_sound" "is_sound" 648 649 650 124 3 3 334 335 336 337 338 654 655
def zgI (P : Params):=uO "is_sound" "is_sound" (S 30) "beatless.programs" 551 339
def zgH (P : Params):=tO #[]
def zp5 (P : Params):=vO #[]
def zp4 (P : Params):=gO "count_words" "count_words" (S 31)
def zgG (P : Params):=Obj.mk (.type "code") .none (Data.fields #[(.str "count_words" 657),(.str "count_words" 658),(.str "/claim/cut.py" 659),(.int 138 0),(.int 1 0),(.int 0 0),(.int 0 0),(.int 3 0),(.ref 341),(.bool true),(.int 181 0),(.ref 342),.none,.none,.none,(.ref 343),(.int 660 0),(.int 138 0),(.str "/claim/cut.py" 661)]) #[]
def zgF (P : Params):=uO "count_words" "count_words" (S 31) "beatless.programs" 551 344
def zp3 (P : Params):=tO #[]
def zp2 (P : Params):=Obj.mk (.type "builtin_function_or_method") .none (Data.fields #[(.builtin "type.__prepare__"),(.type "type")]) #[]
def zp1:=Obj.mk (.type "dict") .none (Data.dict #[en P "__module__" 670 (.str "beatless.programs" 551),en P "__qualname__" 672 (.str "Program" 671),en P "__firstlineno__" 674 (.int 140 673),en P "__init__" 685 (.ref 359),en P "first_worth" 694 (.ref 366),en P "word_to" 706 (.ref 373),en P "next_worth" 718 (.ref 380),en P "__static_attributes__" 723 (.ref 381)] 8) #[]
def zp0 (P : Params):=tO #[]
def zpZ (P : Params):=vO #[(.int 142 0),(.int 4 0),(.ref 358),(.int 156 0),(.int 4 0),(.ref 365),(.int 159 0),(.int 4 0),(.ref 372),(.int 162 0),(.int 4 0),(.ref 379)]
def zpY (P : Params):=Obj.mk (.type "code") .none (Data.fields #[(.str "Program" 665),(.str "Program" 666),(.str "/claim/cut.py" 667),(.int 140 0),(.int 0 0),(.int 0 0),(.int 0 0),(.int 0 0),(.ref 349),(.bool false),(.int 181 0),(.ref 350),.none,.none,.none,.none,(.int 668 0),(.int 140 0),(.str "/claim/cut.py" 669)]) #[]
def zpX (P : Params):=Obj.mk (.type "frame") .none Data.plain #[(Option.some (.ref 351)),(Option.some (.ref 3)),(Option.some (.ref 348)),.none,(Option.some (.str "beatless.programs" 551)),.none,(Option.some (.ref 0))]
def zgE (P : Params):=tO #[]
def zpW (P : Params):=vO #[]
def zgD (P : Params):=tO #[(.str "self" 678),(.str "start" 679),(.str "send" 680),(.str "when" 681),(.str "renew" 682)]
def zgC (P : Params):=tO #[]
def zpV (P : Params):=gO "__init__" "Program.__init__" (L2.inClass (S 32) 0)
def zgB (P : Params):=cO "__init__" "Program.__init__" 675 676 677 142 5 3 353 354 355 356 357 683 684
def zgA (P : Params):=uO "__init__" "Program.__init__" (L2.inClass (S 32) 0) "beatless.programs" 551 358
def zgz (P : Params):=tO #[]
def zpU (P : Params):=vO #[]
def zgy (P : Params):=tO #[(.str "self" 689),(.str "hand" 690),(.str "lines" 691)]
def zgx (P : Params):=tO #[]
def zpT (P : Params):=gO "first_worth" "Program.first_worth" (L2.inClass (S 32) 1)
def zgw (P : Params):=cO "first_worth" "Program.first_worth" 686 687 688 156 3 3 360 361 362 363 364 692 693
def zgv (P : Params):=uO "first_worth" "Program.first_worth" (L2.inClass (S 32) 1) "beatless.programs" 551 365
def zgu (P : Params):=tO #[]
def zpS (P : Params):=vO #[]
def zgt (P : Params):=tO #[(.str "self" 698),(.str "worth" 699),(.str "hand" 700),(.str "turn" 701),(.str "lines" 702),(.str "other" 703)]
def zgs (P : Params):=tO #[]
def zpR (P : Params):=gO "word_to" "Program.word_to" (L2.inClass (S 32) 2)
def zgr (P : Params):=cO "word_to" "Program.word_to" 695 696 697 159 6 3 367 368 369 370 371 704 705
def zgq (P : Params):=uO "word_to" "Program.word_to" (L2.inClass (S 32) 2) "beatless.programs" 551 372
def zgp (P : Params):=tO #[]
def zpQ (P : Params):=vO #[]
def zgo (P : Params):=tO #[(.str "self" 710),(.str "worth" 711),(.str "hand" 712),(.str "turn" 713),(.str "lines" 714),(.str "heard" 715)]
def zgn (P : Params):=tO #[]
def zpP (P : Params):=gO "next_worth" "Program.next_worth" (L2.inClass (S 32) 3)
def zgm (P : Params):=cO "next_worth" "Program.next_worth" 707 708 709 162 6 3 374 375 376 377 378 716 717
def zgl (P : Params):=uO "next_worth" "Program.next_worth" (L2.inClass (S 32) 3) "beatless.programs" 551 379
def zgk (P : Params):=tO #[(.str "renew" 719),(.str "send" 720),(.str "start" 721),(.str "when" 722)]
def zgj:=Obj.mk (.type "dict") .none (Data.dict #[en P "__module__" 670 (.str "beatless.programs" 551),en P "__firstlineno__" 674 (.int 140 673),en P "__init__" 685 (.ref 359),en P "first_worth" 694 (.ref 366),en P "word_to" 706 (.ref 373),en P "next_worth" 718 (.ref 380),en P "__static_attributes__" 723 (.ref 381),en P "__dict__" 725 (.ref 384),en P "__weakref__" 727 (.ref 385),en P "__doc__" 728 .none] 4) #[]
def zgi (P : Params):=Obj.mk (.type "type") .none (Data.cls (ClassData.mk "Program" [(.type "object")] [(.ref 383),(.type "object")] 382 "Program" true [] [] false .none false)) #[.none,.none,(Option.some (.str "Program" 663)),(Option.some (.str "Program" 671)),(Option.some (.builtin "object.__new__")),(Option.some (.bool true))]
def zgh (P : Params):=Obj.mk (.type "getset_descriptor") .none (Data.fields #[(.str "__dict__" 724),(.ref 383),(.builtin "function.__dict__"),(.builtin "function.__dict__#set")]) #[]
def zgg (P : Params):=Obj.mk (.type "getset_descriptor") .none (Data.fields #[(.str "__weakref__" 726),(.ref 383),(.builtin "ExceptionGroup.__weakref__"),.none]) #[]
def zpO (P : Params):=Obj.mk (.type "super") .none (Data.fields #[(.ref 383),(.ref 383),(.ref 383)]) #[]
def zpN (P : Params):=Obj.mk (.type "builtin_function_or_method") .none (Data.fields #[(.builtin "object.__init_subclass__"),(.ref 383)]) #[]
def zgf (P : Params):=tO #[]
def zpM (P : Params):=vO #[]
def zpL (P : Params):=gO "program_text" "program_text" (S 33)
def zge (P : Params):=Obj.mk (.type "code") .none (Data.fields #[(.str "program_text" 731),(.str "program_text" 732),(.str "/claim/cut.py" 733),(.int 164 0),(.int 1 0),(.int 0 0),(.int 0 0),(.int 3 0),(.ref 388),(.bool true),(.int 181 0),(.ref 389),.none,.none,.none,(.ref 390),(.int 734 0),(.int 164 0),(.str "/claim/cut.py" 735)]) #[]
def zgd (P : Params):=uO "program_text" "program_text" (S 33) "beatless.programs" 551 391
def zgc (P : Params):=tO #[]
def zpK (P : Params):=vO #[]
def zgb (P : Params):=tO #[(.str "word" 740),(.str "figures" 741),(.str "figure" 742)]
def zga (P : Params):=tO #[]
def zpJ (P : Params):=gO "is_number_word" "is_number_word" (S 34)
def zf9 (P : Params):=cO "is_number_word" "is_number_word" 737 738 739 167 1 3 393 394 395 396 397 743 744
def zf8 (P : Params):=uO "is_number_word" "is_number_word" (S 34) "beatless.programs" 551 398
def zj7:=BT.node (zbZ P) (zlC P) (BT.node (zgi P) .nil .nil)
def zj6:=BT.node (zgX P) .nil .nil
def zj5:=BT.node (zpY P) .nil .nil
def zj4:=BT.node (zik P) (zlz P) (BT.node (zf8 P) .nil .nil)
def zj3:=BT.node (zp7 P) .nil .nil
def zj2:=BT.node (zgu P) .nil .nil
def zj1:=BT.node (ziq P) (zlw P) (BT.node (zge P) .nil .nil)
def zj0:=BT.node (zgR P) .nil .nil
def zjZ:=BT.node (zgA P) .nil .nil
def zjY:=BT.node (zp4 P) .nil .nil
def zjX:=BT.node (zg3 P) .nil .nil
def zjW:=BT.node (zpQ P) .nil .nil
def zqI:=BT.node (boot_o_7 P) (BT.node (o6 P) (BT.node (o40 P) (BT.node (o57 P) (zj7 P) (BT.node (zbp P) (zj6 P) .nil)) (BT.node (o91 P) (zlA P) (BT.node (zhO P) (zj5 P) .nil))) (BT.node (o41 P) (BT.node (o75 P) (zj4 P) (BT.node (zbd P) (zj3 P) .nil)) (BT.node (Vg P) (zlx P) (BT.node (zaV P) (zj2 P) .nil)))) (BT.node (o14 P) (BT.node (o30 P) (BT.node (o65 P) (zj1 P) (BT.node (zbj P) (zj0 P) .nil)) (BT.node (o99 P) (zlu P) (BT.node (za1 P) (zjZ P) .nil))) (BT.node (o49 P) (BT.node (zaM P) (zlr P) (BT.node (zhT P) (zjY P) .nil)) (BT.node (Uf P) (BT.node (zh4 P) (zjX P) .nil) (BT.node (zaP P) (zjW P) .nil))))
def zjV:=BT.node (zit P) (zlp P) (BT.node (zpN P) .nil .nil)
def zjU:=BT.node (zgU P) .nil .nil
def zjT:=BT.node (zgD P) .nil .nil
def zjS:=BT.node (zgJ P) .nil .nil
def zjR:=BT.node (zqf P) .nil .nil
def zjQ:=BT.node (zpR P) .nil .nil
def zjP:=BT.node (zbV P) (zlk P) (BT.node (zgb P) .nil .nil)
def zjO:=BT.node (zp8 P) .nil .nil
def zjN:=BT.node (zgx P) .nil .nil
def zjM:=BT.node (zp2 P) .nil .nil
def zjL:=BT.node (zg0 P) .nil .nil
def zjK:=BT.node (zgm P) .nil .nil
def zqH:=BT.node (o18 P) (BT.node (o34 P) (BT.node (o69 P) (zjP P) (BT.node (zbg P) (zjO P) .nil)) (BT.node (zal P) (zli P) (BT.node (zaY P) (zjN P) .nil))) (BT.node (o53 P) (BT.node (o87 P) (zlg P) (BT.node (za9 P) (zjM P) .nil)) (BT.node (Uc P) (BT.node (zh3 P) (zjL P) .nil) (BT.node (zhG P) (zjK P) .nil)))
def zdo:=BT.node (zbX P) (zle P) (BT.node (zgg P) .nil .nil)
def zdn:=BT.node (zqb P) .nil .nil
def zdm:=BT.node (zgE P) .nil .nil
def zdl:=BT.node (zgK P) .nil .nil
def zdk:=BT.node (zgt P) .nil .nil
def zdj:=BT.node (zin P) (zk7 P) (BT.node (zgc P) .nil .nil)
def zdi:=BT.node (zgQ P) .nil .nil
def zdh:=BT.node (zpU P) .nil .nil
def zdg:=BT.node (zgF P) .nil .nil
def zdf:=BT.node (zg1 P) .nil .nil
def zde:=BT.node (zgn P) .nil .nil
def zi1:=BT.node (boot_o_9 P) (BT.node (o8 P) (BT.node (o24 P) (BT.node (o59 P) (zdo P) (BT.node (zbn P) (zdn P) .nil)) (BT.node (o93 P) (zlc P) (BT.node (za5 P) (zdm P) .nil))) (BT.node (o43 P) (BT.node (o77 P) (zk9 P) (BT.node (zbb P) (zdl P) .nil)) (BT.node (Ve P) (zj8 P) (BT.node (zhJ P) (zdk P) .nil)))) (BT.node (o16 P) (BT.node (o32 P) (BT.node (o67 P) (zdj P) (BT.node (zhZ P) (zdi P) .nil)) (BT.node (Vk P) (zk5 P) (BT.node (zaZ P) (zdh P) .nil))) (BT.node (o51 P) (BT.node (o85 P) (zk3 P) (BT.node (zhR P) (zdg P) .nil)) (BT.node (zb1 P) (BT.node (zbt P) (zdf P) .nil) (BT.node (zaN P) (zde P) .nil))))
def zdd:=BT.node (zis P) (zk1 P) (BT.node (zpM P) .nil .nil)
def zdc:=BT.node (zgT P) .nil .nil
def zdb:=BT.node (zpV P) .nil .nil
def zda:=BT.node (zgH P) .nil .nil
def zc9:=BT.node (zg4 P) .nil .nil
def zc8:=BT.node (zgq P) .nil .nil
def zc7:=BT.node (zbU P) (zkW P) (BT.node (zpJ P) .nil .nil)
def zc6:=BT.node (zgN P) .nil .nil
def zc5:=BT.node (zgw P) .nil .nil
def zc4:=BT.node (zp0 P) .nil .nil
def zc3:=BT.node (zqc P) .nil .nil
def zc2:=BT.node (zjs P) (BT.node (zgk P) .nil .nil) .nil
def zi0:=BT.node (o2 P) (BT.node (o12 P) (BT.node (o28 P) (BT.node (o63 P) (zdd P) (BT.node (zh0 P) (zdc P) .nil)) (BT.node (o97 P) (zkZ P) (BT.node (za2 P) (zdb P) .nil))) (BT.node (o47 P) (BT.node (o81 P) (zkX P) (BT.node (zhV P) (zda P) .nil)) (BT.node (zb2 P) (BT.node (zbw P) (zc9 P) .nil) (BT.node (zaR P) (zc8 P) .nil)))) (BT.node (o20 P) (BT.node (o36 P) (BT.node (o71 P) (zc7 P) (BT.node (zbf P) (zc6 P) .nil)) (BT.node (Vh P) (zkU P) (BT.node (zhK P) (zc5 P) .nil))) (BT.node (o55 P) (BT.node (o89 P) (zkS P) (BT.node (za8 P) (zc4 P) .nil)) (BT.node (Ub P) (BT.node (zbq P) (zc3 P) .nil) (zc2 P))))
def zc1:=BT.node (zbY P) (zkQ P) (BT.node (zgh P) .nil .nil)
def zc0:=BT.node (zgW P) .nil .nil
def zcZ:=BT.node (zpX P) .nil .nil
def zcY:=BT.node (zgL P) .nil .nil
def zcX:=BT.node (zpS P) .nil .nil
def zcW:=BT.node (zio P) (zkJ P) (BT.node (zgd P) .nil .nil)
def zcV:=BT.node (zp9 P) .nil .nil
def zcU:=BT.node (zgz P) .nil .nil
def zcT:=BT.node (zgG P) .nil .nil
def zcS:=BT.node (zg2 P) .nil .nil
def zcR:=BT.node (zgo P) .nil .nil
def ziZ:=BT.node (boot_o_8 P) (BT.node (o7 P) (BT.node (o23 P) (BT.node (o58 P) (zc1 P) (BT.node (zbo P) (zc0 P) .nil)) (BT.node (o92 P) (zkO P) (BT.node (za6 P) (zcZ P) .nil))) (BT.node (o42 P) (BT.node (o76 P) (zkM P) (BT.node (zbc P) (zcY P) .nil)) (BT.node (Vf P) (zkK P) (BT.node (zaU P) (zcX P) .nil)))) (BT.node (o15 P) (BT.node (o31 P) (BT.node (o66 P) (zcW P) (BT.node (zbi P) (zcV P) .nil)) (BT.node (Vl P) (zkH P) (BT.node (za0 P) (zcU P) .nil))) (BT.node (o50 P) (BT.node (o84 P) (zkF P) (BT.node (zhS P) (zcT P) .nil)) (BT.node (Ue P) (BT.node (zbu P) (zcS P) .nil) (BT.node (zaO P) (zcR P) .nil))))
def zcQ:=BT.node (zbW P) (zkE P) (BT.node (zgf P) .nil .nil)
def zcP:=BT.node (zqa P) .nil .nil
def zcO:=BT.node (zgC P) .nil .nil
def zcN:=BT.node (zgI P) .nil .nil
def zcM:=BT.node (zg5 P) .nil .nil
def zcL:=BT.node (zgr P) .nil .nil
def zcK:=BT.node (zil P) (zkz P) (BT.node (zga P) .nil .nil)
def zcJ:=BT.node (zgO P) .nil .nil
def zcI:=BT.node (zpT P) .nil .nil
def zcH:=BT.node (zp1 P) .nil .nil
def zcG:=BT.node (zgZ P) .nil .nil
def zcF:=BT.node (zd9 P) (BT.node (zgl P) .nil .nil) .nil
def ziY:=BT.node (zrn P) (BT.node (o11 P) (BT.node (o27 P) (BT.node (o62 P) (zcQ P) (BT.node (zbl P) (zcP P) .nil)) (BT.node (o96 P) (zkC P) (BT.node (za3 P) (zcO P) .nil))) (BT.node (o46 P) (BT.node (o80 P) (zkA P) (BT.node (zba P) (zcN P) .nil)) (BT.node (Uh P) (BT.node (zh5 P) (zcM P) .nil) (BT.node (zhI P) (zcL P) .nil)))) (BT.node (o19 P) (BT.node (o35 P) (BT.node (o70 P) (zcK P) (BT.node (zhY P) (zcJ P) .nil)) (BT.node (Vi P) (zkx P) (BT.node (zaX P) (zcI P) .nil))) (BT.node (o54 P) (BT.node (o88 P) (zkv P) (BT.node (zhP P) (zcH P) .nil)) (BT.node (zb0 P) (BT.node (zbr P) (zcG P) .nil) (zcF P))))
def zcE:=BT.node (ziu P) (zku P) (BT.node (zpO P) .nil .nil)
def zcD:=BT.node (zgV P) .nil .nil
def zcC:=BT.node (zpW P) .nil .nil
def zcB:=BT.node (zp6 P) .nil .nil
def zcA:=BT.node (zg6 P) .nil .nil
def zcz:=BT.node (zgs P) .nil .nil
def zcy:=BT.node (zim P) (zkp P) (BT.node (zpK P) .nil .nil)
def zcx:=BT.node (zgP P) .nil .nil
def zcw:=BT.node (zgy P) .nil .nil
def zcv:=BT.node (zp3 P) .nil .nil
def zcu:=BT.node (zqd P) .nil .nil
def zct:=BT.node (zpP P) .nil .nil
def ziX:=BT.node (o17 P) (BT.node (o33 P) (BT.node (o68 P) (zcy P) (BT.node (zbh P) (zcx P) .nil)) (BT.node (Vj P) (zkn P) (BT.node (zhL P) (zcw P) .nil))) (BT.node (o52 P) (BT.node (o86 P) (zkl P) (BT.node (zhQ P) (zcv P) .nil)) (BT.node (Ud P) (BT.node (zbs P) (zcu P) .nil) (BT.node (zhH P) (zct P) .nil)))
def zcs:=BT.node (zir P) (zkk P) (BT.node (zpL P) .nil .nil)
def zcr:=BT.node (zgS P) .nil .nil
def zcq:=BT.node (zgB P) .nil .nil
def zcp:=BT.node (zp5 P) .nil .nil
def zco:=BT.node (zqe P) .nil .nil
def zcn:=BT.node (zgp P) .nil .nil
def zcm:=BT.node (zbT P) (zkf P) (BT.node (zf9 P) .nil .nil)
def zcl:=BT.node (zgM P) .nil .nil
def zck:=BT.node (zgv P) .nil .nil
def zcj:=BT.node (zpZ P) .nil .nil
def zci:=BT.node (zgY P) .nil .nil
def zch:=BT.node (zjr P) (BT.node (zgj P) .nil .nil) .nil
def ziW:=BT.node (o3 P) (BT.node (o13 P) (BT.node (o29 P) (BT.node (o64 P) (zcs P) (BT.node (zbk P) (zcr P) .nil)) (BT.node (o98 P) (zki P) (BT.node (zhM P) (zcq P) .nil))) (BT.node (o48 P) (BT.node (o82 P) (zkg P) (BT.node (zhU P) (zcp P) .nil)) (BT.node (Ug P) (BT.node (zbv P) (zco P) .nil) (BT.node (zaQ P) (zcn P) .nil)))) (BT.node (o21 P) (BT.node (o37 P) (BT.node (o74 P) (zcm P) (BT.node (zbe P) (zcl P) .nil)) (BT.node (zak P) (zkd P) (BT.node (zaW P) (zck P) .nil))) (BT.node (o56 P) (BT.node (o90 P) (zkb P) (BT.node (za7 P) (zcj P) .nil)) (BT.node (Ua P) (BT.node (zh2 P) (zci P) .nil) (zch P))))
def ziV:=BT.node (boot_o_2 P) (BT.node (boot_o_4 P) (ziZ P) (ziY P)) (BT.node (boot_o_6 P) (BT.node (boot_o_10 P) (BT.node (o9 P) (BT.node (o25 P) (BT.node (o60 P) (zcE P) (BT.node (zh1 P) (zcD P) .nil)) (BT.node (o94 P) (zks P) (BT.node (za4 P) (zcC P) .nil))) (BT.node (o44 P) (BT.node (o78 P) (zkq P) (BT.node (zhX P) (zcB P) .nil)) (BT.node (zb3 P) (BT.node (zh6 P) (zcA P) .nil) (BT.node (zaT P) (zcz P) .nil)))) (ziX P)) (ziW P))
def ziU:=BT.node (boot_o_0 P) (BT.node (boot_o_1 P) (BT.node (zro P) (zqI P) (BT.node (o0 P) (BT.node (o10 P) (BT.node (o26 P) (BT.node (o61 P) (zjV P) (BT.node (zbm P) (zjU P) .nil)) (BT.node (o95 P) (zln P) (BT.node (zhN P) (zjT P) .nil))) (BT.node (o45 P) (BT.node (o79 P) (zll P) (BT.node (zhW P) (zjS P) .nil)) (BT.node (Ui P) (BT.node (zbx P) (zjR P) .nil) (BT.node (zaS P) (zjQ P) .nil)))) (zqH P))) (BT.node (boot_o_5 P) (zi1 P) (zi0 P))) (ziV P)
def sb9 (w : World) (os : OsState) : SharedT:=⟨(ziU w.params),400,(Life.mk [] [] [] 0 [] [] false #[] [] 0 false false false 0 [2000,10,10] false 0 true [] [] 0 false),⟨[]⟩,(Drawn.mk 0 0 0 0),746,os⟩
def L8 (w : World) (os : OsState) : Option (Flow × SharedT × Code × Pos):=segRunT treeTable PySem.Challenge.pw_beatless_k10_texts_that_are_none w 11 an 1 595 (sb8 w os) (piecesOf zoT env cE (Pos.mk 109 0 109 5) B)
def R8 (w : World) (os : OsState) : Option (Flow × SharedT × Code × Pos):=some (.next,sb9 w os,cE,(Pos.mk 167 0 172 73))
theorem q8 : tt (Hd.L8,Hd.R8) = true:=by k_qdec
theorem r8 : ∀ w,Fast.tw7116466485190837356 w = Fast.tw7334724712773792873 w:=fun w=>by kernel_rfl
theorem e8 (w : World) (os : OsState) : Hd.L8 w os = Hd.R8 w os :=
  (congrFun (congrFun Fast.te7116466485190837356 w) os).trans ((congrFun (r8 w) os).trans (congrFun (congrFun Fast.te7334724712773792873 w) os).symm)
def zoS : List Stmt:=[S 35,S 36,S 37,S 38,S 39,S 40,S 41,S 42,S 43,S 44,S 45,S 46,S 47,S 48,S 49,S 50,S 51]
def zf7:=Obj.mk (.type "dict") .none (Data.dict #[en P "__name__" 165 (.str "law_beatless_k10_texts_that_are_none" 792),en P "__doc__" 166 .none,en P "__package__" 167 .none,en P "__loader__" 168 (.builtin "__main__.__loader__#opaque"),en P "__spec__" 169 .none,en P "__annotations__" 170 (.ref 6),en P "__builtins__" 171 (.ref 4),en P "__file__" 173 (.str "/claim/cut.py" 172),en P "__cached__" 174 .none,en P "_wall" 193 (.ref 21),en P "BeatlessError" 213 (.ref 31),en P "NoWeb" 229 (.ref 44),en P "NoProgram" 245 (.ref 56),en P "NoText" 270 (.ref 75),en P "Expr" 292 (.ref 87),en P "Num" 339 (.ref 129),en P "Name" 386 (.ref 169),en P "Two" 439 (.ref 209),en P "Mod" 488 (.ref 249),en P "Less" 541 (.ref 289),en P "is_whole" 550 (.ref 298),en P "START_NAMES" 555 (.ref 299),en P "SEND_NAMES" 561 (.ref 300),en P "RENEW_NAMES" 570 (.ref 301),en P "ALL_NAMES" 580 (.ref 302),en P "TWO_WORDS" 585 (.ref 303),en P "ROW_WORDS" 590 (.ref 304),en P "PARTS" 609 (.ref 305),en P "FIGURES" 611 (.str "0123456789" 610),en P "MOST_WORDS" 613 (.int 60 612),en P "MOST_DEEP" 615 (.int 8 614),en P "is_short_number" 622 (.ref 312),en P "is_word_of" 630 (.ref 319),en P "is_divisor" 637 (.ref 326),en P "are_sound" 647 (.ref 333),en P "is_sound" 656 (.ref 340),en P "count_words" 662 (.ref 345),en P "Program" 730 (.ref 383),en P "program_text" 736 (.ref 392),en P "is_number_word" 745 (.ref 399),en P "number_of" 752 (.ref 406),en P "read_part" 760 (.ref 413),en P "read_words" 770 (.ref 420),en P "read_row" 779 (.ref 427),en P "read_program" 791 (.ref 434),en P "_law_cell_at" 801 (.ref 441),en P "_law_digit" 812 (.ref 448),en P "_law_expr" 818 (.ref 453),en P "_law_made" 825 (.ref 460),en P "_law_fits" 835 (.ref 467),en P "_law_size" 841 (.ref 472),en P "_law_four" 854 (.ref 479),en P "_law_program" 861 (.ref 486),en P "_law_spoiled" 873 (.ref 493),en P "_law_row" 882 (.ref 500),en P "law" 895 (.ref 507)] 56) #[]
def zpI (P : Params):=vO #[(.int 1 0),(.int 0 0),(.ref 20),(.int 5 0),(.int 0 0),(.ref 27),(.int 7 0),(.int 0 0),(.ref 40),(.int 9 0),(.int 0 0),(.ref 52),(.int 11 0),(.int 0 0),(.ref 64),(.int 16 0),(.int 0 0),(.ref 83),(.int 18 0),(.int 0 0),(.ref 97),(.int 31 0),(.int 0 0),(.ref 137),(.int 44 0),(.int 0 0),(.ref 177),(.int 67 0),(.int 0 0),(.ref 217),(.int 81 0),(.int 0 0),(.ref 257),(.int 100 0),(.int 0 0),(.ref 297),(.int 113 0),(.int 0 0),(.ref 311),(.int 115 0),(.int 0 0),(.ref 318),(.int 117 0),(.int 0 0),(.ref 325),(.int 119 0),(.int 0 0),(.ref 332),(.int 124 0),(.int 0 0),(.ref 339),(.int 138 0),(.int 0 0),(.ref 344),(.int 140 0),(.int 0 0),(.ref 351),(.int 164 0),(.int 0 0),(.ref 391),(.int 167 0),(.int 0 0),(.ref 398),(.int 173 0),(.int 0 0),(.ref 405),(.int 175 0),(.int 0 0),(.ref 412),(.int 187 0),(.int 0 0),(.ref 419),(.int 195 0),(.int 0 0),(.ref 426),(.int 198 0),(.int 0 0),(.ref 433),(.int 212 0),(.int 0 0),(.ref 440),(.int 216 0),(.int 0 0),(.ref 447),(.int 229 0),(.int 0 0),(.ref 452),(.int 247 0),(.int 0 0),(.ref 459),(.int 257 0),(.int 0 0),(.ref 466),(.int 262 0),(.int 0 0),(.ref 471),(.int 266 0),(.int 0 0),(.ref 478),(.int 274 0),(.int 0 0),(.ref 485),(.int 276 0),(.int 0 0),(.ref 492),(.int 285 0),(.int 0 0),(.ref 499),(.int 294 0),(.int 0 0),(.ref 506)]
def zf6 (P : Params):=tO #[]
def zpH (P : Params):=vO #[]
def zf5 (P : Params):=tO #[(.str "word" 749)]
def zf4 (P : Params):=tO #[]
def zpG (P : Params):=gO "number_of" "number_of" (S 35)
def zf3 (P : Params):=cO "number_of" "number_of" 746 747 748 173 1 3 400 401 402 403 404 750 751
def zf2 (P : Params):=uO "number_of" "number_of" (S 35) "beatless.programs" 551 405
def zf1 (P : Params):=tO #[]
def zpF (P : Params):=vO #[]
def zf0 (P : Params):=tO #[(.str "word" 756),(.str "parts" 757)]
def zfZ (P : Params):=tO #[]
def zpE (P : Params):=gO "read_part" "read_part" (S 36)
def zfY (P : Params):=cO "read_part" "read_part" 753 754 755 175 2 3 407 408 409 410 411 758 759
def zfX (P : Params):=uO "read_part" "read_part" (S 36) "beatless.programs" 551 412
def zfW (P : Params):=tO #[]
def zpD (P : Params):=vO #[]
def zfV (P : Params):=tO #[(.str "words" 764),(.str "parts" 765),(.str "word" 766),(.str "part" 767)]
def zfU (P : Params):=tO #[]
def zpC (P : Params):=gO "read_words" "read_words" (S 37)
def zfT (P : Params):=cO "read_words" "read_words" 761 762 763 187 1 3 414 415 416 417 418 768 769
def zfS (P : Params):=uO "read_words" "read_words" (S 37) "beatless.programs" 551 419
def zfR (P : Params):=tO #[]
def zpB (P : Params):=vO #[]
def zfQ (P : Params):=tO #[(.str "row" 774),(.str "first" 775),(.str "words" 776)]
def zfP (P : Params):=tO #[]
def zpA (P : Params):=gO "read_row" "read_row" (S 38)
def zfO (P : Params):=cO "read_row" "read_row" 771 772 773 195 2 3 421 422 423 424 425 777 778
def zfN (P : Params):=uO "read_row" "read_row" (S 38) "beatless.programs" 551 426
def zfM (P : Params):=tO #[]
def zpz (P : Params):=vO #[]
def zfL (P : Params):=tO #[(.str "text" 783),(.str "rows" 784),(.str "exprs" 785),(.str "at" 786),(.str "first" 787),(.str "expr" 788)]
def zfK (P : Params):=tO #[]
def zpy (P : Params):=gO "read_program" "read_program" (S 39)
def zfJ (P : Params):=cO "read_program" "read_program" 780 781 782 198 1 3 428 429 430 431 432 789 790
def zfI (P : Params):=uO "read_program" "read_program" (S 39) "beatless.programs" 551 433
def zfH (P : Params):=tO #[]
def zpx (P : Params):=vO #[]
def zfG (P : Params):=tO #[(.str "_law_script" 797),(.str "_law_k" 798)]
def zfF (P : Params):=tO #[]
def zpw (P : Params):=gO "_law_cell_at" "_law_cell_at" (S 41)
def zfE (P : Params):=cO "_law_cell_at" "_law_cell_at" 794 795 796 212 2 3 435 436 437 438 439 799 800
def zfD (P : Params):=uO "_law_cell_at" "_law_cell_at" (S 41) "law_beatless_k10_texts_that_are_none" 792 440
def zfC (P : Params):=tO #[]
def zpv (P : Params):=vO #[]
def zfB (P : Params):=tO #[(.str "_law_state" 805),(.str "_law_base" 806),(.str "_law_cell" 807),(.str "_law_found" 808),(.str "_law_number" 809)]
def zfA (P : Params):=tO #[]
def zpu (P : Params):=gO "_law_digit" "_law_digit" (S 42)
def zfz (P : Params):=cO "_law_digit" "_law_digit" 802 803 804 216 2 3 442 443 444 445 446 810 811
def zfy (P : Params):=uO "_law_digit" "_law_digit" (S 42) "law_beatless_k10_texts_that_are_none" 792 447
def zfx (P : Params):=tO #[]
def zpt (P : Params):=vO #[]
def zps (P : Params):=gO "_law_expr" "_law_expr" (S 43)
def zfw (P : Params):=Obj.mk (.type "code") .none (Data.fields #[(.str "_law_expr" 813),(.str "_law_expr" 814),(.str "/claim/cut.py" 815),(.int 229 0),(.int 3 0),(.int 0 0),(.int 0 0),(.int 3 0),(.ref 449),(.bool true),(.int 181 0),(.ref 450),.none,.none,.none,(.ref 451),(.int 816 0),(.int 229 0),(.str "/claim/cut.py" 817)]) #[]
def zfv (P : Params):=uO "_law_expr" "_law_expr" (S 43) "law_beatless_k10_texts_that_are_none" 792 452
def zfu (P : Params):=tO #[]
def zpr (P : Params):=vO #[]
def zft (P : Params):=tO #[(.str "_law_told" 822)]
def zfs (P : Params):=tO #[]
def zpq (P : Params):=gO "_law_made" "_law_made" (S 44)
def zfr (P : Params):=cO "_law_made" "_law_made" 819 820 821 247 1 3 454 455 456 457 458 823 824
def zfq (P : Params):=uO "_law_made" "_law_made" (S 44) "law_beatless_k10_texts_that_are_none" 792 459
def zfp (P : Params):=tO #[]
def zpp (P : Params):=vO #[]
def zfo (P : Params):=tO #[(.str "_law_state" 829),(.str "_law_names" 830),(.str "_law_deep" 831),(.str "_law_told" 832)]
def zfn (P : Params):=tO #[]
def zpo (P : Params):=gO "_law_fits" "_law_fits" (S 45)
def zfm (P : Params):=cO "_law_fits" "_law_fits" 826 827 828 257 3 3 461 462 463 464 465 833 834
def zfl (P : Params):=uO "_law_fits" "_law_fits" (S 45) "law_beatless_k10_texts_that_are_none" 792 466
def zfk (P : Params):=tO #[]
def zpn (P : Params):=vO #[]
def zpm (P : Params):=gO "_law_size" "_law_size" (S 46)
def zfj (P : Params):=Obj.mk (.type "code") .none (Data.fields #[(.str "_law_size" 836),(.str "_law_size" 837),(.str "/claim/cut.py" 838),(.int 262 0),(.int 1 0),(.int 0 0),(.int 0 0),(.int 3 0),(.ref 468),(.bool true),(.int 181 0),(.ref 469),.none,.none,.none,(.ref 470),(.int 839 0),(.int 262 0),(.str "/claim/cut.py" 840)]) #[]
def zfi (P : Params):=uO "_law_size" "_law_size" (S 46) "law_beatless_k10_texts_that_are_none" 792 471
def zfh (P : Params):=tO #[]
def zpl (P : Params):=vO #[]
def zfg (P : Params):=tO #[(.str "_law_state" 845),(.str "_law_ahead" 846),(.str "_law_at_send" 847),(.str "_law_at_end" 848),(.str "_law_start" 849),(.str "_law_send" 850),(.str "_law_when" 851)]
def zff (P : Params):=tO #[]
def zpk (P : Params):=gO "_law_four" "_law_four" (S 47)
def zfe (P : Params):=cO "_law_four" "_law_four" 842 843 844 266 1 3 473 474 475 476 477 852 853
def zfd (P : Params):=uO "_law_four" "_law_four" (S 47) "law_beatless_k10_texts_that_are_none" 792 478
def zfc (P : Params):=tO #[]
def zpj (P : Params):=vO #[]
def zfb (P : Params):=tO #[(.str "_law_four_here" 858)]
def zfa (P : Params):=tO #[]
def zpi (P : Params):=gO "_law_program" "_law_program" (S 48)
def ze9 (P : Params):=cO "_law_program" "_law_program" 855 856 857 274 1 3 480 481 482 483 484 859 860
def ze8 (P : Params):=uO "_law_program" "_law_program" (S 48) "law_beatless_k10_texts_that_are_none" 792 485
def ze7 (P : Params):=tO #[]
def zph (P : Params):=vO #[]
def ze6 (P : Params):=tO #[(.str "_law_row_here" 865),(.str "_law_cell" 866),(.str "_law_words" 867),(.str "_law_at" 868),(.str "_law_some" 869),(.str "_law_odd" 870)]
def ze5 (P : Params):=tO #[]
def zpg (P : Params):=gO "_law_spoiled" "_law_spoiled" (S 49)
def ze4 (P : Params):=cO "_law_spoiled" "_law_spoiled" 862 863 864 276 2 3 487 488 489 490 491 871 872
def ze3 (P : Params):=uO "_law_spoiled" "_law_spoiled" (S 49) "law_beatless_k10_texts_that_are_none" 792 492
def ze2 (P : Params):=tO #[]
def zpf (P : Params):=vO #[]
def ze1 (P : Params):=tO #[(.str "_law_text" 877),(.str "_law_row_here" 878),(.str "e" 879)]
def ze0 (P : Params):=tO #[]
def zpe (P : Params):=gO "_law_row" "_law_row" (S 50)
def zeZ (P : Params):=cO "_law_row" "_law_row" 874 875 876 285 1 3 494 495 496 497 498 880 881
def zeY (P : Params):=uO "_law_row" "_law_row" (S 50) "law_beatless_k10_texts_that_are_none" 792 499
def zeX (P : Params):=tO #[]
def zpd (P : Params):=vO #[]
def zeW (P : Params):=tO #[(.str "_law_script" 886),(.str "_law_rows" 887),(.str "_law_k" 888),(.str "_law_cell" 889),(.str "_law_at" 890),(.str "_law_bad" 891),(.str "_law_odd" 892)]
def zeV (P : Params):=tO #[]
def zpc (P : Params):=gO "law" "law" (S 51)
def zeU (P : Params):=cO "law" "law" 883 884 885 294 1 3 501 502 503 504 505 893 894
def zeT (P : Params):=uO "law" "law" (S 51) "law_beatless_k10_texts_that_are_none" 792 506
def ziT:=BT.node (o14 P) (BT.node (o30 P) (BT.node (o65 P) (zj1 P) (BT.node (zbj P) (zj0 P) (BT.node (zpr P) .nil .nil))) (BT.node (o99 P) (BT.node (zbB P) (zlv P) (BT.node (zfQ P) .nil .nil)) (BT.node (za1 P) (zjZ P) (BT.node (ze7 P) .nil .nil)))) (BT.node (o49 P) (BT.node (zaM P) (BT.node (zbN P) (zls P) (BT.node (zf1 P) .nil .nil)) (BT.node (zhT P) (zjY P) (BT.node (zfj P) .nil .nil))) (BT.node (Uf P) (BT.node (zh4 P) (zjX P) (BT.node (zpw P) .nil .nil)) (BT.node (zaP P) (zjW P) (BT.node (zeW P) .nil .nil))))
def ziS:=BT.node (o18 P) (BT.node (o34 P) (BT.node (o69 P) (zjP P) (BT.node (zbg P) (zjO P) (BT.node (zfr P) .nil .nil))) (BT.node (zal P) (BT.node (zic P) (zlj P) (BT.node (zfN P) .nil .nil)) (BT.node (zaY P) (zjN P) (BT.node (zpg P) .nil .nil)))) (BT.node (o53 P) (BT.node (o87 P) (BT.node (zbK P) (zlh P) (BT.node (zpE P) .nil .nil)) (BT.node (za9 P) (zjM P) (BT.node (zfg P) .nil .nil))) (BT.node (Uc P) (BT.node (zh3 P) (zjL P) (BT.node (zpv P) .nil .nil)) (BT.node (zhG P) (zjK P) (BT.node (zeT P) .nil .nil))))
def ziR:=BT.node (o0 P) (BT.node (o10 P) (BT.node (o26 P) (BT.node (o61 P) (zjV P) (BT.node (zbm P) (zjU P) (BT.node (zps P) .nil .nil))) (BT.node (o95 P) (BT.node (zbE P) (zlo P) (BT.node (zfT P) .nil .nil)) (BT.node (zhN P) (zjT P) (BT.node (zfa P) .nil .nil)))) (BT.node (o45 P) (BT.node (o79 P) (BT.node (zij P) (zlm P) (BT.node (zf4 P) .nil .nil)) (BT.node (zhW P) (zjS P) (BT.node (zfl P) .nil .nil))) (BT.node (Ui P) (BT.node (zbx P) (zjR P) (BT.node (zfH P) .nil .nil)) (BT.node (zaS P) (zjQ P) (BT.node (zeZ P) .nil .nil))))) (ziS P)
def ziQ:=BT.node (o16 P) (BT.node (o32 P) (BT.node (o67 P) (zdj P) (BT.node (zhZ P) (zdi P) (BT.node (zfs P) .nil .nil))) (BT.node (Vk P) (BT.node (zbz P) (zk6 P) (BT.node (zpA P) .nil .nil)) (BT.node (zaZ P) (zdh P) (BT.node (ze6 P) .nil .nil)))) (BT.node (o51 P) (BT.node (o85 P) (BT.node (zbL P) (zk4 P) (BT.node (zf0 P) .nil .nil)) (BT.node (zhR P) (zdg P) (BT.node (zfh P) .nil .nil))) (BT.node (zb1 P) (BT.node (zbt P) (zdf P) (BT.node (zfD P) .nil .nil)) (BT.node (zaN P) (zde P) (BT.node (zpc P) .nil .nil))))
def ziP:=BT.node (o20 P) (BT.node (o36 P) (BT.node (o71 P) (zc7 P) (BT.node (zbf P) (zc6 P) (BT.node (zfp P) .nil .nil))) (BT.node (Vh P) (BT.node (zib P) (zkV P) (BT.node (zpz P) .nil .nil)) (BT.node (zhK P) (zc5 P) (BT.node (ze3 P) .nil .nil)))) (BT.node (o55 P) (BT.node (o89 P) (BT.node (zig P) (zkT P) (BT.node (zfX P) .nil .nil)) (BT.node (za8 P) (zc4 P) (BT.node (zpk P) .nil .nil))) (BT.node (Ub P) (BT.node (zbq P) (zc3 P) (BT.node (zfA P) .nil .nil)) (zc2 P)))
def ziO:=BT.node (o2 P) (BT.node (o12 P) (BT.node (o28 P) (BT.node (o63 P) (zdd P) (BT.node (zh0 P) (zdc P) (BT.node (zfv P) .nil .nil))) (BT.node (o97 P) (BT.node (zbD P) (zk0 P) (BT.node (zfR P) .nil .nil)) (BT.node (za2 P) (zdb P) (BT.node (ze9 P) .nil .nil)))) (BT.node (o47 P) (BT.node (o81 P) (BT.node (zbO P) (zkY P) (BT.node (zf3 P) .nil .nil)) (BT.node (zhV P) (zda P) (BT.node (zpn P) .nil .nil))) (BT.node (zb2 P) (BT.node (zbw P) (zc9 P) (BT.node (zfG P) .nil .nil)) (BT.node (zaR P) (zc8 P) (BT.node (zeX P) .nil .nil))))) (ziP P)
def ziN:=BT.node (boot_o_5 P) (BT.node (boot_o_9 P) (BT.node (o8 P) (BT.node (o24 P) (BT.node (o59 P) (zdo P) (BT.node (zbn P) (zdn P) (BT.node (zfx P) .nil .nil))) (BT.node (o93 P) (BT.node (zif P) (zld P) (BT.node (zfU P) .nil .nil)) (BT.node (za5 P) (zdm P) (BT.node (zpj P) .nil .nil)))) (BT.node (o43 P) (BT.node (o77 P) (BT.node (zbR P) (zla P) (BT.node (zpH P) .nil .nil)) (BT.node (zbb P) (zdl P) (BT.node (zpo P) .nil .nil))) (BT.node (Ve P) (BT.node (zh7 P) (zj9 P) (BT.node (zfJ P) .nil .nil)) (BT.node (zhJ P) (zdk P) (BT.node (ze0 P) .nil .nil))))) (ziQ P)) (ziO P)
def ziM:=BT.node (o15 P) (BT.node (o31 P) (BT.node (o66 P) (zcW P) (BT.node (zbi P) (zcV P) (BT.node (zft P) .nil .nil))) (BT.node (Vl P) (BT.node (zbA P) (zkI P) (BT.node (zfP P) .nil .nil)) (BT.node (za0 P) (zcU P) (BT.node (zph P) .nil .nil)))) (BT.node (o50 P) (BT.node (o84 P) (BT.node (zbM P) (zkG P) (BT.node (zpF P) .nil .nil)) (BT.node (zhS P) (zcT P) (BT.node (zfi P) .nil .nil))) (BT.node (Ue P) (BT.node (zbu P) (zcS P) (BT.node (zfE P) .nil .nil)) (BT.node (zaO P) (zcR P) (BT.node (zeV P) .nil .nil))))
def ziL:=BT.node (o19 P) (BT.node (o35 P) (BT.node (o70 P) (zcK P) (BT.node (zhY P) (zcJ P) (BT.node (zfq P) .nil .nil))) (BT.node (Vi P) (BT.node (zby P) (zky P) (BT.node (zfM P) .nil .nil)) (BT.node (zaX P) (zcI P) (BT.node (ze4 P) .nil .nil)))) (BT.node (o54 P) (BT.node (o88 P) (BT.node (zbJ P) (zkw P) (BT.node (zfY P) .nil .nil)) (BT.node (zhP P) (zcH P) (BT.node (zff P) .nil .nil))) (BT.node (zb0 P) (BT.node (zbr P) (zcG P) (BT.node (zfB P) .nil .nil)) (zcF P)))
def ziK:=BT.node (zpI P) (BT.node (o11 P) (BT.node (o27 P) (BT.node (o62 P) (zcQ P) (BT.node (zbl P) (zcP P) (BT.node (zfw P) .nil .nil))) (BT.node (o96 P) (BT.node (zie P) (zkD P) (BT.node (zfS P) .nil .nil)) (BT.node (za3 P) (zcO P) (BT.node (zpi P) .nil .nil)))) (BT.node (o46 P) (BT.node (o80 P) (BT.node (zbP P) (zkB P) (BT.node (zpG P) .nil .nil)) (BT.node (zba P) (zcN P) (BT.node (zfk P) .nil .nil))) (BT.node (Uh P) (BT.node (zh5 P) (zcM P) (BT.node (zpx P) .nil .nil)) (BT.node (zhI P) (zcL P) (BT.node (zeY P) .nil .nil))))) (ziL P)
def ziJ:=BT.node (o17 P) (BT.node (o33 P) (BT.node (o68 P) (zcy P) (BT.node (zbh P) (zcx P) (BT.node (zpq P) .nil .nil))) (BT.node (Vj P) (BT.node (zid P) (zko P) (BT.node (zfO P) .nil .nil)) (BT.node (zhL P) (zcw P) (BT.node (ze5 P) .nil .nil)))) (BT.node (o52 P) (BT.node (o86 P) (BT.node (zih P) (zkm P) (BT.node (zfZ P) .nil .nil)) (BT.node (zhQ P) (zcv P) (BT.node (zpl P) .nil .nil))) (BT.node (Ud P) (BT.node (zbs P) (zcu P) (BT.node (zfC P) .nil .nil)) (BT.node (zhH P) (zct P) (BT.node (zeU P) .nil .nil))))
def ziI:=BT.node (o21 P) (BT.node (o37 P) (BT.node (o74 P) (zcm P) (BT.node (zbe P) (zcl P) (BT.node (zpp P) .nil .nil))) (BT.node (zak P) (BT.node (zia P) (zke P) (BT.node (zfL P) .nil .nil)) (BT.node (zaW P) (zck P) (BT.node (ze2 P) .nil .nil)))) (BT.node (o56 P) (BT.node (o90 P) (BT.node (zbI P) (zkc P) (BT.node (zfW P) .nil .nil)) (BT.node (za7 P) (zcj P) (BT.node (zfe P) .nil .nil))) (BT.node (Ua P) (BT.node (zh2 P) (zci P) (BT.node (zpu P) .nil .nil)) (zch P)))
def ziH:=BT.node (o3 P) (BT.node (o13 P) (BT.node (o29 P) (BT.node (o64 P) (zcs P) (BT.node (zbk P) (zcr P) (BT.node (zfu P) .nil .nil))) (BT.node (o98 P) (BT.node (zbC P) (zkj P) (BT.node (zpB P) .nil .nil)) (BT.node (zhM P) (zcq P) (BT.node (ze8 P) .nil .nil)))) (BT.node (o48 P) (BT.node (o82 P) (BT.node (zii P) (zkh P) (BT.node (zf2 P) .nil .nil)) (BT.node (zhU P) (zcp P) (BT.node (zpm P) .nil .nil))) (BT.node (Ug P) (BT.node (zbv P) (zco P) (BT.node (zfF P) .nil .nil)) (BT.node (zaQ P) (zcn P) (BT.node (zpd P) .nil .nil))))) (ziI P)
def ziG:=BT.node (boot_o_6 P) (BT.node (boot_o_10 P) (BT.node (o9 P) (BT.node (o25 P) (BT.node (o60 P) (zcE P) (BT.node (zh1 P) (zcD P) (BT.node (zpt P) .nil .nil))) (BT.node (o94 P) (BT.node (zbF P) (zkt P) (BT.node (zpC P) .nil .nil)) (BT.node (za4 P) (zcC P) (BT.node (zfb P) .nil .nil)))) (BT.node (o44 P) (BT.node (o78 P) (BT.node (zbQ P) (zkr P) (BT.node (zf5 P) .nil .nil)) (BT.node (zhX P) (zcB P) (BT.node (zfm P) .nil .nil))) (BT.node (zb3 P) (BT.node (zh6 P) (zcA P) (BT.node (zfI P) .nil .nil)) (BT.node (zaT P) (zcz P) (BT.node (zpe P) .nil .nil))))) (ziJ P)) (ziH P)
def ziF:=BT.node (boot_o_2 P) (BT.node (boot_o_4 P) (BT.node (boot_o_8 P) (BT.node (o7 P) (BT.node (o23 P) (BT.node (o58 P) (zc1 P) (BT.node (zbo P) (zc0 P) (BT.node (zfy P) .nil .nil))) (BT.node (o92 P) (BT.node (zbG P) (zkP P) (BT.node (zfV P) .nil .nil)) (BT.node (za6 P) (zcZ P) (BT.node (zfc P) .nil .nil)))) (BT.node (o42 P) (BT.node (o76 P) (BT.node (zbS P) (zkN P) (BT.node (zf6 P) .nil .nil)) (BT.node (zbc P) (zcY P) (BT.node (zfn P) .nil .nil))) (BT.node (Vf P) (BT.node (zh8 P) (zkL P) (BT.node (zpy P) .nil .nil)) (BT.node (zaU P) (zcX P) (BT.node (ze1 P) .nil .nil))))) (ziM P)) (ziK P)) (ziG P)
def ziE:=BT.node (boot_o_0 P) (BT.node (boot_o_1 P) (BT.node (zf7 P) (BT.node (boot_o_7 P) (BT.node (o6 P) (BT.node (o40 P) (BT.node (o57 P) (zj7 P) (BT.node (zbp P) (zj6 P) (BT.node (zfz P) .nil .nil))) (BT.node (o91 P) (BT.node (zbH P) (zlB P) (BT.node (zpD P) .nil .nil)) (BT.node (zhO P) (zj5 P) (BT.node (zfd P) .nil .nil)))) (BT.node (o41 P) (BT.node (o75 P) (zj4 P) (BT.node (zbd P) (zj3 P) (BT.node (zfo P) .nil .nil))) (BT.node (Vg P) (BT.node (zh9 P) (zly P) (BT.node (zfK P) .nil .nil)) (BT.node (zaV P) (zj2 P) (BT.node (zpf P) .nil .nil))))) (ziT P)) (ziR P)) (ziN P)) (ziF P)
def zo3 (w : World) (os : OsState) : SharedT:=⟨(ziE w.params),508,(Life.mk [] [] [] 0 [] [] false #[] [] 0 false false false 0 [2000,10,10] false 0 true [] [] 0 false),⟨[]⟩,(Drawn.mk 0 0 0 0),896,os⟩
def L9 (w : World) (os : OsState) : Option (Flow × SharedT × Code × Pos):=segRunT treeTable PySem.Challenge.pw_beatless_k10_texts_that_are_none w 11 an 1 506 (sb9 w os) (piecesOf zoS env cE (Pos.mk 167 0 172 73) B)
def R9 (w : World) (os : OsState) : Option (Flow × SharedT × Code × Pos):=some (.next,zo3 w os,cE,(Pos.mk 294 0 317 49))
theorem q9 : tt (Hd.L9,Hd.R9) = true:=by k_qdec
theorem r9 : ∀ w,Fast.tw16134767483146388640 w = Fast.tw11929225935839250262 w:=fun w=>by kernel_rfl
theorem e9 (w : World) (os : OsState) : Hd.L9 w os = Hd.R9 w os :=
  (congrFun (congrFun Fast.te16134767483146388640 w) os).trans ((congrFun (r9 w) os).trans (congrFun (congrFun Fast.te11929225935839250262 w) os).symm)
def h42 : List Obj:=zeV P :: zpc P :: zeU P :: zeT P :: []
def h41 : List Obj:=ze4 P :: ze3 P :: ze2 P :: zpf P :: ze1 P :: ze0 P :: zpe P :: zeZ P :: zeY P :: zeX P :: zpd P :: zeW P :: h42 P
def h40 : List Obj:=zfc P :: zpj P :: zfb P :: zfa P :: zpi P :: ze9 P :: ze8 P :: ze7 P :: zph P :: ze6 P :: ze5 P :: zpg P :: h41 P
def h39 : List Obj:=zfk P :: zpn P :: zpm P :: zfj P :: zfi P :: zfh P :: zpl P :: zfg P :: zff P :: zpk P :: zfe P :: zfd P :: h40 P
def h38 : List Obj:=zft P :: zfs P :: zpq P :: zfr P :: zfq P :: zfp P :: zpp P :: zfo P :: zfn P :: zpo P :: zfm P :: zfl P :: h39 P
def h37 : List Obj:=zfB P :: zfA P :: zpu P :: zfz P :: zfy P :: zfx P :: zpt P :: zps P :: zfw P :: zfv P :: zfu P :: zpr P :: h38 P
def h36 : List Obj:=zpy P :: zfJ P :: zfI P :: zfH P :: zpx P :: zfG P :: zfF P :: zpw P :: zfE P :: zfD P :: zfC P :: zpv P :: h37 P
def h35 : List Obj:=zfS P :: zfR P :: zpB P :: zfQ P :: zfP P :: zpA P :: zfO P :: zfN P :: zfM P :: zpz P :: zfL P :: zfK P :: h36 P
def h34 : List Obj:=zpF P :: zf0 P :: zfZ P :: zpE P :: zfY P :: zfX P :: zfW P :: zpD P :: zfV P :: zfU P :: zpC P :: zfT P :: h35 P
def h33 : List Obj:=zga P :: zpJ P :: zf9 P :: zf8 P :: zf6 P :: zpH P :: zf5 P :: zf4 P :: zpG P :: zf3 P :: zf2 P :: zf1 P :: h34 P
def h32 : List Obj:=zgh P :: zgg P :: zpO P :: zpN P :: zgf P :: zpM P :: zpL P :: zge P :: zgd P :: zgc P :: zpK P :: zgb P :: h33 P
def h31 : List Obj:=zgr P :: zgq P :: zgp P :: zpQ P :: zgo P :: zgn P :: zpP P :: zgm P :: zgl P :: zgk P :: zgj P :: zgi P :: h32 P
def h30 : List Obj:=zgz P :: zpU P :: zgy P :: zgx P :: zpT P :: zgw P :: zgv P :: zgu P :: zpS P :: zgt P :: zgs P :: zpR P :: h31 P
def h29 : List Obj:=zp1 P :: zp0 P :: zpZ P :: zpY P :: zpX P :: zgE P :: zpW P :: zgD P :: zgC P :: zpV P :: zgB P :: zgA P :: h30 P
def h28 : List Obj:=zgL P :: zgK P :: zp6 P :: zgJ P :: zgI P :: zgH P :: zp5 P :: zp4 P :: zgG P :: zgF P :: zp3 P :: zp2 P :: h29 P
def h27 : List Obj:=zqa P :: zgT P :: zgS P :: zgR P :: zp9 P :: zgQ P :: zgP P :: zp8 P :: zgO P :: zgN P :: zgM P :: zp7 P :: h28 P
def h26 : List Obj:=zg2 P :: zg1 P :: zqd P :: zg0 P :: zgZ P :: zqc P :: zgY P :: zgX P :: zgW P :: zqb P :: zgV P :: zgU P :: h27 P
def h25 : List Obj:=zhc P :: zhb P :: zha P :: zg9 P :: zg8 P :: zg7 P :: zg6 P :: zqf P :: zg5 P :: zg4 P :: zqe P :: zg3 P :: h26 P
def h24 : List Obj:=zhk P :: zhj P :: zqj P :: zqi P :: zhi P :: zqh P :: zhh P :: zhg P :: zqg P :: zhf P :: zhe P :: zhd P :: h25 P
def h23 : List Obj:=zht P :: zqm P :: zhs P :: zhr P :: zhq P :: zql P :: zhp P :: zho P :: zqk P :: zhn P :: zhm P :: zhl P :: h24 P
def h22 : List Obj:=zhC P :: zhB P :: zhA P :: zqp P :: zhz P :: zhy P :: zqo P :: zhx P :: zhw P :: zhv P :: zqn P :: zhu P :: h23 P
def h21 : List Obj:=zd9 P :: zjs P :: zjr P :: zqv P :: zqu P :: zqt P :: zqs P :: zhF P :: zqr P :: zhE P :: zhD P :: zqq P :: h22 P
def h20 : List Obj:=zaU P :: zhJ P :: zaT P :: zaS P :: zhI P :: zaR P :: zaQ P :: zaP P :: zaO P :: zaN P :: zhH P :: zhG P :: h21 P
def h19 : List Obj:=za3 P :: za2 P :: zhM P :: za1 P :: za0 P :: zaZ P :: zhL P :: zaY P :: zaX P :: zhK P :: zaW P :: zaV P :: h20 P
def h18 : List Obj:=zhS P :: zhR P :: zhQ P :: za9 P :: zhP P :: za8 P :: za7 P :: zhO P :: za6 P :: za5 P :: za4 P :: zhN P :: h19 P
def h17 : List Obj:=zhY P :: zbf P :: zbe P :: zbd P :: zbc P :: zbb P :: zhX P :: zhW P :: zba P :: zhV P :: zhU P :: zhT P :: h18 P
def h16 : List Obj:=zbo P :: zbn P :: zh1 P :: zbm P :: zbl P :: zh0 P :: zbk P :: zbj P :: zbi P :: zhZ P :: zbh P :: zbg P :: h17 P
def h15 : List Obj:=zh5 P :: zbw P :: zbv P :: zh4 P :: zbu P :: zbt P :: zbs P :: zh3 P :: zbr P :: zbq P :: zh2 P :: zbp P :: h16 P
def h14 : List Obj:=zbA P :: zbz P :: zid P :: zic P :: zby P :: zib P :: zia P :: zh9 P :: zh8 P :: zh7 P :: zh6 P :: zbx P :: h15 P
def h13 : List Obj:=zbJ P :: zig P :: zbI P :: zbH P :: zbG P :: zif P :: zbF P :: zbE P :: zie P :: zbD P :: zbC P :: zbB P :: h14 P
def h12 : List Obj:=zbS P :: zbR P :: zbQ P :: zij P :: zbP P :: zbO P :: zii P :: zbN P :: zbM P :: zbL P :: zih P :: zbK P :: h13 P
def h11 : List Obj:=zbW P :: zis P :: zir P :: ziq P :: zio P :: zin P :: zim P :: zbV P :: zil P :: zbU P :: zbT P :: zik P :: h12 P
def h10 : List Obj:=Ue P :: zb1 P :: Ud P :: Uc P :: zb0 P :: Ub P :: Ua P :: zbZ P :: zbY P :: zbX P :: ziu P :: zit P :: h11 P
def h9 : List Obj:=Vi P :: Vh P :: zak P :: Vg P :: Vf P :: Ve P :: zb3 P :: Ui P :: Uh P :: zb2 P :: Ug P :: Uf P :: h10 P
def h8 : List Obj:=o92 P :: o93 P :: o94 P :: o95 P :: o96 P :: o97 P :: o98 P :: o99 P :: Vl P :: Vk P :: Vj P :: zal P :: h9 P
def h7 : List Obj:=o80 P :: o81 P :: o82 P :: zaM P :: o84 P :: o85 P :: o86 P :: o87 P :: o88 P :: o89 P :: o90 P :: o91 P :: h8 P
def h6 : List Obj:=o66 P :: o67 P :: o68 P :: o69 P :: o70 P :: o71 P :: o74 P :: o75 P :: o76 P :: o77 P :: o78 P :: o79 P :: h7 P
def h5 : List Obj:=o54 P :: o55 P :: o56 P :: o57 P :: o58 P :: o59 P :: o60 P :: o61 P :: o62 P :: o63 P :: o64 P :: o65 P :: h6 P
def h4 : List Obj:=o42 P :: o43 P :: o44 P :: o45 P :: o46 P :: o47 P :: o48 P :: o49 P :: o50 P :: o51 P :: o52 P :: o53 P :: h5 P
def h3 : List Obj:=o27 P :: o28 P :: o29 P :: o30 P :: o31 P :: o32 P :: o33 P :: o34 P :: o35 P :: o36 P :: o37 P :: o41 P :: h4 P
def h2 : List Obj:=o15 P :: o16 P :: o17 P :: o18 P :: o19 P :: o20 P :: o21 P :: o40 P :: o23 P :: o24 P :: o25 P :: o26 P :: h3 P
def h1 : List Obj:=zpI P :: o2 P :: o3 P :: o6 P :: o7 P :: o8 P :: o9 P :: o10 P :: o11 P :: o12 P :: o13 P :: o14 P :: h2 P
def h0 : List Obj:=boot_o_0 P :: boot_o_1 P :: boot_o_2 P :: zf7 P :: boot_o_4 P :: boot_o_5 P :: boot_o_6 P :: boot_o_7 P :: boot_o_8 P :: boot_o_9 P :: boot_o_10 P :: o0 P :: h1 P
def H1 : Heap:=⟨⟨h0 P⟩,(Life.mk [] [] [] 0 [] [] false #[] [] 0 false false false 0 [2000,10,10] false 0 true [] [] 0 false)⟩
def sf (w : World) (os : OsState) : Shared:=⟨H1 w.params,⟨[]⟩,(Drawn.mk 0 0 0 0),896,os⟩
def Lf (w : World) (os : OsState) : Option Shared:=topRun treeTable PySem.Challenge.pw_beatless_k10_texts_that_are_none w 11 an 2 (zo3 w os).abs ⟨doneF .next,cE,(Pos.mk 294 0 317 49),B⟩
def Rf (w : World) (os : OsState) : Option Shared:=some (sf w os)
theorem qf : tt (Hd.Lf,Hd.Rf) = true:=by k_qdec
theorem rf : ∀ w,Fast.tw2640074843757178226 w = Fast.tw15533242664859900563 w:=fun w=>by kernel_rfl
theorem ef (w : World) (os : OsState) : Hd.Lf w os = Hd.Rf w os :=
  (congrFun (congrFun Fast.te2640074843757178226 w) os).trans ((congrFun (rf w) os).trans (congrFun (congrFun Fast.te15533242664859900563 w) os).symm)
theorem cut : bE = zo1 ++ (zo0 ++ (zoZ ++ (zoY ++ (zoX ++ (zoW ++ (zoV ++ (zoU ++ (zoT ++ (zoS ++ ([])))))))))):=by kernel_rfl
theorem run (w : World) (os : OsState) : topRun treeTable PySem.Challenge.pw_beatless_k10_texts_that_are_none w 11 an (12 + (1 + (438 + (468 + (530 + (340 + (346 + (342 + (485 + (101 + (595 + (506 + 2)))))))))))) (s0 w os) (topStub PySem.Challenge.pw_beatless_k10_texts_that_are_none) = some (sf w os):=by
  refine go_top (ea w os) (piece_block (q:=qE) (env:=env) (b:=bE) (segRun_of (eb w os)) ?_)
  rw [show restOf bE env cE (Pos.mk 0 0 0 0) [topFrame qE] = restOf _ env cE _ [topFrame qE] from congrArg (fun l=>restOf l env cE (Pos.mk 0 0 0 0) [topFrame qE]) cut]
  refine piece_app (segRun_of (e0 w os)) ?_
  refine piece_app (segRun_of (e1 w os)) ?_
  refine piece_app (segRun_of (e2 w os)) ?_
  refine piece_app (segRun_of (e3 w os)) ?_
  refine piece_app (segRun_of (e4 w os)) ?_
  refine piece_app (segRun_of (e5 w os)) ?_
  refine piece_app (segRun_of (e6 w os)) ?_
  refine piece_app (segRun_of (e7 w os)) ?_
  refine piece_app (segRun_of (e8 w os)) ?_
  refine piece_app (segRun_of (e9 w os)) ?_
  exact ef w os
def M : Nat:=12 + (1 + (438 + (468 + (530 + (340 + (346 + (342 + (485 + (101 + (595 + (506 + 2)))))))))))
abbrev rW : RowW:=(PySem.Challenge.rw_beatless_k10_texts_that_are_none.row).toRowW
def Q : Program:={ PySem.Challenge.pw_beatless_k10_texts_that_are_none with main:={ PySem.Challenge.pw_beatless_k10_texts_that_are_none.main with body:=[S 0,S 2,S 3,S 4,S 5,S 7,S 8,S 9,S 10,S 11,S 12,S 14,S 16,S 17,S 18,S 19,S 20,S 21,S 22,S 23,S 24,S 25,S 26,S 27,S 28,S 29,S 30,S 31,S 32,S 33,S 34,S 35,S 36,S 37,S 38,S 39,S 41,S 42,S 43,S 44,S 45,S 46,S 47,S 48,S 49,S 50,S 51] } }
def Xt (s : Shared) : Bool:=xlAt Q [] s && recOk (RowW.records rW) s
def K : Frag:=(nat_lit 2,boot_o_2 P) :: (nat_lit 3,zf7 P) :: (nat_lit 15,o6 P) :: (nat_lit 17,o8 P) :: (nat_lit 18,o9 P) :: (nat_lit 20,o11 P) :: (nat_lit 21,o12 P) :: (nat_lit 22,o13 P) :: (nat_lit 29,o20 P) :: (nat_lit 30,o21 P) :: (nat_lit 31,o40 P) :: (nat_lit 32,o23 P) :: (nat_lit 35,o26 P) :: (nat_lit 42,o33 P) :: (nat_lit 43,o34 P) :: (nat_lit 44,o35 P) :: (nat_lit 47,o41 P) :: (nat_lit 54,o48 P) :: (nat_lit 55,o49 P) :: (nat_lit 56,o50 P) :: (nat_lit 59,o53 P) :: (nat_lit 66,o60 P) :: (nat_lit 68,o62 P) :: (nat_lit 69,o63 P) :: (nat_lit 71,o65 P) :: (nat_lit 72,o66 P) :: (nat_lit 73,o67 P) :: (nat_lit 74,o68 P) :: (nat_lit 75,o69 P) :: (nat_lit 85,o81 P) :: (nat_lit 86,o82 P) :: (nat_lit 87,zaM P) :: (nat_lit 88,o84 P) :: (nat_lit 89,o85 P) :: (nat_lit 92,o88 P) :: (nat_lit 99,o95 P) :: (nat_lit 101,o97 P) :: (nat_lit 102,o98 P) :: (nat_lit 104,Vl P) :: (nat_lit 105,Vk P) :: (nat_lit 106,Vj P) :: (nat_lit 108,Vi P) :: (nat_lit 109,Vh P) :: (nat_lit 111,Vg P) :: (nat_lit 112,Vf P) :: (nat_lit 113,Ve P) :: (nat_lit 115,Ui P) :: (nat_lit 116,Uh P) :: (nat_lit 118,Ug P) :: (nat_lit 119,Uf P) :: (nat_lit 120,Ue P) :: (nat_lit 122,Ud P) :: (nat_lit 123,Uc P) :: (nat_lit 125,Ub P) :: (nat_lit 126,Ua P) :: (nat_lit 127,zbZ P) :: (nat_lit 128,zbY P) :: (nat_lit 129,zbX P) :: (nat_lit 132,zbW P) :: (nat_lit 139,zbV P) :: (nat_lit 141,zbU P) :: (nat_lit 142,zbT P) :: (nat_lit 144,zbS P) :: (nat_lit 145,zbR P) :: (nat_lit 146,zbQ P) :: (nat_lit 148,zbP P) :: (nat_lit 149,zbO P) :: (nat_lit 151,zbN P) :: (nat_lit 152,zbM P) :: (nat_lit 153,zbL P) :: (nat_lit 155,zbK P) :: (nat_lit 156,zbJ P) :: (nat_lit 158,zbI P) :: (nat_lit 159,zbH P) :: (nat_lit 160,zbG P) :: (nat_lit 162,zbF P) :: (nat_lit 163,zbE P) :: (nat_lit 165,zbD P) :: (nat_lit 166,zbC P) :: (nat_lit 167,zbB P) :: (nat_lit 168,zbA P) :: (nat_lit 169,zbz P) :: (nat_lit 172,zby P) :: (nat_lit 179,zbx P) :: (nat_lit 181,zbw P) :: (nat_lit 182,zbv P) :: (nat_lit 184,zbu P) :: (nat_lit 185,zbt P) :: (nat_lit 186,zbs P) :: (nat_lit 188,zbr P) :: (nat_lit 189,zbq P) :: (nat_lit 191,zbp P) :: (nat_lit 192,zbo P) :: (nat_lit 193,zbn P) :: (nat_lit 195,zbm P) :: (nat_lit 196,zbl P) :: (nat_lit 198,zbk P) :: (nat_lit 199,zbj P) :: (nat_lit 200,zbi P) :: (nat_lit 202,zbh P) :: (nat_lit 203,zbg P) :: (nat_lit 205,zbf P) :: (nat_lit 206,zbe P) :: (nat_lit 207,zbd P) :: (nat_lit 208,zbc P) :: (nat_lit 209,zbb P) :: (nat_lit 212,zba P) :: (nat_lit 219,za9 P) :: (nat_lit 221,za8 P) :: (nat_lit 222,za7 P) :: (nat_lit 224,za6 P) :: (nat_lit 225,za5 P) :: (nat_lit 226,za4 P) :: (nat_lit 228,za3 P) :: (nat_lit 229,za2 P) :: (nat_lit 231,za1 P) :: (nat_lit 232,za0 P) :: (nat_lit 233,zaZ P) :: (nat_lit 235,zaY P) :: (nat_lit 236,zaX P) :: (nat_lit 238,zaW P) :: (nat_lit 239,zaV P) :: (nat_lit 240,zaU P) :: (nat_lit 242,zaT P) :: (nat_lit 243,zaS P) :: (nat_lit 245,zaR P) :: (nat_lit 246,zaQ P) :: (nat_lit 247,zaP P) :: (nat_lit 248,zaO P) :: (nat_lit 249,zaN P) :: (nat_lit 252,zd9 P) :: (nat_lit 259,zhF P) :: (nat_lit 261,zhE P) :: (nat_lit 262,zhD P) :: (nat_lit 264,zhC P) :: (nat_lit 265,zhB P) :: (nat_lit 266,zhA P) :: (nat_lit 268,zhz P) :: (nat_lit 269,zhy P) :: (nat_lit 271,zhx P) :: (nat_lit 272,zhw P) :: (nat_lit 273,zhv P) :: (nat_lit 275,zhu P) :: (nat_lit 276,zht P) :: (nat_lit 278,zhs P) :: (nat_lit 279,zhr P) :: (nat_lit 280,zhq P) :: (nat_lit 282,zhp P) :: (nat_lit 283,zho P) :: (nat_lit 285,zhn P) :: (nat_lit 286,zhm P) :: (nat_lit 287,zhl P) :: (nat_lit 288,zhk P) :: (nat_lit 289,zhj P) :: (nat_lit 292,zhi P) :: (nat_lit 294,zhh P) :: (nat_lit 295,zhg P) :: (nat_lit 297,zhf P) :: (nat_lit 298,zhe P) :: (nat_lit 299,zhd P) :: (nat_lit 300,zhc P) :: (nat_lit 301,zhb P) :: (nat_lit 302,zha P) :: (nat_lit 303,zg9 P) :: (nat_lit 304,zg8 P) :: (nat_lit 305,zg7 P) :: (nat_lit 306,zg6 P) :: (nat_lit 308,zg5 P) :: (nat_lit 309,zg4 P) :: (nat_lit 311,zg3 P) :: (nat_lit 312,zg2 P) :: (nat_lit 313,zg1 P) :: (nat_lit 315,zg0 P) :: (nat_lit 316,zgZ P) :: (nat_lit 318,zgY P) :: (nat_lit 319,zgX P) :: (nat_lit 320,zgW P) :: (nat_lit 322,zgV P) :: (nat_lit 323,zgU P) :: (nat_lit 325,zgT P) :: (nat_lit 326,zgS P) :: (nat_lit 327,zgR P) :: (nat_lit 329,zgQ P) :: (nat_lit 330,zgP P) :: (nat_lit 332,zgO P) :: (nat_lit 333,zgN P) :: (nat_lit 334,zgM P) :: (nat_lit 336,zgL P) :: (nat_lit 337,zgK P) :: (nat_lit 339,zgJ P) :: (nat_lit 340,zgI P) :: (nat_lit 341,zgH P) :: (nat_lit 344,zgG P) :: (nat_lit 345,zgF P) :: (nat_lit 353,zgE P) :: (nat_lit 355,zgD P) :: (nat_lit 356,zgC P) :: (nat_lit 358,zgB P) :: (nat_lit 359,zgA P) :: (nat_lit 360,zgz P) :: (nat_lit 362,zgy P) :: (nat_lit 363,zgx P) :: (nat_lit 365,zgw P) :: (nat_lit 366,zgv P) :: (nat_lit 367,zgu P) :: (nat_lit 369,zgt P) :: (nat_lit 370,zgs P) :: (nat_lit 372,zgr P) :: (nat_lit 373,zgq P) :: (nat_lit 374,zgp P) :: (nat_lit 376,zgo P) :: (nat_lit 377,zgn P) :: (nat_lit 379,zgm P) :: (nat_lit 380,zgl P) :: (nat_lit 381,zgk P) :: (nat_lit 382,zgj P) :: (nat_lit 383,zgi P) :: (nat_lit 384,zgh P) :: (nat_lit 385,zgg P) :: (nat_lit 388,zgf P) :: (nat_lit 391,zge P) :: (nat_lit 392,zgd P) :: (nat_lit 393,zgc P) :: (nat_lit 395,zgb P) :: (nat_lit 396,zga P) :: (nat_lit 398,zf9 P) :: (nat_lit 399,zf8 P) :: (nat_lit 400,zf6 P) :: (nat_lit 402,zf5 P) :: (nat_lit 403,zf4 P) :: (nat_lit 405,zf3 P) :: (nat_lit 406,zf2 P) :: (nat_lit 407,zf1 P) :: (nat_lit 409,zf0 P) :: (nat_lit 410,zfZ P) :: (nat_lit 412,zfY P) :: (nat_lit 413,zfX P) :: (nat_lit 414,zfW P) :: (nat_lit 416,zfV P) :: (nat_lit 417,zfU P) :: (nat_lit 419,zfT P) :: (nat_lit 420,zfS P) :: (nat_lit 421,zfR P) :: (nat_lit 423,zfQ P) :: (nat_lit 424,zfP P) :: (nat_lit 426,zfO P) :: (nat_lit 427,zfN P) :: (nat_lit 428,zfM P) :: (nat_lit 430,zfL P) :: (nat_lit 431,zfK P) :: (nat_lit 433,zfJ P) :: (nat_lit 434,zfI P) :: (nat_lit 435,zfH P) :: (nat_lit 437,zfG P) :: (nat_lit 438,zfF P) :: (nat_lit 440,zfE P) :: (nat_lit 441,zfD P) :: (nat_lit 442,zfC P) :: (nat_lit 444,zfB P) :: (nat_lit 445,zfA P) :: (nat_lit 447,zfz P) :: (nat_lit 448,zfy P) :: (nat_lit 449,zfx P) :: (nat_lit 452,zfw P) :: (nat_lit 453,zfv P) :: (nat_lit 454,zfu P) :: (nat_lit 456,zft P) :: (nat_lit 457,zfs P) :: (nat_lit 459,zfr P) :: (nat_lit 460,zfq P) :: (nat_lit 461,zfp P) :: (nat_lit 463,zfo P) :: (nat_lit 464,zfn P) :: (nat_lit 466,zfm P) :: (nat_lit 467,zfl P) :: (nat_lit 468,zfk P) :: (nat_lit 471,zfj P) :: (nat_lit 472,zfi P) :: (nat_lit 473,zfh P) :: (nat_lit 475,zfg P) :: (nat_lit 476,zff P) :: (nat_lit 478,zfe P) :: (nat_lit 479,zfd P) :: (nat_lit 480,zfc P) :: (nat_lit 482,zfb P) :: (nat_lit 483,zfa P) :: (nat_lit 485,ze9 P) :: (nat_lit 486,ze8 P) :: (nat_lit 487,ze7 P) :: (nat_lit 489,ze6 P) :: (nat_lit 490,ze5 P) :: (nat_lit 492,ze4 P) :: (nat_lit 493,ze3 P) :: (nat_lit 494,ze2 P) :: (nat_lit 496,ze1 P) :: (nat_lit 497,ze0 P) :: (nat_lit 499,zeZ P) :: (nat_lit 500,zeY P) :: (nat_lit 501,zeX P) :: (nat_lit 503,zeW P) :: (nat_lit 504,zeV P) :: (nat_lit 506,zeU P) :: (nat_lit 507,zeT P) :: []
def as : List Addr:=[2,3,15,17,18,20,21,22,29,30,31,32,35,42,43,44,47,54,55,56,59,66,68,69,71,72,73,74,75,85,86,87,88,89,92,99,101,102,104,105,106,108,109,111,112,113,115,116,118,119,120,122,123,125,126,127,128,129,132,139,141,142,144,145,146,148,149,151,152,153,155,156,158,159,160,162,163,165,166,167,168,169,172,179,181,182,184,185,186,188,189,191,192,193,195,196,198,199,200,202,203,205,206,207,208,209,212,219,221,222,224,225,226,228,229,231,232,233,235,236,238,239,240,242,243,245,246,247,248,249,252,259,261,262,264,265,266,268,269,271,272,273,275,276,278,279,280,282,283,285,286,287,288,289,292,294,295,297,298,299,300,301,302,303,304,305,306,308,309,311,312,313,315,316,318,319,320,322,323,325,326,327,329,330,332,333,334,336,337,339,340,341,344,345,353,355,356,358,359,360,362,363,365,366,367,369,370,372,373,374,376,377,379,380,381,382,383,384,385,388,391,392,393,395,396,398,399,400,402,403,405,406,407,409,410,412,413,414,416,417,419,420,421,423,424,426,427,428,430,431,433,434,435,437,438,440,441,442,444,445,447,448,449,452,453,454,456,457,459,460,461,463,464,466,467,468,471,472,473,475,476,478,479,480,482,483,485,486,487,489,490,492,493,494,496,497,499,500,501,503,504,506,507]
def y25 : List (Option Obj):=some (zeV P) :: some (zeU P) :: some (zeT P) :: []
def y24 : List (Option Obj):=some (ze7 P) :: some (ze6 P) :: some (ze5 P) :: some (ze4 P) :: some (ze3 P) :: some (ze2 P) :: some (ze1 P) :: some (ze0 P) :: some (zeZ P) :: some (zeY P) :: some (zeX P) :: some (zeW P) :: y25 P
def y23 : List (Option Obj):=some (zfj P) :: some (zfi P) :: some (zfh P) :: some (zfg P) :: some (zff P) :: some (zfe P) :: some (zfd P) :: some (zfc P) :: some (zfb P) :: some (zfa P) :: some (ze9 P) :: some (ze8 P) :: y24 P
def y22 : List (Option Obj):=some (zfv P) :: some (zfu P) :: some (zft P) :: some (zfs P) :: some (zfr P) :: some (zfq P) :: some (zfp P) :: some (zfo P) :: some (zfn P) :: some (zfm P) :: some (zfl P) :: some (zfk P) :: y23 P
def y21 : List (Option Obj):=some (zfH P) :: some (zfG P) :: some (zfF P) :: some (zfE P) :: some (zfD P) :: some (zfC P) :: some (zfB P) :: some (zfA P) :: some (zfz P) :: some (zfy P) :: some (zfx P) :: some (zfw P) :: y22 P
def y20 : List (Option Obj):=some (zfT P) :: some (zfS P) :: some (zfR P) :: some (zfQ P) :: some (zfP P) :: some (zfO P) :: some (zfN P) :: some (zfM P) :: some (zfL P) :: some (zfK P) :: some (zfJ P) :: some (zfI P) :: y21 P
def y19 : List (Option Obj):=some (zf5 P) :: some (zf4 P) :: some (zf3 P) :: some (zf2 P) :: some (zf1 P) :: some (zf0 P) :: some (zfZ P) :: some (zfY P) :: some (zfX P) :: some (zfW P) :: some (zfV P) :: some (zfU P) :: y20 P
def y18 : List (Option Obj):=some (zgi P) :: some (zgh P) :: some (zgg P) :: some (zgf P) :: some (zge P) :: some (zgd P) :: some (zgc P) :: some (zgb P) :: some (zga P) :: some (zf9 P) :: some (zf8 P) :: some (zf6 P) :: y19 P
def y17 : List (Option Obj):=some (zgu P) :: some (zgt P) :: some (zgs P) :: some (zgr P) :: some (zgq P) :: some (zgp P) :: some (zgo P) :: some (zgn P) :: some (zgm P) :: some (zgl P) :: some (zgk P) :: some (zgj P) :: y18 P
def y16 : List (Option Obj):=some (zgG P) :: some (zgF P) :: some (zgE P) :: some (zgD P) :: some (zgC P) :: some (zgB P) :: some (zgA P) :: some (zgz P) :: some (zgy P) :: some (zgx P) :: some (zgw P) :: some (zgv P) :: y17 P
def y15 : List (Option Obj):=some (zgS P) :: some (zgR P) :: some (zgQ P) :: some (zgP P) :: some (zgO P) :: some (zgN P) :: some (zgM P) :: some (zgL P) :: some (zgK P) :: some (zgJ P) :: some (zgI P) :: some (zgH P) :: y16 P
def y14 : List (Option Obj):=some (zg4 P) :: some (zg3 P) :: some (zg2 P) :: some (zg1 P) :: some (zg0 P) :: some (zgZ P) :: some (zgY P) :: some (zgX P) :: some (zgW P) :: some (zgV P) :: some (zgU P) :: some (zgT P) :: y15 P
def y13 : List (Option Obj):=some (zhg P) :: some (zhf P) :: some (zhe P) :: some (zhd P) :: some (zhc P) :: some (zhb P) :: some (zha P) :: some (zg9 P) :: some (zg8 P) :: some (zg7 P) :: some (zg6 P) :: some (zg5 P) :: y14 P
def y12 : List (Option Obj):=some (zhs P) :: some (zhr P) :: some (zhq P) :: some (zhp P) :: some (zho P) :: some (zhn P) :: some (zhm P) :: some (zhl P) :: some (zhk P) :: some (zhj P) :: some (zhi P) :: some (zhh P) :: y13 P
def y11 : List (Option Obj):=some (zhE P) :: some (zhD P) :: some (zhC P) :: some (zhB P) :: some (zhA P) :: some (zhz P) :: some (zhy P) :: some (zhx P) :: some (zhw P) :: some (zhv P) :: some (zhu P) :: some (zht P) :: y12 P
def y10 : List (Option Obj):=some (zaW P) :: some (zaV P) :: some (zaU P) :: some (zaT P) :: some (zaS P) :: some (zaR P) :: some (zaQ P) :: some (zaP P) :: some (zaO P) :: some (zaN P) :: some (zd9 P) :: some (zhF P) :: y11 P
def y9 : List (Option Obj):=some (za8 P) :: some (za7 P) :: some (za6 P) :: some (za5 P) :: some (za4 P) :: some (za3 P) :: some (za2 P) :: some (za1 P) :: some (za0 P) :: some (zaZ P) :: some (zaY P) :: some (zaX P) :: y10 P
def y8 : List (Option Obj):=some (zbk P) :: some (zbj P) :: some (zbi P) :: some (zbh P) :: some (zbg P) :: some (zbf P) :: some (zbe P) :: some (zbd P) :: some (zbc P) :: some (zbb P) :: some (zba P) :: some (za9 P) :: y9 P
def y7 : List (Option Obj):=some (zbw P) :: some (zbv P) :: some (zbu P) :: some (zbt P) :: some (zbs P) :: some (zbr P) :: some (zbq P) :: some (zbp P) :: some (zbo P) :: some (zbn P) :: some (zbm P) :: some (zbl P) :: y8 P
def y6 : List (Option Obj):=some (zbI P) :: some (zbH P) :: some (zbG P) :: some (zbF P) :: some (zbE P) :: some (zbD P) :: some (zbC P) :: some (zbB P) :: some (zbA P) :: some (zbz P) :: some (zby P) :: some (zbx P) :: y7 P
def y5 : List (Option Obj):=some (zbU P) :: some (zbT P) :: some (zbS P) :: some (zbR P) :: some (zbQ P) :: some (zbP P) :: some (zbO P) :: some (zbN P) :: some (zbM P) :: some (zbL P) :: some (zbK P) :: some (zbJ P) :: y6 P
def y4 : List (Option Obj):=some (Ug P) :: some (Uf P) :: some (Ue P) :: some (Ud P) :: some (Uc P) :: some (Ub P) :: some (Ua P) :: some (zbZ P) :: some (zbY P) :: some (zbX P) :: some (zbW P) :: some (zbV P) :: y5 P
def y3 : List (Option Obj):=some (o97 P) :: some (o98 P) :: some (Vl P) :: some (Vk P) :: some (Vj P) :: some (Vi P) :: some (Vh P) :: some (Vg P) :: some (Vf P) :: some (Ve P) :: some (Ui P) :: some (Uh P) :: y4 P
def y2 : List (Option Obj):=some (o65 P) :: some (o66 P) :: some (o67 P) :: some (o68 P) :: some (o69 P) :: some (o81 P) :: some (o82 P) :: some (zaM P) :: some (o84 P) :: some (o85 P) :: some (o88 P) :: some (o95 P) :: y3 P
def y1 : List (Option Obj):=some (o26 P) :: some (o33 P) :: some (o34 P) :: some (o35 P) :: some (o41 P) :: some (o48 P) :: some (o49 P) :: some (o50 P) :: some (o53 P) :: some (o60 P) :: some (o62 P) :: some (o63 P) :: y2 P
def y0 : List (Option Obj):=some (boot_o_2 P) :: some (zf7 P) :: some (o6 P) :: some (o8 P) :: some (o9 P) :: some (o11 P) :: some (o12 P) :: some (o13 P) :: some (o20 P) :: some (o21 P) :: some (o40 P) :: some (o23 P) :: y1 P
theorem asK (P : Params) : as = (K P).map (·.1):=by kernel_rfl
theorem yK (P : Params) : (K P).map (fun p=>some p.2) = y0 P:=by kernel_rfl
def Ly (w : World) (os : OsState) : List (Option Obj):=as.map (sf w os).heap.get?
def Ry (w : World) (_ : OsState) : List (Option Obj):=y0 w.params
theorem qy : tt (Hd.Ly,Hd.Ry) = true:=by k_qdec
theorem ry : ∀ w,Fast.tw691215026958702249 w = Fast.tw5434166109932796141 w:=fun w=>by kernel_rfl
theorem ey (w : World) (os : OsState) : Hd.Ly w os = Hd.Ry w os :=
  (congrFun (congrFun Fast.te691215026958702249 w) os).trans ((congrFun (ry w) os).trans (congrFun (congrFun Fast.te5434166109932796141 w) os).symm)
abbrev hk : Hook:=kHook K as asK
abbrev zqw : List Str:=importedModules PySem.Challenge.pw_beatless_k10_texts_that_are_none.main.body
def A (w : World) (os : OsState):=openSeen Q ["PARTS"] zqw Xt true (sf w os)
def G (_ : World) (_ : OsState):=openGood Q ["PARTS"]
def A0 (w : World) (os : OsState):=(A w os).1
def G0 (w : World) (os : OsState):=(G w os).1
theorem qA0 : tt (Hd.A0,Hd.G0) = true:=by k_qdec
theorem rA0 : ∀ w,Fast.tw6131166808449026830 w = Fast.tw11727352099349840545 w:=fun w=>by kernel_rfl
theorem eA0 (w : World) (os : OsState) : Hd.A0 w os = Hd.G0 w os :=
  (congrFun (congrFun Fast.te6131166808449026830 w) os).trans ((congrFun (rA0 w) os).trans (congrFun (congrFun Fast.te11727352099349840545 w) os).symm)
def A1 (w : World) (os : OsState):=(A w os).2.1
def G1 (w : World) (os : OsState):=(G w os).2.1
theorem qA1 : tt (Hd.A1,Hd.G1) = true:=by k_qdec
theorem rA1 : ∀ w,Fast.tw7581016493306269660 w = Fast.tw14656944741971684193 w:=fun w=>by kernel_rfl
theorem eA1 (w : World) (os : OsState) : Hd.A1 w os = Hd.G1 w os :=
  (congrFun (congrFun Fast.te7581016493306269660 w) os).trans ((congrFun (rA1 w) os).trans (congrFun (congrFun Fast.te14656944741971684193 w) os).symm)
def A2 (w : World) (os : OsState):=(A w os).2.2.1
def G2 (w : World) (os : OsState):=(G w os).2.2.1
theorem qA2 : tt (Hd.A2,Hd.G2) = true:=by k_qdec
theorem rA2 : ∀ w,Fast.tw2900191123710467766 w = Fast.tw10880070632800087129 w:=fun w=>by kernel_rfl
theorem eA2 (w : World) (os : OsState) : Hd.A2 w os = Hd.G2 w os :=
  (congrFun (congrFun Fast.te2900191123710467766 w) os).trans ((congrFun (rA2 w) os).trans (congrFun (congrFun Fast.te10880070632800087129 w) os).symm)
def A3 (w : World) (os : OsState):=(A w os).2.2.2.1
def G3 (w : World) (os : OsState):=(G w os).2.2.2.1
theorem qA3 : tt (Hd.A3,Hd.G3) = true:=by k_qdec
theorem rA3 : ∀ w,Fast.tw447134267514248570 w = Fast.tw4145583888436359099 w:=fun w=>by kernel_rfl
theorem eA3 (w : World) (os : OsState) : Hd.A3 w os = Hd.G3 w os :=
  (congrFun (congrFun Fast.te447134267514248570 w) os).trans ((congrFun (rA3 w) os).trans (congrFun (congrFun Fast.te4145583888436359099 w) os).symm)
def A4 (w : World) (os : OsState):=(A w os).2.2.2.2.1
def G4 (w : World) (os : OsState):=(G w os).2.2.2.2.1
theorem qA4 : tt (Hd.A4,Hd.G4) = true:=by k_qdec
theorem rA4 : ∀ w,Fast.tw14409291123802741499 w = Fast.tw6531939937263253831 w:=fun w=>by kernel_rfl
theorem eA4 (w : World) (os : OsState) : Hd.A4 w os = Hd.G4 w os :=
  (congrFun (congrFun Fast.te14409291123802741499 w) os).trans ((congrFun (rA4 w) os).trans (congrFun (congrFun Fast.te6531939937263253831 w) os).symm)
def A5 (w : World) (os : OsState):=(A w os).2.2.2.2.2.1
def G5 (w : World) (os : OsState):=(G w os).2.2.2.2.2.1
theorem qA5 : tt (Hd.A5,Hd.G5) = true:=by k_qdec
theorem rA5 : ∀ w,Fast.tw7163156141784225904 w = Fast.tw5989712690265804088 w:=fun w=>by kernel_rfl
theorem eA5 (w : World) (os : OsState) : Hd.A5 w os = Hd.G5 w os :=
  (congrFun (congrFun Fast.te7163156141784225904 w) os).trans ((congrFun (rA5 w) os).trans (congrFun (congrFun Fast.te5989712690265804088 w) os).symm)
def A6 (w : World) (os : OsState):=(A w os).2.2.2.2.2.2.1
def G6 (w : World) (os : OsState):=(G w os).2.2.2.2.2.2.1
theorem qA6 : tt (Hd.A6,Hd.G6) = true:=by k_qdec
theorem rA6 : ∀ w,Fast.tw148487786646926683 w = Fast.tw12956129408465502666 w:=fun w=>by kernel_rfl
theorem eA6 (w : World) (os : OsState) : Hd.A6 w os = Hd.G6 w os :=
  (congrFun (congrFun Fast.te148487786646926683 w) os).trans ((congrFun (rA6 w) os).trans (congrFun (congrFun Fast.te12956129408465502666 w) os).symm)
def A7 (w : World) (os : OsState):=(A w os).2.2.2.2.2.2.2.1
def G7 (w : World) (os : OsState):=(G w os).2.2.2.2.2.2.2.1
theorem qA7 : tt (Hd.A7,Hd.G7) = true:=by k_qdec
theorem rA7 : ∀ w,Fast.tw17782257788342479682 w = Fast.tw9566738594451217396 w:=fun w=>by kernel_rfl
theorem eA7 (w : World) (os : OsState) : Hd.A7 w os = Hd.G7 w os :=
  (congrFun (congrFun Fast.te17782257788342479682 w) os).trans ((congrFun (rA7 w) os).trans (congrFun (congrFun Fast.te9566738594451217396 w) os).symm)
def A8 (w : World) (os : OsState):=(A w os).2.2.2.2.2.2.2.2
def G8 (w : World) (os : OsState):=(G w os).2.2.2.2.2.2.2.2
theorem qA8 : tt (Hd.A8,Hd.G8) = true:=by k_qdec
theorem rA8 : ∀ w,Fast.tw8885869309975874061 w = Fast.tw17952483438457428275 w:=fun w=>by kernel_rfl
theorem eA8 (w : World) (os : OsState) : Hd.A8 w os = Hd.G8 w os :=
  (congrFun (congrFun Fast.te8885869309975874061 w) os).trans ((congrFun (rA8 w) os).trans (congrFun (congrFun Fast.te17952483438457428275 w) os).symm)
def Ls (w : World) (os : OsState) : Bool:=staticsOk zqw (boot_heap w.params) (H1 w.params) && namesBound PySem.Challenge.pw_beatless_k10_texts_that_are_none (H1 w.params) && gensDone (sf w os) && laidKept (boot_heap w.params) (H1 w.params)
def Rs (_ : World) (_ : OsState) : Bool:=true
def Lz (w : World) (_ : OsState):=((boot_heap w.params).isNs mainGlobals && (⟨[]⟩ : Array GenState).size == 0,(boot_heap w.params).objs.size,(boot_heap w.params).nsMap mainGlobals "__annotations__")
def Rz (_ : World) (_ : OsState) : Bool × Nat × Option Value:=(true,11,an)
theorem qs : tt Hd.Ls = true:=by k_qdec
theorem rs : ∀ w,Fast.tw4959303863618478765 w = Hd.Rs w:=fun w=>by kernel_rfl
theorem es (w : World) (os : OsState) : Hd.Ls w os = Hd.Rs w os:=(congrFun (congrFun Fast.te4959303863618478765 w) os).trans (congrFun (rs w) os)
theorem qz : tt Hd.Lz = true:=by k_qdec
theorem rz : ∀ w,Fast.tw17831390912981975158 w = Hd.Rz w:=fun w=>by kernel_rfl
theorem ez (w : World) (os : OsState) : Hd.Lz w os = Hd.Rz w os:=(congrFun (congrFun Fast.te17831390912981975158 w) os).trans (congrFun (rz w) os)
theorem op : opening PySem.Challenge.pw_beatless_k10_texts_that_are_none = plainProg PySem.Challenge.pw_beatless_k10_texts_that_are_none.main.scope.names:=by kernel_rfl
theorem fe (s : Shared) : fenceModules? PySem.Challenge.pw_beatless_k10_texts_that_are_none s = some s:=by kernel_rfl
theorem left : LeftO PySem.Challenge.pw_beatless_k10_texts_that_are_none Q ["PARTS"] Xt hk.obs hk.val 8408 :=
  LeftO.of_pieces (M:=M) (m₀:=11) (ann:=an) (H₀:=boot_heap) (H₁:=H1) (boot_open op (by kernel_rfl) fe) (fun w=>ez w (start PySem.Challenge.pw_beatless_k10_texts_that_are_none).1.os) run (by kernel_rfl) (fun w=>funext fun os=>looks_pair (es w os) (looks_pair
    (Prod.ext (eA0 w os) (Prod.ext (eA1 w os) (Prod.ext (eA2 w os) (Prod.ext (eA3 w os) (Prod.ext (eA4 w os) (Prod.ext (eA5 w os) (Prod.ext (eA6 w os) (Prod.ext (eA7 w os) (eA8 w os)))))))))
    ((ey w os).trans (yK w.params).symm)))
theorem both {a b : Bool} (z : (a && b) = true) : a = true∧b = true:=Bool.and_eq_true_iff.mp z
end Hd
end

namespace K04
open PySem L2
abbrev fS (n q : Str) (s : Stmt) (k d p : Value) (a : Option Addr) (c t : Value) : FuncData:=PySem.W.fnOf n q (defArgs s) (defBody s) (defScope s) .none k d p a c t
open PySem.W (nsIn findIn isFn codeIn keepIn plainGet hasDictIn plainOver makesIn mroIn specialIn takesIn kitOne mg_of mg_none_of excIn)
theorem txt_mk {w : World} {K : PySem.W.Frag} {h : Heap} {mg : Str→Option Value} (X : K.In h) (G : h.Ns mainGlobals mg)
    {f_is_whole : Addr} {od0 an0 : Option Addr} {sl0 : Array (Option Value)} {oc0 kV0 dc0 pm0 cd0 ct0 : Value} {f_is_short_number : Addr} {od1 an1 : Option Addr} {sl1 : Array (Option Value)} {oc1 kV1 dc1 pm1 cd1 ct1 : Value} {f_is_word_of : Addr} {od2 an2 : Option Addr} {sl2 : Array (Option Value)} {oc2 kV2 dc2 pm2 cd2 ct2 : Value} {f_is_divisor : Addr} {od3 an3 : Option Addr} {sl3 : Array (Option Value)} {oc3 kV3 dc3 pm3 cd3 ct3 : Value} {f_are_sound : Addr} {od4 an4 : Option Addr} {sl4 : Array (Option Value)} {oc4 kV4 dc4 pm4 cd4 ct4 : Value} {f_is_sound : Addr} {od5 an5 : Option Addr} {sl5 : Array (Option Value)} {oc5 kV5 dc5 pm5 cd5 ct5 : Value} {f_count_words : Addr} {od6 an6 : Option Addr} {sl6 : Array (Option Value)} {oc6 kV6 dc6 pm6 cd6 ct6 : Value} {f_program_text : Addr} {od7 an7 : Option Addr} {sl7 : Array (Option Value)} {oc7 kV7 dc7 pm7 cd7 ct7 : Value} {f_is_number_word : Addr} {od8 an8 : Option Addr} {sl8 : Array (Option Value)} {oc8 kV8 dc8 pm8 cd8 ct8 : Value} {f_number_of : Addr} {od9 an9 : Option Addr} {sl9 : Array (Option Value)} {oc9 kV9 dc9 pm9 cd9 ct9 : Value} {f_read_part : Addr} {od10 an10 : Option Addr} {sl10 : Array (Option Value)} {oc10 kV10 dc10 pm10 cd10 ct10 : Value} {f_read_words : Addr} {od11 an11 : Option Addr} {sl11 : Array (Option Value)} {oc11 kV11 dc11 pm11 cd11 ct11 : Value} {f_read_row : Addr} {od12 an12 : Option Addr} {sl12 : Array (Option Value)} {oc12 kV12 dc12 pm12 cd12 ct12 : Value} {f_read_program : Addr} {od13 an13 : Option Addr} {sl13 : Array (Option Value)} {oc13 kV13 dc13 pm13 cd13 ct13 : Value} {f__law_cell_at : Addr} {od14 an14 : Option Addr} {sl14 : Array (Option Value)} {oc14 kV14 dc14 pm14 cd14 ct14 : Value} {f__law_digit : Addr} {od15 an15 : Option Addr} {sl15 : Array (Option Value)} {oc15 kV15 dc15 pm15 cd15 ct15 : Value} {f__law_expr : Addr} {od16 an16 : Option Addr} {sl16 : Array (Option Value)} {oc16 kV16 dc16 pm16 cd16 ct16 : Value} {f__law_made : Addr} {od17 an17 : Option Addr} {sl17 : Array (Option Value)} {oc17 kV17 dc17 pm17 cd17 ct17 : Value} {f__law_fits : Addr} {od18 an18 : Option Addr} {sl18 : Array (Option Value)} {oc18 kV18 dc18 pm18 cd18 ct18 : Value} {f__law_size : Addr} {od19 an19 : Option Addr} {sl19 : Array (Option Value)} {oc19 kV19 dc19 pm19 cd19 ct19 : Value} {f__law_four : Addr} {od20 an20 : Option Addr} {sl20 : Array (Option Value)} {oc20 kV20 dc20 pm20 cd20 ct20 : Value} {f__law_program : Addr} {od21 an21 : Option Addr} {sl21 : Array (Option Value)} {oc21 kV21 dc21 pm21 cd21 ct21 : Value} {f__law_spoiled : Addr} {od22 an22 : Option Addr} {sl22 : Array (Option Value)} {oc22 kV22 dc22 pm22 cd22 ct22 : Value} {f__law_row : Addr} {od23 an23 : Option Addr} {sl23 : Array (Option Value)} {oc23 kV23 dc23 pm23 cd23 ct23 : Value} {f_law : Addr} {od24 an24 : Option Addr} {sl24 : Array (Option Value)} {oc24 kV24 dc24 pm24 cd24 ct24 : Value} {f_Num___init__ : Addr} {od25 an25 : Option Addr} {sl25 : Array (Option Value)} {oc25 kV25 dc25 pm25 cd25 ct25 : Value} {f_Num_words : Addr} {od26 an26 : Option Addr} {sl26 : Array (Option Value)} {oc26 kV26 dc26 pm26 cd26 ct26 : Value} {f_Name___init__ : Addr} {od27 an27 : Option Addr} {sl27 : Array (Option Value)} {oc27 kV27 dc27 pm27 cd27 ct27 : Value} {f_Name_words : Addr} {od28 an28 : Option Addr} {sl28 : Array (Option Value)} {oc28 kV28 dc28 pm28 cd28 ct28 : Value} {f_Two___init__ : Addr} {od29 an29 : Option Addr} {sl29 : Array (Option Value)} {oc29 kV29 dc29 pm29 cd29 ct29 : Value} {f_Two_words : Addr} {od30 an30 : Option Addr} {sl30 : Array (Option Value)} {oc30 kV30 dc30 pm30 cd30 ct30 : Value} {f_Mod___init__ : Addr} {od31 an31 : Option Addr} {sl31 : Array (Option Value)} {oc31 kV31 dc31 pm31 cd31 ct31 : Value} {f_Mod_words : Addr} {od32 an32 : Option Addr} {sl32 : Array (Option Value)} {oc32 kV32 dc32 pm32 cd32 ct32 : Value} {f_Less___init__ : Addr} {od33 an33 : Option Addr} {sl33 : Array (Option Value)} {oc33 kV33 dc33 pm33 cd33 ct33 : Value} {f_Less_words : Addr} {od34 an34 : Option Addr} {sl34 : Array (Option Value)} {oc34 kV34 dc34 pm34 cd34 ct34 : Value} {f_Program___init__ : Addr} {od35 an35 : Option Addr} {sl35 : Array (Option Value)} {oc35 kV35 dc35 pm35 cd35 ct35 : Value} {f_NoText___init__ : Addr} {od36 an36 : Option Addr} {sl36 : Array (Option Value)} {oc36 kV36 dc36 pm36 cd36 ct36 : Value} {c_Num : Addr} {c_Name : Addr} {c_Two : Addr} {c_Mod : Addr} {c_Less : Addr} {c_Program : Addr} {c_NoProgram : Addr} {c_NoWeb : Addr} {c_BeatlessError : Addr} {c_NoText : Addr} {t_START_NAMES : Addr} {od_START_NAMES : Option Addr} {n_START_NAMES : Nat} {sl_START_NAMES : Array (Option Value)} {u_START_NAMES0 u_START_NAMES1 : Tok} {t_SEND_NAMES : Addr} {od_SEND_NAMES : Option Addr} {n_SEND_NAMES : Nat} {sl_SEND_NAMES : Array (Option Value)} {u_SEND_NAMES0 u_SEND_NAMES1 u_SEND_NAMES2 u_SEND_NAMES3 u_SEND_NAMES4 : Tok} {t_RENEW_NAMES : Addr} {od_RENEW_NAMES : Option Addr} {n_RENEW_NAMES : Nat} {sl_RENEW_NAMES : Array (Option Value)} {u_RENEW_NAMES0 u_RENEW_NAMES1 u_RENEW_NAMES2 u_RENEW_NAMES3 u_RENEW_NAMES4 u_RENEW_NAMES5 u_RENEW_NAMES6 u_RENEW_NAMES7 : Tok} {t_TWO_WORDS : Addr} {od_TWO_WORDS : Option Addr} {n_TWO_WORDS : Nat} {sl_TWO_WORDS : Array (Option Value)} {u_TWO_WORDS0 u_TWO_WORDS1 u_TWO_WORDS2 u_TWO_WORDS3 : Tok} {t_MOST_WORDS : Tok} {t_MOST_DEEP : Tok} {t_ALL_NAMES : Addr} {od_ALL_NAMES : Option Addr} {n_ALL_NAMES : Nat} {sl_ALL_NAMES : Array (Option Value)} {u_ALL_NAMES0 u_ALL_NAMES1 u_ALL_NAMES2 u_ALL_NAMES3 u_ALL_NAMES4 u_ALL_NAMES5 u_ALL_NAMES6 u_ALL_NAMES7 u_ALL_NAMES8 : Tok} {t_ROW_WORDS : Addr} {od_ROW_WORDS : Option Addr} {n_ROW_WORDS : Nat} {sl_ROW_WORDS : Array (Option Value)} {u_ROW_WORDS0 u_ROW_WORDS1 u_ROW_WORDS2 u_ROW_WORDS3 : Tok} {t_PARTS : Addr} {n_PARTS : Nat} {u_PARTS0 v_PARTS0 u_PARTS1 v_PARTS1 u_PARTS2 v_PARTS2 u_PARTS3 v_PARTS3 u_PARTS4 v_PARTS4 u_PARTS5 v_PARTS5 : Tok} {t_FIGURES : Tok}
    (z_len : nsIn K mainGlobals "len" = some none)
    (z_int : nsIn K mainGlobals "int" = some none)
    (z_min : nsIn K mainGlobals "min" = some none)
    (z_max : nsIn K mainGlobals "max" = some none)
    (z_range : nsIn K mainGlobals "range" = some none)
    (z_isinstance : nsIn K mainGlobals "isinstance" = some none)
    (z_zip : nsIn K mainGlobals "zip" = some none)
    (z_abs : nsIn K mainGlobals "abs" = some none)
    (z_str : nsIn K mainGlobals "str" = some none)
    (z_sum : nsIn K mainGlobals "sum" = some none)
    (z_bool : nsIn K mainGlobals "bool" = some none)
    (z_tuple : nsIn K mainGlobals "tuple" = some none)
    (z_enumerate : nsIn K mainGlobals "enumerate" = some none)
    (z_reversed : nsIn K mainGlobals "reversed" = some none)
    (z_ValueError : nsIn K mainGlobals "ValueError" = some none)
    (A_Num : nsIn K mainGlobals "Num" = some (some (.ref c_Num)))
    (A_Name : nsIn K mainGlobals "Name" = some (some (.ref c_Name)))
    (A_Two : nsIn K mainGlobals "Two" = some (some (.ref c_Two)))
    (A_Mod : nsIn K mainGlobals "Mod" = some (some (.ref c_Mod)))
    (A_Less : nsIn K mainGlobals "Less" = some (some (.ref c_Less)))
    (A_Program : nsIn K mainGlobals "Program" = some (some (.ref c_Program)))
    (A_NoText : nsIn K mainGlobals "NoText" = some (some (.ref c_NoText)))
    (a_0 : nsIn K mainGlobals "is_whole" = some (some (.ref f_is_whole)))
    (l_0 : K.lookup f_is_whole = some ⟨oc0,od0,.func (fS "is_whole" "is_whole" yW kV0 dc0 pm0 an0 cd0 ct0),sl0⟩)
    (cc_0 : codeIn K cd0 "is_whole" = true)
    (kk_0 : keepIn K (.ref f_is_whole) = true)
    (a_1 : nsIn K mainGlobals "is_short_number" = some (some (.ref f_is_short_number)))
    (l_1 : K.lookup f_is_short_number = some ⟨oc1,od1,.func (fS "is_short_number" "is_short_number" zM kV1 dc1 pm1 an1 cd1 ct1),sl1⟩)
    (cc_1 : codeIn K cd1 "is_short_number" = true)
    (kk_1 : keepIn K (.ref f_is_short_number) = true)
    (a_2 : nsIn K mainGlobals "is_word_of" = some (some (.ref f_is_word_of)))
    (l_2 : K.lookup f_is_word_of = some ⟨oc2,od2,.func (fS "is_word_of" "is_word_of" yq kV2 dc2 pm2 an2 cd2 ct2),sl2⟩)
    (cc_2 : codeIn K cd2 "is_word_of" = true)
    (kk_2 : keepIn K (.ref f_is_word_of) = true)
    (a_3 : nsIn K mainGlobals "is_divisor" = some (some (.ref f_is_divisor)))
    (l_3 : K.lookup f_is_divisor = some ⟨oc3,od3,.func (fS "is_divisor" "is_divisor" yr kV3 dc3 pm3 an3 cd3 ct3),sl3⟩)
    (cc_3 : codeIn K cd3 "is_divisor" = true)
    (kk_3 : keepIn K (.ref f_is_divisor) = true)
    (a_4 : nsIn K mainGlobals "are_sound" = some (some (.ref f_are_sound)))
    (l_4 : K.lookup f_are_sound = some ⟨oc4,od4,.func (fS "are_sound" "are_sound" yD kV4 dc4 pm4 an4 cd4 ct4),sl4⟩)
    (cc_4 : codeIn K cd4 "are_sound" = true)
    (kk_4 : keepIn K (.ref f_are_sound) = true)
    (a_5 : nsIn K mainGlobals "is_sound" = some (some (.ref f_is_sound)))
    (l_5 : K.lookup f_is_sound = some ⟨oc5,od5,.func (fS "is_sound" "is_sound" yX kV5 dc5 pm5 an5 cd5 ct5),sl5⟩)
    (cc_5 : codeIn K cd5 "is_sound" = true)
    (kk_5 : keepIn K (.ref f_is_sound) = true)
    (a_6 : nsIn K mainGlobals "count_words" = some (some (.ref f_count_words)))
    (l_6 : K.lookup f_count_words = some ⟨oc6,od6,.func (fS "count_words" "count_words" zV kV6 dc6 pm6 an6 cd6 ct6),sl6⟩)
    (cc_6 : codeIn K cd6 "count_words" = true)
    (kk_6 : keepIn K (.ref f_count_words) = true)
    (a_7 : nsIn K mainGlobals "program_text" = some (some (.ref f_program_text)))
    (l_7 : K.lookup f_program_text = some ⟨oc7,od7,.func (fS "program_text" "program_text" zQ kV7 dc7 pm7 an7 cd7 ct7),sl7⟩)
    (cc_7 : codeIn K cd7 "program_text" = true)
    (kk_7 : keepIn K (.ref f_program_text) = true)
    (a_8 : nsIn K mainGlobals "is_number_word" = some (some (.ref f_is_number_word)))
    (l_8 : K.lookup f_is_number_word = some ⟨oc8,od8,.func (fS "is_number_word" "is_number_word" zR kV8 dc8 pm8 an8 cd8 ct8),sl8⟩)
    (cc_8 : codeIn K cd8 "is_number_word" = true)
    (kk_8 : keepIn K (.ref f_is_number_word) = true)
    (a_9 : nsIn K mainGlobals "number_of" = some (some (.ref f_number_of)))
    (l_9 : K.lookup f_number_of = some ⟨oc9,od9,.func (fS "number_of" "number_of" yC kV9 dc9 pm9 an9 cd9 ct9),sl9⟩)
    (cc_9 : codeIn K cd9 "number_of" = true)
    (kk_9 : keepIn K (.ref f_number_of) = true)
    (a_10 : nsIn K mainGlobals "read_part" = some (some (.ref f_read_part)))
    (l_10 : K.lookup f_read_part = some ⟨oc10,od10,.func (fS "read_part" "read_part" yB kV10 dc10 pm10 an10 cd10 ct10),sl10⟩)
    (cc_10 : codeIn K cd10 "read_part" = true)
    (kk_10 : keepIn K (.ref f_read_part) = true)
    (a_11 : nsIn K mainGlobals "read_words" = some (some (.ref f_read_words)))
    (l_11 : K.lookup f_read_words = some ⟨oc11,od11,.func (fS "read_words" "read_words" yp kV11 dc11 pm11 an11 cd11 ct11),sl11⟩)
    (cc_11 : codeIn K cd11 "read_words" = true)
    (kk_11 : keepIn K (.ref f_read_words) = true)
    (a_12 : nsIn K mainGlobals "read_row" = some (some (.ref f_read_row)))
    (l_12 : K.lookup f_read_row = some ⟨oc12,od12,.func (fS "read_row" "read_row" yV kV12 dc12 pm12 an12 cd12 ct12),sl12⟩)
    (cc_12 : codeIn K cd12 "read_row" = true)
    (kk_12 : keepIn K (.ref f_read_row) = true)
    (a_13 : nsIn K mainGlobals "read_program" = some (some (.ref f_read_program)))
    (l_13 : K.lookup f_read_program = some ⟨oc13,od13,.func (fS "read_program" "read_program" z0 kV13 dc13 pm13 an13 cd13 ct13),sl13⟩)
    (cc_13 : codeIn K cd13 "read_program" = true)
    (kk_13 : keepIn K (.ref f_read_program) = true)
    (a_14 : nsIn K mainGlobals "_law_cell_at" = some (some (.ref f__law_cell_at)))
    (l_14 : K.lookup f__law_cell_at = some ⟨oc14,od14,.func (fS "_law_cell_at" "_law_cell_at" yc kV14 dc14 pm14 an14 cd14 ct14),sl14⟩)
    (cc_14 : codeIn K cd14 "_law_cell_at" = true)
    (kk_14 : keepIn K (.ref f__law_cell_at) = true)
    (a_15 : nsIn K mainGlobals "_law_digit" = some (some (.ref f__law_digit)))
    (l_15 : K.lookup f__law_digit = some ⟨oc15,od15,.func (fS "_law_digit" "_law_digit" yt kV15 dc15 pm15 an15 cd15 ct15),sl15⟩)
    (cc_15 : codeIn K cd15 "_law_digit" = true)
    (kk_15 : keepIn K (.ref f__law_digit) = true)
    (a_16 : nsIn K mainGlobals "_law_expr" = some (some (.ref f__law_expr)))
    (l_16 : K.lookup f__law_expr = some ⟨oc16,od16,.func (fS "_law_expr" "_law_expr" yI kV16 dc16 pm16 an16 cd16 ct16),sl16⟩)
    (cc_16 : codeIn K cd16 "_law_expr" = true)
    (kk_16 : keepIn K (.ref f__law_expr) = true)
    (a_17 : nsIn K mainGlobals "_law_made" = some (some (.ref f__law_made)))
    (l_17 : K.lookup f__law_made = some ⟨oc17,od17,.func (fS "_law_made" "_law_made" yF kV17 dc17 pm17 an17 cd17 ct17),sl17⟩)
    (cc_17 : codeIn K cd17 "_law_made" = true)
    (kk_17 : keepIn K (.ref f__law_made) = true)
    (a_18 : nsIn K mainGlobals "_law_fits" = some (some (.ref f__law_fits)))
    (l_18 : K.lookup f__law_fits = some ⟨oc18,od18,.func (fS "_law_fits" "_law_fits" yH kV18 dc18 pm18 an18 cd18 ct18),sl18⟩)
    (cc_18 : codeIn K cd18 "_law_fits" = true)
    (kk_18 : keepIn K (.ref f__law_fits) = true)
    (a_19 : nsIn K mainGlobals "_law_size" = some (some (.ref f__law_size)))
    (l_19 : K.lookup f__law_size = some ⟨oc19,od19,.func (fS "_law_size" "_law_size" yE kV19 dc19 pm19 an19 cd19 ct19),sl19⟩)
    (cc_19 : codeIn K cd19 "_law_size" = true)
    (kk_19 : keepIn K (.ref f__law_size) = true)
    (a_20 : nsIn K mainGlobals "_law_four" = some (some (.ref f__law_four)))
    (l_20 : K.lookup f__law_four = some ⟨oc20,od20,.func (fS "_law_four" "_law_four" yG kV20 dc20 pm20 an20 cd20 ct20),sl20⟩)
    (cc_20 : codeIn K cd20 "_law_four" = true)
    (kk_20 : keepIn K (.ref f__law_four) = true)
    (a_21 : nsIn K mainGlobals "_law_program" = some (some (.ref f__law_program)))
    (l_21 : K.lookup f__law_program = some ⟨oc21,od21,.func (fS "_law_program" "_law_program" yb kV21 dc21 pm21 an21 cd21 ct21),sl21⟩)
    (cc_21 : codeIn K cd21 "_law_program" = true)
    (kk_21 : keepIn K (.ref f__law_program) = true)
    (a_22 : nsIn K mainGlobals "_law_spoiled" = some (some (.ref f__law_spoiled)))
    (l_22 : K.lookup f__law_spoiled = some ⟨oc22,od22,.func (fS "_law_spoiled" "_law_spoiled" ya kV22 dc22 pm22 an22 cd22 ct22),sl22⟩)
    (cc_22 : codeIn K cd22 "_law_spoiled" = true)
    (kk_22 : keepIn K (.ref f__law_spoiled) = true)
    (a_23 : nsIn K mainGlobals "_law_row" = some (some (.ref f__law_row)))
    (l_23 : K.lookup f__law_row = some ⟨oc23,od23,.func (fS "_law_row" "_law_row" yY kV23 dc23 pm23 an23 cd23 ct23),sl23⟩)
    (cc_23 : codeIn K cd23 "_law_row" = true)
    (kk_23 : keepIn K (.ref f__law_row) = true)
    (a_24 : nsIn K mainGlobals "law" = some (some (.ref f_law)))
    (l_24 : K.lookup f_law = some ⟨oc24,od24,.func (fS "law" "law" uB kV24 dc24 pm24 an24 cd24 ct24),sl24⟩)
    (cc_24 : codeIn K cd24 "law" = true)
    (kk_24 : keepIn K (.ref f_law) = true)
    (a_25 : findIn K (.ref c_Num) "__init__" = some (some (.ref f_Num___init__)))
    (i_25 : isFn K (.ref f_Num___init__) = true)
    (l_25 : K.lookup f_Num___init__ = some ⟨oc25,od25,.func (fS "__init__" "Num.__init__" ye kV25 dc25 pm25 an25 cd25 ct25),sl25⟩)
    (cc_25 : codeIn K cd25 "Num.__init__" = true)
    (kk_25 : keepIn K (.ref f_Num___init__) = true)
    (a_26 : findIn K (.ref c_Num) "words" = some (some (.ref f_Num_words)))
    (i_26 : isFn K (.ref f_Num_words) = true)
    (l_26 : K.lookup f_Num_words = some ⟨oc26,od26,.func (fS "words" "Num.words" yL kV26 dc26 pm26 an26 cd26 ct26),sl26⟩)
    (cc_26 : codeIn K cd26 "Num.words" = true)
    (kk_26 : keepIn K (.ref f_Num_words) = true)
    (a_27 : findIn K (.ref c_Name) "__init__" = some (some (.ref f_Name___init__)))
    (i_27 : isFn K (.ref f_Name___init__) = true)
    (l_27 : K.lookup f_Name___init__ = some ⟨oc27,od27,.func (fS "__init__" "Name.__init__" zT kV27 dc27 pm27 an27 cd27 ct27),sl27⟩)
    (cc_27 : codeIn K cd27 "Name.__init__" = true)
    (kk_27 : keepIn K (.ref f_Name___init__) = true)
    (a_28 : findIn K (.ref c_Name) "words" = some (some (.ref f_Name_words)))
    (i_28 : isFn K (.ref f_Name_words) = true)
    (l_28 : K.lookup f_Name_words = some ⟨oc28,od28,.func (fS "words" "Name.words" yu kV28 dc28 pm28 an28 cd28 ct28),sl28⟩)
    (cc_28 : codeIn K cd28 "Name.words" = true)
    (kk_28 : keepIn K (.ref f_Name_words) = true)
    (a_29 : findIn K (.ref c_Two) "__init__" = some (some (.ref f_Two___init__)))
    (i_29 : isFn K (.ref f_Two___init__) = true)
    (l_29 : K.lookup f_Two___init__ = some ⟨oc29,od29,.func (fS "__init__" "Two.__init__" yd kV29 dc29 pm29 an29 cd29 ct29),sl29⟩)
    (cc_29 : codeIn K cd29 "Two.__init__" = true)
    (kk_29 : keepIn K (.ref f_Two___init__) = true)
    (a_30 : findIn K (.ref c_Two) "words" = some (some (.ref f_Two_words)))
    (i_30 : isFn K (.ref f_Two_words) = true)
    (l_30 : K.lookup f_Two_words = some ⟨oc30,od30,.func (fS "words" "Two.words" yJ kV30 dc30 pm30 an30 cd30 ct30),sl30⟩)
    (cc_30 : codeIn K cd30 "Two.words" = true)
    (kk_30 : keepIn K (.ref f_Two_words) = true)
    (a_31 : findIn K (.ref c_Mod) "__init__" = some (some (.ref f_Mod___init__)))
    (i_31 : isFn K (.ref f_Mod___init__) = true)
    (l_31 : K.lookup f_Mod___init__ = some ⟨oc31,od31,.func (fS "__init__" "Mod.__init__" yf kV31 dc31 pm31 an31 cd31 ct31),sl31⟩)
    (cc_31 : codeIn K cd31 "Mod.__init__" = true)
    (kk_31 : keepIn K (.ref f_Mod___init__) = true)
    (a_32 : findIn K (.ref c_Mod) "words" = some (some (.ref f_Mod_words)))
    (i_32 : isFn K (.ref f_Mod_words) = true)
    (l_32 : K.lookup f_Mod_words = some ⟨oc32,od32,.func (fS "words" "Mod.words" yM kV32 dc32 pm32 an32 cd32 ct32),sl32⟩)
    (cc_32 : codeIn K cd32 "Mod.words" = true)
    (kk_32 : keepIn K (.ref f_Mod_words) = true)
    (a_33 : findIn K (.ref c_Less) "__init__" = some (some (.ref f_Less___init__)))
    (i_33 : isFn K (.ref f_Less___init__) = true)
    (l_33 : K.lookup f_Less___init__ = some ⟨oc33,od33,.func (fS "__init__" "Less.__init__" zU kV33 dc33 pm33 an33 cd33 ct33),sl33⟩)
    (cc_33 : codeIn K cd33 "Less.__init__" = true)
    (kk_33 : keepIn K (.ref f_Less___init__) = true)
    (a_34 : findIn K (.ref c_Less) "words" = some (some (.ref f_Less_words)))
    (i_34 : isFn K (.ref f_Less_words) = true)
    (l_34 : K.lookup f_Less_words = some ⟨oc34,od34,.func (fS "words" "Less.words" yv kV34 dc34 pm34 an34 cd34 ct34),sl34⟩)
    (cc_34 : codeIn K cd34 "Less.words" = true)
    (kk_34 : keepIn K (.ref f_Less_words) = true)
    (a_35 : findIn K (.ref c_Program) "__init__" = some (some (.ref f_Program___init__)))
    (i_35 : isFn K (.ref f_Program___init__) = true)
    (l_35 : K.lookup f_Program___init__ = some ⟨oc35,od35,.func (fS "__init__" "Program.__init__" zJ kV35 dc35 pm35 an35 cd35 ct35),sl35⟩)
    (cc_35 : codeIn K cd35 "Program.__init__" = true)
    (kk_35 : keepIn K (.ref f_Program___init__) = true)
    (a_36 : findIn K (.ref c_NoText) "__init__" = some (some (.ref f_NoText___init__)))
    (i_36 : isFn K (.ref f_NoText___init__) = true)
    (l_36 : K.lookup f_NoText___init__ = some ⟨oc36,od36,.func (fS "__init__" "NoText.__init__" zN kV36 dc36 pm36 an36 cd36 ct36),sl36⟩)
    (cc_36 : codeIn K cd36 "NoText.__init__" = true)
    (kk_36 : keepIn K (.ref f_NoText___init__) = true)
    (pg_Num : plainGet K c_Num Str.empty = true)
    (hd_Num : hasDictIn K c_Num = true)
    (po_Num : plainOver K c_Num = true)
    (sa_Num : findIn K (.ref c_Num) "__setattr__" = some (some (.builtin "object.__setattr__")))
    (mk_Num : makesIn K c_Num = true)
    (kc_Num : keepIn K (.ref c_Num) = true)
    (ha_Num : findIn K (.ref c_Num) "__class__" = some (some (.builtin "object.__class__")))
    (hm_Num : mroIn K c_Num (.type "object") = some true)
    (na_Num_value : findIn K (.ref c_Num) "value" = some none)
    (pg_Name : plainGet K c_Name Str.empty = true)
    (hd_Name : hasDictIn K c_Name = true)
    (po_Name : plainOver K c_Name = true)
    (sa_Name : findIn K (.ref c_Name) "__setattr__" = some (some (.builtin "object.__setattr__")))
    (mk_Name : makesIn K c_Name = true)
    (kc_Name : keepIn K (.ref c_Name) = true)
    (ha_Name : findIn K (.ref c_Name) "__class__" = some (some (.builtin "object.__class__")))
    (hm_Name : mroIn K c_Name (.type "object") = some true)
    (na_Name_word : findIn K (.ref c_Name) "word" = some none)
    (pg_Two : plainGet K c_Two Str.empty = true)
    (hd_Two : hasDictIn K c_Two = true)
    (po_Two : plainOver K c_Two = true)
    (sa_Two : findIn K (.ref c_Two) "__setattr__" = some (some (.builtin "object.__setattr__")))
    (mk_Two : makesIn K c_Two = true)
    (kc_Two : keepIn K (.ref c_Two) = true)
    (ha_Two : findIn K (.ref c_Two) "__class__" = some (some (.builtin "object.__class__")))
    (hm_Two : mroIn K c_Two (.type "object") = some true)
    (na_Two_word : findIn K (.ref c_Two) "word" = some none)
    (na_Two_one : findIn K (.ref c_Two) "one" = some none)
    (na_Two_other : findIn K (.ref c_Two) "other" = some none)
    (pg_Mod : plainGet K c_Mod Str.empty = true)
    (hd_Mod : hasDictIn K c_Mod = true)
    (po_Mod : plainOver K c_Mod = true)
    (sa_Mod : findIn K (.ref c_Mod) "__setattr__" = some (some (.builtin "object.__setattr__")))
    (mk_Mod : makesIn K c_Mod = true)
    (kc_Mod : keepIn K (.ref c_Mod) = true)
    (ha_Mod : findIn K (.ref c_Mod) "__class__" = some (some (.builtin "object.__class__")))
    (hm_Mod : mroIn K c_Mod (.type "object") = some true)
    (na_Mod_inner : findIn K (.ref c_Mod) "inner" = some none)
    (na_Mod_number : findIn K (.ref c_Mod) "number" = some none)
    (pg_Less : plainGet K c_Less Str.empty = true)
    (hd_Less : hasDictIn K c_Less = true)
    (po_Less : plainOver K c_Less = true)
    (sa_Less : findIn K (.ref c_Less) "__setattr__" = some (some (.builtin "object.__setattr__")))
    (mk_Less : makesIn K c_Less = true)
    (kc_Less : keepIn K (.ref c_Less) = true)
    (ha_Less : findIn K (.ref c_Less) "__class__" = some (some (.builtin "object.__class__")))
    (hm_Less : mroIn K c_Less (.type "object") = some true)
    (na_Less_one : findIn K (.ref c_Less) "one" = some none)
    (na_Less_other : findIn K (.ref c_Less) "other" = some none)
    (na_Less_third : findIn K (.ref c_Less) "third" = some none)
    (na_Less_fourth : findIn K (.ref c_Less) "fourth" = some none)
    (pg_Program : plainGet K c_Program Str.empty = true)
    (hd_Program : hasDictIn K c_Program = true)
    (po_Program : plainOver K c_Program = true)
    (sa_Program : findIn K (.ref c_Program) "__setattr__" = some (some (.builtin "object.__setattr__")))
    (mk_Program : makesIn K c_Program = true)
    (kc_Program : keepIn K (.ref c_Program) = true)
    (ha_Program : findIn K (.ref c_Program) "__class__" = some (some (.builtin "object.__class__")))
    (hm_Program : mroIn K c_Program (.type "object") = some true)
    (na_Program_start : findIn K (.ref c_Program) "start" = some none)
    (na_Program_send : findIn K (.ref c_Program) "send" = some none)
    (na_Program_when : findIn K (.ref c_Program) "when" = some none)
    (na_Program_renew : findIn K (.ref c_Program) "renew" = some none)
    (hn : specialIn K (.builtin "object.__class__") "__get__" = some (some (.builtin "getset_descriptor.__get__")))
    (htk : takesIn K (.builtin "object.__class__") = some true)
    (A_NoWeb : nsIn K mainGlobals "NoWeb" = some (some (.ref c_NoWeb)))
    (A_BeatlessError : nsIn K mainGlobals "BeatlessError" = some (some (.ref c_BeatlessError)))
    (A_NoProgram : nsIn K mainGlobals "NoProgram" = some (some (.ref c_NoProgram)))
    (X_NoProgram : excIn K c_NoProgram ZF "ValueError.__new__" = true)
    (xga_NoText : findIn K (.ref c_NoText) "__getattribute__" = some (some (.builtin "BaseException.__getattribute__")))
    (xgt_NoText : findIn K (.ref c_NoText) "__getattr__" = some none)
    (xha_NoText : findIn K (.ref c_NoText) "__class__" = some (some (.builtin "object.__class__")))
    (xhm_NoText : mroIn K c_NoText (.type "object") = some true)
    (xhb_NoText : mroIn K c_NoText (.type "BaseException") = some true)
    (xhd_NoText : hasDictIn K c_NoText = true)
    (Y1_NoText : Ym K c_NoText f_NoText___init__ = true)
    (Y2_NoText : (K.lookup f_NoText___init__).any (fun o=>o.cls == .type "function") = true)
    (y3_NoText : keepIn K (.ref c_NoText) = true)
    (y4_NoText : findIn K (.ref c_NoText) "__setattr__" = some (some (.builtin "object.__setattr__")))
    (y5_NoText : mroIn K c_NoText (.type "object") = some true)
    (Y6_NoText : (PySem.W.clsIn K c_NoText).any (fun cd=>vj cd.mro) = true)
    (y7_NoText : hasDictIn K c_NoText = true)
    (y8_NoText : findIn K (.ref c_NoText) "row" = some none)
    (y9_NoText : findIn K (.ref c_NoText) "__getattribute__" = some (some (.builtin "BaseException.__getattribute__")))
    (yA_NoText : findIn K (.ref c_NoText) "__getattr__" = some none)
    (yB_NoText : mroIn K c_NoText (.type "BaseException") = some true)
    (k_Num_Num : kitOne K (.ref c_Num) (.ref c_Num) = some true)
    (k_Name_Num : kitOne K (.ref c_Name) (.ref c_Num) = some false)
    (k_Name_Name : kitOne K (.ref c_Name) (.ref c_Name) = some true)
    (k_Two_Num : kitOne K (.ref c_Two) (.ref c_Num) = some false)
    (k_Two_Name : kitOne K (.ref c_Two) (.ref c_Name) = some false)
    (k_Two_Two : kitOne K (.ref c_Two) (.ref c_Two) = some true)
    (k_Mod_Num : kitOne K (.ref c_Mod) (.ref c_Num) = some false)
    (k_Mod_Name : kitOne K (.ref c_Mod) (.ref c_Name) = some false)
    (k_Mod_Two : kitOne K (.ref c_Mod) (.ref c_Two) = some false)
    (k_Mod_Mod : kitOne K (.ref c_Mod) (.ref c_Mod) = some true)
    (k_Less_Num : kitOne K (.ref c_Less) (.ref c_Num) = some false)
    (k_Less_Name : kitOne K (.ref c_Less) (.ref c_Name) = some false)
    (k_Less_Two : kitOne K (.ref c_Less) (.ref c_Two) = some false)
    (k_Less_Mod : kitOne K (.ref c_Less) (.ref c_Mod) = some false)
    (k_Less_Less : kitOne K (.ref c_Less) (.ref c_Less) = some true)
    (k_tint_tint : kitOne K (.type "int") (.type "int") = some true)
    (k_tint_tbool : kitOne K (.type "int") (.type "bool") = some false)
    (k_tstr_tstr : kitOne K (.type "str") (.type "str") = some true)
    (k_ttuple_ttuple : kitOne K (.type "tuple") (.type "tuple") = some true)
    (k_tint_ttuple : kitOne K (.type "int") (.type "tuple") = some false)
    (k_tstr_ttuple : kitOne K (.type "str") (.type "tuple") = some false)
    (k_tint_tstr : kitOne K (.type "int") (.type "str") = some false)
    (k_tstr_tint : kitOne K (.type "str") (.type "int") = some false)
    (k_tstr_tbool : kitOne K (.type "str") (.type "bool") = some false)
    (k_Program_Program : kitOne K (.ref c_Program) (.ref c_Program) = some true)
    (k_NoText_NoProgram : kitOne K (.ref c_NoText) (.ref c_NoProgram) = some false)
    (k_NoText_NoWeb : kitOne K (.ref c_NoText) (.ref c_NoWeb) = some false)
    (k_NoText_BeatlessError : kitOne K (.ref c_NoText) (.ref c_BeatlessError) = some true)
    (k_tNoneType_tstr : kitOne K (.type "NoneType") (.type "str") = some false)
    (k_tbool_tstr : kitOne K (.type "bool") (.type "str") = some false)
    (k_tlist_tstr : kitOne K (.type "list") (.type "str") = some false)
    (k_ttuple_tstr : kitOne K (.type "tuple") (.type "str") = some false)
    (G_START_NAMES : nsIn K mainGlobals "START_NAMES" = some (some (.ref t_START_NAMES)))
    (L_START_NAMES : K.lookup t_START_NAMES = some ⟨.type "tuple",od_START_NAMES,.seq #[.str "me" u_START_NAMES0,.str "lines" u_START_NAMES1] n_START_NAMES,sl_START_NAMES⟩)
    (G_SEND_NAMES : nsIn K mainGlobals "SEND_NAMES" = some (some (.ref t_SEND_NAMES)))
    (L_SEND_NAMES : K.lookup t_SEND_NAMES = some ⟨.type "tuple",od_SEND_NAMES,.seq #[.str "worth" u_SEND_NAMES0,.str "me" u_SEND_NAMES1,.str "round" u_SEND_NAMES2,.str "lines" u_SEND_NAMES3,.str "to" u_SEND_NAMES4] n_SEND_NAMES,sl_SEND_NAMES⟩)
    (G_RENEW_NAMES : nsIn K mainGlobals "RENEW_NAMES" = some (some (.ref t_RENEW_NAMES)))
    (L_RENEW_NAMES : K.lookup t_RENEW_NAMES = some ⟨.type "tuple",od_RENEW_NAMES,.seq #[.str "worth" u_RENEW_NAMES0,.str "me" u_RENEW_NAMES1,.str "round" u_RENEW_NAMES2,.str "lines" u_RENEW_NAMES3,.str "sum" u_RENEW_NAMES4,.str "least" u_RENEW_NAMES5,.str "most" u_RENEW_NAMES6,.str "count" u_RENEW_NAMES7] n_RENEW_NAMES,sl_RENEW_NAMES⟩)
    (G_TWO_WORDS : nsIn K mainGlobals "TWO_WORDS" = some (some (.ref t_TWO_WORDS)))
    (L_TWO_WORDS : K.lookup t_TWO_WORDS = some ⟨.type "tuple",od_TWO_WORDS,.seq #[.str "add" u_TWO_WORDS0,.str "sub" u_TWO_WORDS1,.str "min" u_TWO_WORDS2,.str "max" u_TWO_WORDS3] n_TWO_WORDS,sl_TWO_WORDS⟩)
    (G_MOST_WORDS : nsIn K mainGlobals "MOST_WORDS" = some (some (.int 60 t_MOST_WORDS)))
    (G_MOST_DEEP : nsIn K mainGlobals "MOST_DEEP" = some (some (.int 8 t_MOST_DEEP)))
    (G_ALL_NAMES : nsIn K mainGlobals "ALL_NAMES" = some (some (.ref t_ALL_NAMES)))
    (L_ALL_NAMES : K.lookup t_ALL_NAMES = some ⟨.type "tuple",od_ALL_NAMES,.seq #[.str "worth" u_ALL_NAMES0,.str "me" u_ALL_NAMES1,.str "round" u_ALL_NAMES2,.str "lines" u_ALL_NAMES3,.str "to" u_ALL_NAMES4,.str "sum" u_ALL_NAMES5,.str "least" u_ALL_NAMES6,.str "most" u_ALL_NAMES7,.str "count" u_ALL_NAMES8] n_ALL_NAMES,sl_ALL_NAMES⟩)
    (G_ROW_WORDS : nsIn K mainGlobals "ROW_WORDS" = some (some (.ref t_ROW_WORDS)))
    (L_ROW_WORDS : K.lookup t_ROW_WORDS = some ⟨.type "tuple",od_ROW_WORDS,.seq #[.str "start" u_ROW_WORDS0,.str "send" u_ROW_WORDS1,.str "when" u_ROW_WORDS2,.str "reckon" u_ROW_WORDS3] n_ROW_WORDS,sl_ROW_WORDS⟩)
    (G_PARTS : nsIn K mainGlobals "PARTS" = some (some (.ref t_PARTS)))
    (L_PARTS : K.lookup t_PARTS = some ⟨.type "dict",none,.dict #[⟨PyData.keyHash w.params "add",.str "add" u_PARTS0,.int 2 v_PARTS0⟩,⟨PyData.keyHash w.params "sub",.str "sub" u_PARTS1,.int 2 v_PARTS1⟩,⟨PyData.keyHash w.params "min",.str "min" u_PARTS2,.int 2 v_PARTS2⟩,⟨PyData.keyHash w.params "max",.str "max" u_PARTS3,.int 2 v_PARTS3⟩,⟨PyData.keyHash w.params "mod",.str "mod" u_PARTS4,.int 2 v_PARTS4⟩,⟨PyData.keyHash w.params "less",.str "less" u_PARTS5,.int 4 v_PARTS5⟩] n_PARTS,#[]⟩)
    (M_PARTS : (t_PARTS == sysModules) = false)
    (G_FIGURES : nsIn K mainGlobals "FIGURES" = some (some (.str "0123456789" t_FIGURES))) :
    ∃ a : Ad,Txt w K mg a:=by
  have F0:=zG (st:=yW) l_0 cc_0 kk_0
  have F1:=zG (st:=zM) l_1 cc_1 kk_1
  have F2:=zG (st:=yq) l_2 cc_2 kk_2
  have F3:=zG (st:=yr) l_3 cc_3 kk_3
  have F4:=zG (st:=yD) l_4 cc_4 kk_4
  have F5:=zG (st:=yX) l_5 cc_5 kk_5
  have F6:=zG (st:=zV) l_6 cc_6 kk_6
  have F7:=zG (st:=zQ) l_7 cc_7 kk_7
  have F8:=zG (st:=zR) l_8 cc_8 kk_8
  have F9:=zG (st:=yC) l_9 cc_9 kk_9
  have F10:=zG (st:=yB) l_10 cc_10 kk_10
  have F11:=zG (st:=yp) l_11 cc_11 kk_11
  have F12:=zG (st:=yV) l_12 cc_12 kk_12
  have F13:=zG (st:=z0) l_13 cc_13 kk_13
  have F14:=zG (st:=yc) l_14 cc_14 kk_14
  have F15:=zG (st:=yt) l_15 cc_15 kk_15
  have F16:=zG (st:=yI) l_16 cc_16 kk_16
  have F17:=zG (st:=yF) l_17 cc_17 kk_17
  have F18:=zG (st:=yH) l_18 cc_18 kk_18
  have F19:=zG (st:=yE) l_19 cc_19 kk_19
  have F20:=zG (st:=yG) l_20 cc_20 kk_20
  have F21:=zG (st:=yb) l_21 cc_21 kk_21
  have F22:=zG (st:=ya) l_22 cc_22 kk_22
  have F23:=zG (st:=yY) l_23 cc_23 kk_23
  have F24:=zG (st:=uB) l_24 cc_24 kk_24
  have F25:=zG (st:=ye) l_25 cc_25 kk_25
  have F26:=zG (st:=yL) l_26 cc_26 kk_26
  have F27:=zG (st:=zT) l_27 cc_27 kk_27
  have F28:=zG (st:=yu) l_28 cc_28 kk_28
  have F29:=zG (st:=yd) l_29 cc_29 kk_29
  have F30:=zG (st:=yJ) l_30 cc_30 kk_30
  have F31:=zG (st:=yf) l_31 cc_31 kk_31
  have F32:=zG (st:=yM) l_32 cc_32 kk_32
  have F33:=zG (st:=zU) l_33 cc_33 kk_33
  have F34:=zG (st:=yv) l_34 cc_34 kk_34
  have F35:=zG (st:=zJ) l_35 cc_35 kk_35
  have F36:=zG (st:=zN) l_36 cc_36 kk_36
  refine ⟨⟨f_is_whole,fS "is_whole" "is_whole" yW kV0 dc0 pm0 an0 cd0 ct0,f_is_short_number,fS "is_short_number" "is_short_number" zM kV1 dc1 pm1 an1 cd1 ct1,f_is_word_of,fS "is_word_of" "is_word_of" yq kV2 dc2 pm2 an2 cd2 ct2,f_is_divisor,fS "is_divisor" "is_divisor" yr kV3 dc3 pm3 an3 cd3 ct3,f_are_sound,fS "are_sound" "are_sound" yD kV4 dc4 pm4 an4 cd4 ct4,f_is_sound,fS "is_sound" "is_sound" yX kV5 dc5 pm5 an5 cd5 ct5,f_count_words,fS "count_words" "count_words" zV kV6 dc6 pm6 an6 cd6 ct6,f_program_text,fS "program_text" "program_text" zQ kV7 dc7 pm7 an7 cd7 ct7,f_is_number_word,fS "is_number_word" "is_number_word" zR kV8 dc8 pm8 an8 cd8 ct8,f_number_of,fS "number_of" "number_of" yC kV9 dc9 pm9 an9 cd9 ct9,f_read_part,fS "read_part" "read_part" yB kV10 dc10 pm10 an10 cd10 ct10,f_read_words,fS "read_words" "read_words" yp kV11 dc11 pm11 an11 cd11 ct11,f_read_row,fS "read_row" "read_row" yV kV12 dc12 pm12 an12 cd12 ct12,f_read_program,fS "read_program" "read_program" z0 kV13 dc13 pm13 an13 cd13 ct13,f__law_cell_at,fS "_law_cell_at" "_law_cell_at" yc kV14 dc14 pm14 an14 cd14 ct14,f__law_digit,fS "_law_digit" "_law_digit" yt kV15 dc15 pm15 an15 cd15 ct15,f__law_expr,fS "_law_expr" "_law_expr" yI kV16 dc16 pm16 an16 cd16 ct16,f__law_made,fS "_law_made" "_law_made" yF kV17 dc17 pm17 an17 cd17 ct17,f__law_fits,fS "_law_fits" "_law_fits" yH kV18 dc18 pm18 an18 cd18 ct18,f__law_size,fS "_law_size" "_law_size" yE kV19 dc19 pm19 an19 cd19 ct19,f__law_four,fS "_law_four" "_law_four" yG kV20 dc20 pm20 an20 cd20 ct20,f__law_program,fS "_law_program" "_law_program" yb kV21 dc21 pm21 an21 cd21 ct21,f__law_spoiled,fS "_law_spoiled" "_law_spoiled" ya kV22 dc22 pm22 an22 cd22 ct22,f__law_row,fS "_law_row" "_law_row" yY kV23 dc23 pm23 an23 cd23 ct23,f_law,fS "law" "law" uB kV24 dc24 pm24 an24 cd24 ct24,f_Num___init__,fS "__init__" "Num.__init__" ye kV25 dc25 pm25 an25 cd25 ct25,f_Num_words,fS "words" "Num.words" yL kV26 dc26 pm26 an26 cd26 ct26,f_Name___init__,fS "__init__" "Name.__init__" zT kV27 dc27 pm27 an27 cd27 ct27,f_Name_words,fS "words" "Name.words" yu kV28 dc28 pm28 an28 cd28 ct28,f_Two___init__,fS "__init__" "Two.__init__" yd kV29 dc29 pm29 an29 cd29 ct29,f_Two_words,fS "words" "Two.words" yJ kV30 dc30 pm30 an30 cd30 ct30,f_Mod___init__,fS "__init__" "Mod.__init__" yf kV31 dc31 pm31 an31 cd31 ct31,f_Mod_words,fS "words" "Mod.words" yM kV32 dc32 pm32 an32 cd32 ct32,f_Less___init__,fS "__init__" "Less.__init__" zU kV33 dc33 pm33 an33 cd33 ct33,f_Less_words,fS "words" "Less.words" yv kV34 dc34 pm34 an34 cd34 ct34,f_Program___init__,fS "__init__" "Program.__init__" zJ kV35 dc35 pm35 an35 cd35 ct35,f_NoText___init__,fS "__init__" "NoText.__init__" zN kV36 dc36 pm36 an36 cd36 ct36,c_Num,c_Name,c_Two,c_Mod,c_Less,c_Program,c_NoProgram,c_NoWeb,c_BeatlessError,c_NoText,t_START_NAMES,t_SEND_NAMES,t_RENEW_NAMES,t_TWO_WORDS,t_MOST_WORDS,t_MOST_DEEP,t_ALL_NAMES,t_ROW_WORDS,t_PARTS,t_FIGURES⟩,?_⟩
  exact ⟨mg_none_of X G z_len,
    mg_none_of X G z_int,
    mg_none_of X G z_min,
    mg_none_of X G z_max,
    mg_none_of X G z_range,
    mg_none_of X G z_isinstance,
    mg_none_of X G z_zip,
    mg_none_of X G z_abs,
    mg_none_of X G z_str,
    mg_none_of X G z_sum,
    mg_none_of X G z_bool,
    mg_none_of X G z_tuple,
    mg_none_of X G z_enumerate,
    mg_none_of X G z_reversed,
    mg_none_of X G z_ValueError,
    F0,
    F0.binds (ps:=["value"]) fun _ _ _ _ _ _ us hl=>match us,hl with | [_],_=>rfl,
    mg_of X G a_0,
    F1,
    F1.binds (ps:=["value"]) fun _ _ _ _ _ _ us hl=>match us,hl with | [_],_=>rfl,
    mg_of X G a_1,
    F2,
    F2.binds (ps:=["word", "words"]) fun _ _ _ _ _ _ us hl=>match us,hl with | [_,_],_=>rfl,
    mg_of X G a_2,
    F3,
    F3.binds (ps:=["number"]) fun _ _ _ _ _ _ us hl=>match us,hl with | [_],_=>rfl,
    mg_of X G a_3,
    F4,
    F4.binds (ps:=["parts", "names", "deep"]) fun _ _ _ _ _ _ us hl=>match us,hl with | [_,_,_],_=>rfl,
    mg_of X G a_4,
    F5,
    F5.binds (ps:=["expr", "names", "deep"]) fun _ _ _ _ _ _ us hl=>match us,hl with | [_,_,_],_=>rfl,
    mg_of X G a_5,
    F6,
    F6.binds (ps:=["exprs"]) fun _ _ _ _ _ _ us hl=>match us,hl with | [_],_=>rfl,
    mg_of X G a_6,
    F7,
    F7.binds (ps:=["program"]) fun _ _ _ _ _ _ us hl=>match us,hl with | [_],_=>rfl,
    mg_of X G a_7,
    F8,
    F8.binds (ps:=["word"]) fun _ _ _ _ _ _ us hl=>match us,hl with | [_],_=>rfl,
    mg_of X G a_8,
    F9,
    F9.binds (ps:=["word"]) fun _ _ _ _ _ _ us hl=>match us,hl with | [_],_=>rfl,
    mg_of X G a_9,
    F10,
    F10.binds (ps:=["word", "parts"]) fun _ _ _ _ _ _ us hl=>match us,hl with | [_,_],_=>rfl,
    mg_of X G a_10,
    F11,
    F11.binds (ps:=["words"]) fun _ _ _ _ _ _ us hl=>match us,hl with | [_],_=>rfl,
    mg_of X G a_11,
    F12,
    F12.binds (ps:=["row", "first"]) fun _ _ _ _ _ _ us hl=>match us,hl with | [_,_],_=>rfl,
    mg_of X G a_12,
    F13,
    F13.binds (ps:=["text"]) fun _ _ _ _ _ _ us hl=>match us,hl with | [_],_=>rfl,
    mg_of X G a_13,
    F14,
    F14.binds (ps:=["_law_script", "_law_k"]) fun _ _ _ _ _ _ us hl=>match us,hl with | [_,_],_=>rfl,
    mg_of X G a_14,
    F15,
    F15.binds (ps:=["_law_state", "_law_base"]) fun _ _ _ _ _ _ us hl=>match us,hl with | [_,_],_=>rfl,
    mg_of X G a_15,
    F16,
    F16.binds (ps:=["_law_state", "_law_names", "_law_deep"]) fun _ _ _ _ _ _ us hl=>match us,hl with | [_,_,_],_=>rfl,
    mg_of X G a_16,
    F17,
    F17.binds (ps:=["_law_told"]) fun _ _ _ _ _ _ us hl=>match us,hl with | [_],_=>rfl,
    mg_of X G a_17,
    F18,
    F18.binds (ps:=["_law_state", "_law_names", "_law_deep"]) fun _ _ _ _ _ _ us hl=>match us,hl with | [_,_,_],_=>rfl,
    mg_of X G a_18,
    F19,
    F19.binds (ps:=["_law_told"]) fun _ _ _ _ _ _ us hl=>match us,hl with | [_],_=>rfl,
    mg_of X G a_19,
    F20,
    F20.binds (ps:=["_law_state"]) fun _ _ _ _ _ _ us hl=>match us,hl with | [_],_=>rfl,
    mg_of X G a_20,
    F21,
    F21.binds (ps:=["_law_four_here"]) fun _ _ _ _ _ _ us hl=>match us,hl with | [_],_=>rfl,
    mg_of X G a_21,
    F22,
    F22.binds (ps:=["_law_row_here", "_law_cell"]) fun _ _ _ _ _ _ us hl=>match us,hl with | [_,_],_=>rfl,
    mg_of X G a_22,
    F23,
    F23.binds (ps:=["_law_text"]) fun _ _ _ _ _ _ us hl=>match us,hl with | [_],_=>rfl,
    mg_of X G a_23,
    F24,
    F24.binds (ps:=["_law_script"]) fun _ _ _ _ _ _ us hl=>match us,hl with | [_],_=>rfl,
    fun s v=>.of_eq rfl,
    mg_of X G a_24,
    F25,
    F25.binds (ps:=["self", "value"]) fun _ _ _ _ _ _ us hl=>match us,hl with | [_,_],_=>rfl,
    F26,
    F26.binds (ps:=["self"]) fun _ _ _ _ _ _ us hl=>match us,hl with | [_],_=>rfl,
    ⟨a_26,i_26,kk_26⟩,
    F27,
    F27.binds (ps:=["self", "word"]) fun _ _ _ _ _ _ us hl=>match us,hl with | [_,_],_=>rfl,
    F28,
    F28.binds (ps:=["self"]) fun _ _ _ _ _ _ us hl=>match us,hl with | [_],_=>rfl,
    ⟨a_28,i_28,kk_28⟩,
    F29,
    F29.binds (ps:=["self", "word", "one", "other"]) fun _ _ _ _ _ _ us hl=>match us,hl with | [_,_,_,_],_=>rfl,
    F30,
    F30.binds (ps:=["self"]) fun _ _ _ _ _ _ us hl=>match us,hl with | [_],_=>rfl,
    ⟨a_30,i_30,kk_30⟩,
    F31,
    F31.binds (ps:=["self", "inner", "number"]) fun _ _ _ _ _ _ us hl=>match us,hl with | [_,_,_],_=>rfl,
    F32,
    F32.binds (ps:=["self"]) fun _ _ _ _ _ _ us hl=>match us,hl with | [_],_=>rfl,
    ⟨a_32,i_32,kk_32⟩,
    F33,
    F33.binds (ps:=["self", "one", "other", "third", "fourth"]) fun _ _ _ _ _ _ us hl=>match us,hl with | [_,_,_,_,_],_=>rfl,
    F34,
    F34.binds (ps:=["self"]) fun _ _ _ _ _ _ us hl=>match us,hl with | [_],_=>rfl,
    ⟨a_34,i_34,kk_34⟩,
    F35,
    F35.binds (ps:=["self", "start", "send", "when", "renew"]) fun _ _ _ _ _ _ us hl=>match us,hl with | [_,_,_,_,_],_=>rfl,
    F36,
    F36.binds (ps:=["self", "row"]) fun _ _ _ _ _ _ us hl=>match us,hl with | [_,_],_=>rfl,
    mg_of X G A_Num,
    ⟨pg_Num,hd_Num,po_Num,sa_Num⟩,
    ⟨mk_Num,a_25,i_25,kc_Num⟩,
    fun H p dx fs e=>.ins e ⟨pg_Num,hd_Num,po_Num,sa_Num⟩ ha_Num hn htk hm_Num,
    na_Num_value,
    mg_of X G A_Name,
    ⟨pg_Name,hd_Name,po_Name,sa_Name⟩,
    ⟨mk_Name,a_27,i_27,kc_Name⟩,
    fun H p dx fs e=>.ins e ⟨pg_Name,hd_Name,po_Name,sa_Name⟩ ha_Name hn htk hm_Name,
    na_Name_word,
    mg_of X G A_Two,
    ⟨pg_Two,hd_Two,po_Two,sa_Two⟩,
    ⟨mk_Two,a_29,i_29,kc_Two⟩,
    fun H p dx fs e=>.ins e ⟨pg_Two,hd_Two,po_Two,sa_Two⟩ ha_Two hn htk hm_Two,
    na_Two_word,
    na_Two_one,
    na_Two_other,
    mg_of X G A_Mod,
    ⟨pg_Mod,hd_Mod,po_Mod,sa_Mod⟩,
    ⟨mk_Mod,a_31,i_31,kc_Mod⟩,
    fun H p dx fs e=>.ins e ⟨pg_Mod,hd_Mod,po_Mod,sa_Mod⟩ ha_Mod hn htk hm_Mod,
    na_Mod_inner,
    na_Mod_number,
    mg_of X G A_Less,
    ⟨pg_Less,hd_Less,po_Less,sa_Less⟩,
    ⟨mk_Less,a_33,i_33,kc_Less⟩,
    fun H p dx fs e=>.ins e ⟨pg_Less,hd_Less,po_Less,sa_Less⟩ ha_Less hn htk hm_Less,
    na_Less_one,
    na_Less_other,
    na_Less_third,
    na_Less_fourth,
    mg_of X G A_Program,
    ⟨pg_Program,hd_Program,po_Program,sa_Program⟩,
    ⟨mk_Program,a_35,i_35,kc_Program⟩,
    fun H p dx fs e=>.ins e ⟨pg_Program,hd_Program,po_Program,sa_Program⟩ ha_Program hn htk hm_Program,
    na_Program_start,
    na_Program_send,
    na_Program_when,
    na_Program_renew,
    k_Num_Num,
    k_Name_Num,
    k_Name_Name,
    k_Two_Num,
    k_Two_Name,
    k_Two_Two,
    k_Mod_Num,
    k_Mod_Name,
    k_Mod_Two,
    k_Mod_Mod,
    k_Less_Num,
    k_Less_Name,
    k_Less_Two,
    k_Less_Mod,
    k_Less_Less,
    k_tint_tint,
    k_tint_tbool,
    k_tstr_tstr,
    k_ttuple_ttuple,
    k_tint_ttuple,
    k_tstr_ttuple,
    k_tint_tstr,
    k_tstr_tint,
    k_tstr_tbool,
    k_Program_Program,
    k_NoText_NoProgram,
    k_NoText_NoWeb,
    k_NoText_BeatlessError,
    k_tNoneType_tstr,
    k_tbool_tstr,
    k_tlist_tstr,
    k_ttuple_tstr,
    mg_of X G G_START_NAMES,
    fun H=>.inr ⟨_,_,_,L_START_NAMES,rfl,rfl,by show 2 ≤ sizeLine; decide,by exact .cons ⟨_,rfl⟩ (.cons ⟨_,rfl⟩ (.nil))⟩,
    mg_of X G G_SEND_NAMES,
    fun H=>.inr ⟨_,_,_,L_SEND_NAMES,rfl,rfl,by show 5 ≤ sizeLine; decide,by exact .cons ⟨_,rfl⟩ (.cons ⟨_,rfl⟩ (.cons ⟨_,rfl⟩ (.cons ⟨_,rfl⟩ (.cons ⟨_,rfl⟩ (.nil)))))⟩,
    mg_of X G G_RENEW_NAMES,
    fun H=>.inr ⟨_,_,_,L_RENEW_NAMES,rfl,rfl,by show 8 ≤ sizeLine; decide,by exact .cons ⟨_,rfl⟩ (.cons ⟨_,rfl⟩ (.cons ⟨_,rfl⟩ (.cons ⟨_,rfl⟩ (.cons ⟨_,rfl⟩ (.cons ⟨_,rfl⟩ (.cons ⟨_,rfl⟩ (.cons ⟨_,rfl⟩ (.nil))))))))⟩,
    mg_of X G G_TWO_WORDS,
    fun H=>.inr ⟨_,_,_,L_TWO_WORDS,rfl,rfl,by show 4 ≤ sizeLine; decide,by exact .cons ⟨_,rfl⟩ (.cons ⟨_,rfl⟩ (.cons ⟨_,rfl⟩ (.cons ⟨_,rfl⟩ (.nil))))⟩,
    mg_of X G G_MOST_WORDS,
    mg_of X G G_MOST_DEEP,
    mg_of X G G_ALL_NAMES,
    fun H=>.inr ⟨_,_,_,L_ALL_NAMES,rfl,rfl,by show 9 ≤ sizeLine; decide,by exact .cons ⟨_,rfl⟩ (.cons ⟨_,rfl⟩ (.cons ⟨_,rfl⟩ (.cons ⟨_,rfl⟩ (.cons ⟨_,rfl⟩ (.cons ⟨_,rfl⟩ (.cons ⟨_,rfl⟩ (.cons ⟨_,rfl⟩ (.cons ⟨_,rfl⟩ (.nil)))))))))⟩,
    mg_of X G G_ROW_WORDS,
    fun H=>.inr ⟨_,_,_,L_ROW_WORDS,rfl,rfl,by show 4 ≤ sizeLine; decide,by exact .cons ⟨_,rfl⟩ (.cons ⟨_,rfl⟩ (.cons ⟨_,rfl⟩ (.cons ⟨_,rfl⟩ (.nil))))⟩,
    mg_of X G G_PARTS,
    ⟨M_PARTS,by decide +kernel,[⟨"add",2,u_PARTS0,v_PARTS0⟩,⟨"sub",2,u_PARTS1,v_PARTS1⟩,⟨"min",2,u_PARTS2,v_PARTS2⟩,⟨"max",2,u_PARTS3,v_PARTS3⟩,⟨"mod",2,u_PARTS4,v_PARTS4⟩,⟨"less",4,u_PARTS5,v_PARTS5⟩],n_PARTS,L_PARTS,rfl⟩,
    mg_of X G G_FIGURES,
    mg_of X G A_NoProgram,
    X_NoProgram,
    mg_of X G A_NoWeb,
    mg_of X G A_BeatlessError,
    ⟨xga_NoText,xgt_NoText,xha_NoText,hn,htk,xhm_NoText,xhb_NoText,xhd_NoText⟩,
    mg_of X G A_NoText,
    Y1_NoText,
    Y2_NoText,
    y3_NoText,
    ⟨y4_NoText,y5_NoText,Y6_NoText,y7_NoText⟩,
    by unfold PySem.W.takerIn; rw [y8_NoText]; rfl,
    ⟨y9_NoText,yA_NoText,yB_NoText,y7_NoText,y8_NoText⟩⟩
end K04
open PySem PySem.W PyProof.Rows
set_option maxRecDepth 100000 in
set_option maxHeartbeats 0 in
theorem PySem.Challenge.cw_beatless_k10_texts_that_are_none_holds : PySem.Challenge.rw_beatless_k10_texts_that_are_none.Holds := by
  w_on; o_law
  refine holds_open (XP:=XL Hd.Q []) (YP:=(kHook Hd.K Hd.as Hd.asK).says) Hd.left Hd.hk.of Hd.hk.keeps
    (fun s z=>xl_of s (Hd.both z).1) XL.keeps (by rfl) (by rfl) (by rfl)
    (fun s z=>recFacts_of (Hd.both z).2) (by rfl) (by assumption) (by decide +kernel)
    ⟨rfl,rfl,rfl,rfl,rfl,by decide +kernel⟩ ?hw ?hc
  case hw=>w_witness2
  k_fill
  refine L2.walk_ofK (l:=PySem.Challenge.rw_beatless_k10_texts_that_are_none) (n:=63) (k:=26) (x := "_law_script") (CX:=L2.CX0) (sp:=K04.spLaw) rfl (by decide) rfl ⟨rfl,by decide,by decide⟩ (fun w h Y=>PySem.W.kIn_of Y) ?F ?S ?C
  case F =>
    intro w mg fa h KX G hmg
    have T : ∃ a,K04.Txt w (L2.KOf KX) mg a:=by
      dsimp only [L2.KOf]
      refine' K04.txt_mk KX G ?z_len ?z_int ?z_min ?z_max ?z_range ?z_isinstance ?z_zip ?z_abs ?z_str ?z_sum ?z_bool ?z_tuple ?z_enumerate ?z_reversed ?z_ValueError ?A_Num ?A_Name ?A_Two ?A_Mod ?A_Less ?A_Program ?A_NoText ?a_0 ?l_0 ?cc_0 ?kk_0 ?a_1 ?l_1 ?cc_1 ?kk_1 ?a_2 ?l_2 ?cc_2 ?kk_2 ?a_3 ?l_3 ?cc_3 ?kk_3 ?a_4 ?l_4 ?cc_4 ?kk_4 ?a_5 ?l_5 ?cc_5 ?kk_5 ?a_6 ?l_6 ?cc_6 ?kk_6 ?a_7 ?l_7 ?cc_7 ?kk_7 ?a_8 ?l_8 ?cc_8 ?kk_8 ?a_9 ?l_9 ?cc_9 ?kk_9 ?a_10 ?l_10 ?cc_10 ?kk_10 ?a_11 ?l_11 ?cc_11 ?kk_11 ?a_12 ?l_12 ?cc_12 ?kk_12 ?a_13 ?l_13 ?cc_13 ?kk_13 ?a_14 ?l_14 ?cc_14 ?kk_14 ?a_15 ?l_15 ?cc_15 ?kk_15 ?a_16 ?l_16 ?cc_16 ?kk_16 ?a_17 ?l_17 ?cc_17 ?kk_17 ?a_18 ?l_18 ?cc_18 ?kk_18 ?a_19 ?l_19 ?cc_19 ?kk_19 ?a_20 ?l_20 ?cc_20 ?kk_20 ?a_21 ?l_21 ?cc_21 ?kk_21 ?a_22 ?l_22 ?cc_22 ?kk_22 ?a_23 ?l_23 ?cc_23 ?kk_23 ?a_24 ?l_24 ?cc_24 ?kk_24 ?a_25 ?i_25 ?l_25 ?cc_25 ?kk_25 ?a_26 ?i_26 ?l_26 ?cc_26 ?kk_26 ?a_27 ?i_27 ?l_27 ?cc_27 ?kk_27 ?a_28 ?i_28 ?l_28 ?cc_28 ?kk_28 ?a_29 ?i_29 ?l_29 ?cc_29 ?kk_29 ?a_30 ?i_30 ?l_30 ?cc_30 ?kk_30 ?a_31 ?i_31 ?l_31 ?cc_31 ?kk_31 ?a_32 ?i_32 ?l_32 ?cc_32 ?kk_32 ?a_33 ?i_33 ?l_33 ?cc_33 ?kk_33 ?a_34 ?i_34 ?l_34 ?cc_34 ?kk_34 ?a_35 ?i_35 ?l_35 ?cc_35 ?kk_35 ?a_36 ?i_36 ?l_36 ?cc_36 ?kk_36 ?pg_Num ?hd_Num ?po_Num ?sa_Num ?mk_Num ?kc_Num ?ha_Num ?hm_Num ?na_Num_value ?pg_Name ?hd_Name ?po_Name ?sa_Name ?mk_Name ?kc_Name ?ha_Name ?hm_Name ?na_Name_word ?pg_Two ?hd_Two ?po_Two ?sa_Two ?mk_Two ?kc_Two ?ha_Two ?hm_Two ?na_Two_word ?na_Two_one ?na_Two_other ?pg_Mod ?hd_Mod ?po_Mod ?sa_Mod ?mk_Mod ?kc_Mod ?ha_Mod ?hm_Mod ?na_Mod_inner ?na_Mod_number ?pg_Less ?hd_Less ?po_Less ?sa_Less ?mk_Less ?kc_Less ?ha_Less ?hm_Less ?na_Less_one ?na_Less_other ?na_Less_third ?na_Less_fourth ?pg_Program ?hd_Program ?po_Program ?sa_Program ?mk_Program ?kc_Program ?ha_Program ?hm_Program ?na_Program_start ?na_Program_send ?na_Program_when ?na_Program_renew ?hn ?htk ?A_NoWeb ?A_BeatlessError ?A_NoProgram ?X_NoProgram ?xga_NoText ?xgt_NoText ?xha_NoText ?xhm_NoText ?xhb_NoText ?xhd_NoText ?Y1_NoText ?Y2_NoText ?y3_NoText ?y4_NoText ?y5_NoText ?Y6_NoText ?y7_NoText ?y8_NoText ?y9_NoText ?yA_NoText ?yB_NoText ?k_Num_Num ?k_Name_Num ?k_Name_Name ?k_Two_Num ?k_Two_Name ?k_Two_Two ?k_Mod_Num ?k_Mod_Name ?k_Mod_Two ?k_Mod_Mod ?k_Less_Num ?k_Less_Name ?k_Less_Two ?k_Less_Mod ?k_Less_Less ?k_tint_tint ?k_tint_tbool ?k_tstr_tstr ?k_ttuple_ttuple ?k_tint_ttuple ?k_tstr_ttuple ?k_tint_tstr ?k_tstr_tint ?k_tstr_tbool ?k_Program_Program ?k_NoText_NoProgram ?k_NoText_NoWeb ?k_NoText_BeatlessError ?k_tNoneType_tstr ?k_tbool_tstr ?k_tlist_tstr ?k_ttuple_tstr ?G_START_NAMES ?L_START_NAMES ?G_SEND_NAMES ?L_SEND_NAMES ?G_RENEW_NAMES ?L_RENEW_NAMES ?G_TWO_WORDS ?L_TWO_WORDS ?G_MOST_WORDS ?G_MOST_DEEP ?G_ALL_NAMES ?L_ALL_NAMES ?G_ROW_WORDS ?L_ROW_WORDS ?G_PARTS ?L_PARTS ?M_PARTS ?G_FIGURES
      (case z_len=>k_is)
      (case z_int=>k_is)
      (case z_min=>k_is)
      (case z_max=>k_is)
      (case z_range=>k_is)
      (case z_isinstance=>k_is)
      (case z_zip=>k_is)
      (case z_abs=>k_is)
      (case z_str=>k_is)
      (case z_sum=>k_is)
      (case z_bool=>k_is)
      (case z_tuple=>k_is)
      (case z_enumerate=>k_is)
      (case z_reversed=>k_is)
      (case z_ValueError=>k_is)
      (case A_Num=>k_is)
      (case A_Name=>k_is)
      (case A_Two=>k_is)
      (case A_Mod=>k_is)
      (case A_Less=>k_is)
      (case A_Program=>k_is)
      (case A_NoText=>k_is)
      (case a_0=>k_is)
      (case l_0=>k_is)
      (case cc_0=>k_is)
      (case kk_0=>k_is)
      (case a_1=>k_is)
      (case l_1=>k_is)
      (case cc_1=>k_is)
      (case kk_1=>k_is)
      (case a_2=>k_is)
      (case l_2=>k_is)
      (case cc_2=>k_is)
      (case kk_2=>k_is)
      (case a_3=>k_is)
      (case l_3=>k_is)
      (case cc_3=>k_is)
      (case kk_3=>k_is)
      (case a_4=>k_is)
      (case l_4=>k_is)
      (case cc_4=>k_is)
      (case kk_4=>k_is)
      (case a_5=>k_is)
      (case l_5=>k_is)
      (case cc_5=>k_is)
      (case kk_5=>k_is)
      (case a_6=>k_is)
      (case l_6=>k_is)
      (case cc_6=>k_is)
      (case kk_6=>k_is)
      (case a_7=>k_is)
      (case l_7=>k_is)
      (case cc_7=>k_is)
      (case kk_7=>k_is)
      (case a_8=>k_is)
      (case l_8=>k_is)
      (case cc_8=>k_is)
      (case kk_8=>k_is)
      (case a_9=>k_is)
      (case l_9=>k_is)
      (case cc_9=>k_is)
      (case kk_9=>k_is)
      (case a_10=>k_is)
      (case l_10=>k_is)
      (case cc_10=>k_is)
      (case kk_10=>k_is)
      (case a_11=>k_is)
      (case l_11=>k_is)
      (case cc_11=>k_is)
      (case kk_11=>k_is)
      (case a_12=>k_is)
      (case l_12=>k_is)
      (case cc_12=>k_is)
      (case kk_12=>k_is)
      (case a_13=>k_is)
      (case l_13=>k_is)
      (case cc_13=>k_is)
      (case kk_13=>k_is)
      (case a_14=>k_is)
      (case l_14=>k_is)
      (case cc_14=>k_is)
      (case kk_14=>k_is)
      (case a_15=>k_is)
      (case l_15=>k_is)
      (case cc_15=>k_is)
      (case kk_15=>k_is)
      (case a_16=>k_is)
      (case l_16=>k_is)
      (case cc_16=>k_is)
      (case kk_16=>k_is)
      (case a_17=>k_is)
      (case l_17=>k_is)
      (case cc_17=>k_is)
      (case kk_17=>k_is)
      (case a_18=>k_is)
      (case l_18=>k_is)
      (case cc_18=>k_is)
      (case kk_18=>k_is)
      (case a_19=>k_is)
      (case l_19=>k_is)
      (case cc_19=>k_is)
      (case kk_19=>k_is)
      (case a_20=>k_is)
      (case l_20=>k_is)
      (case cc_20=>k_is)
      (case kk_20=>k_is)
      (case a_21=>k_is)
      (case l_21=>k_is)
      (case cc_21=>k_is)
      (case kk_21=>k_is)
      (case a_22=>k_is)
      (case l_22=>k_is)
      (case cc_22=>k_is)
      (case kk_22=>k_is)
      (case a_23=>k_is)
      (case l_23=>k_is)
      (case cc_23=>k_is)
      (case kk_23=>k_is)
      (case a_24=>k_is)
      (case l_24=>k_is)
      (case cc_24=>k_is)
      (case kk_24=>k_is)
      (case a_25=>k_is)
      (case i_25=>k_is)
      (case l_25=>k_is)
      (case cc_25=>k_is)
      (case kk_25=>k_is)
      (case a_26=>k_is)
      (case i_26=>k_is)
      (case l_26=>k_is)
      (case cc_26=>k_is)
      (case kk_26=>k_is)
      (case a_27=>k_is)
      (case i_27=>k_is)
      (case l_27=>k_is)
      (case cc_27=>k_is)
      (case kk_27=>k_is)
      (case a_28=>k_is)
      (case i_28=>k_is)
      (case l_28=>k_is)
      (case cc_28=>k_is)
      (case kk_28=>k_is)
      (case a_29=>k_is)
      (case i_29=>k_is)
      (case l_29=>k_is)
      (case cc_29=>k_is)
      (case kk_29=>k_is)
      (case a_30=>k_is)
      (case i_30=>k_is)
      (case l_30=>k_is)
      (case cc_30=>k_is)
      (case kk_30=>k_is)
      (case a_31=>k_is)
      (case i_31=>k_is)
      (case l_31=>k_is)
      (case cc_31=>k_is)
      (case kk_31=>k_is)
      (case a_32=>k_is)
      (case i_32=>k_is)
      (case l_32=>k_is)
      (case cc_32=>k_is)
      (case kk_32=>k_is)
      (case a_33=>k_is)
      (case i_33=>k_is)
      (case l_33=>k_is)
      (case cc_33=>k_is)
      (case kk_33=>k_is)
      (case a_34=>k_is)
      (case i_34=>k_is)
      (case l_34=>k_is)
      (case cc_34=>k_is)
      (case kk_34=>k_is)
      (case a_35=>k_is)
      (case i_35=>k_is)
      (case l_35=>k_is)
      (case cc_35=>k_is)
      (case kk_35=>k_is)
      (case a_36=>k_is)
      (case i_36=>k_is)
      (case l_36=>k_is)
      (case cc_36=>k_is)
      (case kk_36=>k_is)
      (case pg_Num=>k_is)
      (case hd_Num=>k_is)
      (case po_Num=>k_is)
      (case sa_Num=>k_is)
      (case mk_Num=>k_is)
      (case kc_Num=>k_is)
      (case ha_Num=>k_is)
      (case hm_Num=>k_is)
      (case na_Num_value=>k_is)
      (case pg_Name=>k_is)
      (case hd_Name=>k_is)
      (case po_Name=>k_is)
      (case sa_Name=>k_is)
      (case mk_Name=>k_is)
      (case kc_Name=>k_is)
      (case ha_Name=>k_is)
      (case hm_Name=>k_is)
      (case na_Name_word=>k_is)
      (case pg_Two=>k_is)
      (case hd_Two=>k_is)
      (case po_Two=>k_is)
      (case sa_Two=>k_is)
      (case mk_Two=>k_is)
      (case kc_Two=>k_is)
      (case ha_Two=>k_is)
      (case hm_Two=>k_is)
      (case na_Two_word=>k_is)
      (case na_Two_one=>k_is)
      (case na_Two_other=>k_is)
      (case pg_Mod=>k_is)
      (case hd_Mod=>k_is)
      (case po_Mod=>k_is)
      (case sa_Mod=>k_is)
      (case mk_Mod=>k_is)
      (case kc_Mod=>k_is)
      (case ha_Mod=>k_is)
      (case hm_Mod=>k_is)
      (case na_Mod_inner=>k_is)
      (case na_Mod_number=>k_is)
      (case pg_Less=>k_is)
      (case hd_Less=>k_is)
      (case po_Less=>k_is)
      (case sa_Less=>k_is)
      (case mk_Less=>k_is)
      (case kc_Less=>k_is)
      (case ha_Less=>k_is)
      (case hm_Less=>k_is)
      (case na_Less_one=>k_is)
      (case na_Less_other=>k_is)
      (case na_Less_third=>k_is)
      (case na_Less_fourth=>k_is)
      (case pg_Program=>k_is)
      (case hd_Program=>k_is)
      (case po_Program=>k_is)
      (case sa_Program=>k_is)
      (case mk_Program=>k_is)
      (case kc_Program=>k_is)
      (case ha_Program=>k_is)
      (case hm_Program=>k_is)
      (case na_Program_start=>k_is)
      (case na_Program_send=>k_is)
      (case na_Program_when=>k_is)
      (case na_Program_renew=>k_is)
      (case hn=>k_is)
      (case htk=>k_is)
      (case A_NoWeb=>k_is)
      (case A_BeatlessError=>k_is)
      (case A_NoProgram=>k_is)
      (case X_NoProgram=>k_exc)
      (case xga_NoText=>k_is)
      (case xgt_NoText=>k_is)
      (case xha_NoText=>k_is)
      (case xhm_NoText=>k_is)
      (case xhb_NoText=>k_is)
      (case xhd_NoText=>k_is)
      (case Y1_NoText=>kernel_rfl)
      (case Y2_NoText=>kernel_rfl)
      (case y3_NoText=>k_is)
      (case y4_NoText=>k_is)
      (case y5_NoText=>k_is)
      (case Y6_NoText=>kernel_rfl)
      (case y7_NoText=>k_is)
      (case y8_NoText=>k_is)
      (case y9_NoText=>k_is)
      (case yA_NoText=>k_is)
      (case yB_NoText=>k_is)
      (case k_Num_Num=>kit_is)
      (case k_Name_Num=>kit_is)
      (case k_Name_Name=>kit_is)
      (case k_Two_Num=>kit_is)
      (case k_Two_Name=>kit_is)
      (case k_Two_Two=>kit_is)
      (case k_Mod_Num=>kit_is)
      (case k_Mod_Name=>kit_is)
      (case k_Mod_Two=>kit_is)
      (case k_Mod_Mod=>kit_is)
      (case k_Less_Num=>kit_is)
      (case k_Less_Name=>kit_is)
      (case k_Less_Two=>kit_is)
      (case k_Less_Mod=>kit_is)
      (case k_Less_Less=>kit_is)
      (case k_tint_tint=>kit_is)
      (case k_tint_tbool=>kit_is)
      (case k_tstr_tstr=>kit_is)
      (case k_ttuple_ttuple=>kit_is)
      (case k_tint_ttuple=>kit_is)
      (case k_tstr_ttuple=>kit_is)
      (case k_tint_tstr=>kit_is)
      (case k_tstr_tint=>kit_is)
      (case k_tstr_tbool=>kit_is)
      (case k_Program_Program=>kit_is)
      (case k_NoText_NoProgram=>kit_is)
      (case k_NoText_NoWeb=>kit_is)
      (case k_NoText_BeatlessError=>kit_is)
      (case k_tNoneType_tstr=>kit_is)
      (case k_tbool_tstr=>kit_is)
      (case k_tlist_tstr=>kit_is)
      (case k_ttuple_tstr=>kit_is)
      (case G_START_NAMES=>k_is)
      (case L_START_NAMES=>k_is)
      (case G_SEND_NAMES=>k_is)
      (case L_SEND_NAMES=>k_is)
      (case G_RENEW_NAMES=>k_is)
      (case L_RENEW_NAMES=>k_is)
      (case G_TWO_WORDS=>k_is)
      (case L_TWO_WORDS=>k_is)
      (case G_MOST_WORDS=>k_is)
      (case G_MOST_DEEP=>k_is)
      (case G_ALL_NAMES=>k_is)
      (case L_ALL_NAMES=>k_is)
      (case G_ROW_WORDS=>k_is)
      (case L_ROW_WORDS=>k_is)
      (case G_PARTS=>k_is)
      (case L_PARTS=>k_is)
      (case M_PARTS=>rfl)
      (case G_FIGURES=>k_is)
    obtain ⟨a,T⟩:=T
    have e0:=hmg.symm.trans T.g_law
    cases e0
    exact ⟨_,T.b0_law,fun base kb nb=>K04.ok_law T⟩
  case S=>exact fun K H a ns hl hO hS=>K04.sp_law_of hl hO hS
  case C=>exact fun _ _ _ _ z=>z

