import PyProof.Rows.All
import Wide.All
import OpenK.AllK
import Wide.FinOn
import PySem.Challenge.RW_beatless_k11_texts_of_no_program
import Lean
import PyProof.EqAt
import PyProof.EqKinds
import PyProof.TupleCall
import PyProof.ZipIter
import PyProof.WalksMore
import KE.KRevSl
import KE.KIntText
import KE.KRevIter
import PyProof.Draws
import PyProof.EnumFor
import PyProof.EnumStmt
import PyProof.Rows.StrFacts2
import PyProof.StrLawsTight
import PyProof.StrLawsChain
set_option Elab.async false
set_option linter.all false
set_option maxRecDepth 100000
namespace L2
open PySem PySem.Spec PyProof.Rows
abbrev Key:=Sum Int Str
def keyIs : Key→Value→Bool
  | .inl k,v=>Value.isInt k v
  | .inr x,v=>Value.isStrOf x v
def keyH (w : World) : Key→Int
  | .inl k=>hashInt k
  | .inr x=>hashStr w x
theorem keyIs_shape : ∀ {k : Key} {v : Value},keyIs k v = true→(∃ i t,k = Sum.inl i∧v = Value.int i t)∨(∃ x t,k = Sum.inr x∧v = Value.str x t)
  | .inl i,v,h=>by
    obtain ⟨t,e⟩:=Value.isInt_shape (k:=i) (v:=v) h
    exact .inl ⟨i,t,rfl,e⟩
  | .inr x,v,h=>by
    obtain ⟨t,e⟩:=Value.isStrOf_shape (x:=x) (v:=v) h
    exact .inr ⟨x,t,rfl,e⟩
theorem key_ll (a b : Int) : decide ((Sum.inl a : Key) = Sum.inl b) = (a == b):=by
  by_cases e : a = b
  · subst e; simp
  · have h : ¬ (Sum.inl a : Key) = Sum.inl b:=fun q=>e (Sum.inl.inj q)
    rw [decide_eq_false h]
    exact (beq_eq_false_iff_ne.mpr e).symm
theorem key_rr (a b : Str) : decide ((Sum.inr a : Key) = Sum.inr b) = decide (a = b):=by
  by_cases e : a = b
  · subst e; simp
  · have h : ¬ (Sum.inr a : Key) = Sum.inr b:=fun q=>e (Sum.inr.inj q)
    rw [decide_eq_false h,decide_eq_false e]
theorem key_lr (a : Int) (b : Str) : decide ((Sum.inl a : Key) = Sum.inr b) = false:=decide_eq_false (fun q=>nomatch q)
theorem key_rl (a : Str) (b : Int) : decide ((Sum.inr a : Key) = Sum.inl b) = false:=decide_eq_false (fun q=>nomatch q)
def mixKind (prog : Program) (w : World) : PySem.KeyKind prog w Key where
  is:=keyIs
  hash:=keyH w
  inj:=fun v a b ha hb=>by
    rcases keyIs_shape ha with ⟨i,t,rfl,rfl⟩ | ⟨x,t,rfl,rfl⟩
    · rcases keyIs_shape hb with ⟨j,u,rfl,e⟩ | ⟨y,u,rfl,e⟩
      · injection e with e1 _; rw [e1]
      · exact nomatch e
    · rcases keyIs_shape hb with ⟨j,u,rfl,e⟩ | ⟨y,u,rfl,e⟩
      · exact nomatch e
      · injection e with e1 _; rw [e1]
  byValue:=fun k v h=>by
    rcases keyIs_shape h with ⟨i,t,rfl,rfl⟩ | ⟨x,t,rfl,rfl⟩ <;> rfl
  pyHash:=fun hv h=>by
    rcases keyIs_shape hv with ⟨i,t,rfl,rfl⟩ | ⟨x,t,rfl,rfl⟩
    · exact wpAny_pyHash_int h
    · exact wpAny_pyHash_str h
  eqBool:=fun hu hv h=>by
    rcases keyIs_shape hu with ⟨i,t,rfl,rfl⟩ | ⟨x,t,rfl,rfl⟩
    · rcases keyIs_shape hv with ⟨j,u,rfl,rfl⟩ | ⟨y,u,rfl,rfl⟩
      · rw [key_ll] at h; exact wpAny_eqBool_int h
      · rw [key_lr] at h; exact SeqAt.EqAt.int_str i t y u _ _ _ _ h
    · rcases keyIs_shape hv with ⟨j,u,rfl,rfl⟩ | ⟨y,u,rfl,rfl⟩
      · rw [key_rl] at h; exact SeqAt.EqAt.str_int x t j u _ _ _ _ h
      · rw [key_rr] at h; exact wpAny_eqBool_str h
  «strs»:=fun k x t v h=>by
    rcases keyIs_shape h with ⟨i,u,rfl,e⟩ | ⟨y,u,rfl,e⟩
    · exact nomatch e
    · injection e with e1 _
      subst e1
      cases v <;> rfl
end L2
namespace L2
open PySem PySem.Spec PyProof.Rows
inductive V where
  | non | bl (b : Bool) | int (i : Int) | str (x : Str) | byt (b : Array UInt8) | flt (b : UInt64) | ref (a : Addr) | ty (n : String)
  deriving DecidableEq
def RelV : V→Value→Prop
  | .non,u=>u = Value.none
  | .bl b,u=>u = Value.bool b
  | .int i,u=>∃ t,u = Value.int i t
  | .str x,u=>∃ t,u = Value.str x t
  | .byt b,u=>∃ t,u = Value.bytes b t
  | .flt b,u=>∃ t,u = Value.float b t
  | .ref a,u=>u = Value.ref a
  | .ty n,u=>u = Value.type n
abbrev Vals : List V→List Value→Prop:=Paired RelV
theorem Vals.length {xs : List V} {us : List Value} (r : Vals xs us) : xs.length = us.length:=Paired.length r
theorem Vals.get : ∀ {xs : List V} {us : List Value} {i : Nat} {x : V},Vals xs us→xs[i]? = some x→∃ u,us[i]? = some u∧RelV x u
  | _,_,_,_,.nil,e=>by simp at e
  | _,_,0,_,.cons r _,e=>by simp at e; subst e; exact ⟨_,rfl,r⟩
  | _,_,i + 1,x,.cons _ t,e=>by
    obtain ⟨u,h1,h2⟩:=Vals.get (i:=i) (x:=x) t (by simpa using e)
    exact ⟨u,by simpa using h1,h2⟩
theorem Vals.set {x : V} {u : Value} (r : RelV x u) : ∀ {xs : List V} {us : List Value} (i : Nat),Vals xs us→Vals (xs.set i x) (us.set i u)
  | _,_,_,.nil=>.nil
  | _,_,0,.cons _ t=>.cons r t
  | _,_,i + 1,.cons q t=>.cons q (Vals.set r i t)
theorem Vals.append : ∀ {xs ys : List V} {us ws : List Value},Vals xs us→Vals ys ws→Vals (xs ++ ys) (us ++ ws)
  | _,_,_,_,.nil,s=>s
  | _,_,_,_,.cons r t,s=>.cons r (Vals.append t s)
theorem Vals.take : ∀ {xs : List V} {us : List Value} (n : Nat),Vals xs us→Vals (xs.take n) (us.take n)
  | _,_,0,_=>.nil
  | _,_,_ + 1,.nil=>.nil
  | _,_,n + 1,.cons r t=>.cons r (Vals.take n t)
theorem Vals.drop : ∀ {xs : List V} {us : List Value} (n : Nat),Vals xs us→Vals (xs.drop n) (us.drop n)
  | _,_,0,r=>r
  | _,_,_ + 1,.nil=>.nil
  | _,_,n + 1,.cons _ t=>Vals.drop n t
def RelO : Option V→Option Value→Prop
  | some v,some u=>RelV v u
  | none,none=>True
  | _,_=>False
def KV {κ : Type} : List (κ × V)→List (κ × Value)→Prop:=Paired fun (p : κ × V) (q : κ × Value)=>p.1 = q.1∧RelV p.2 q.2
def kV : Key→V
  | .inl i=>.int i
  | .inr x=>.str x
inductive HO where
  /-- a list -/
  | lst (xs : List V)
  /-- a tuple (never changes) -/
  | tup (xs : List V)
  /-- a dict whose keys are ints and texts; one whose keys are tuples of ints and texts (the empty one is both) -/
  | dK (kvs : List (Key × V)) | dT (kvs : List (List Key × V))
  /-- a set of ints: its members,its size -/
  | set (S : Int→Bool) (n : Nat)
  /-- an instance of the class at C,its dict at dx,its attributes -/
  | ins (C dx : Addr) (fs : List (Str × V))
  /-- the dict of the instance at x -/
  | own (x : Addr)
  /-- the dict of an exception -/
  | xd (fs : List (Str × V))
  /-- a bound method,f of x -/
  | met (f x : Addr)
  /-- a range object lo,lo + 1,.. below hi -/
  | rng (lo hi : Int)
  /-- a thing that is known to the object (the script; a dict while a loop walks it): read,never written while it is so -/
  | frz (o : Obj) (u : HO)
  /-- a code object's table -/
  | tbl (ps : Array Value)
  /-- any other thing,by what is true of its one object (a def of one's own: SetO a S n:=HO.ext fun h=>..) -/
  | ext (φ : Heap→Prop)
abbrev Hp:=Addr→Option HO
def upd (H : Hp) (a : Addr) (o : HO) : Hp:=fun b=>if b = a then some o else H b
theorem upd_same {H : Hp} {a : Addr} {o : HO} : upd H a o a = some o:=by unfold upd; rw [if_pos rfl]
theorem upd_ne {H : Hp} {a b : Addr} {o : HO} (h : b ≠ a) : upd H a o b = H b:=by unfold upd; rw [if_neg h]
theorem upd_upd {H : Hp} {a : Addr} {o u : HO} : upd (upd H a o) a u = upd H a u:=by
  funext b; unfold upd; split <;> rfl
theorem ne_of {H : Hp} {a b : Addr} {o u : HO} (h : H a = some o) (h' : H b = some u) (d : o ≠ u) : a ≠ b:=by
  intro e; subst e; rw [h] at h'; exact d (Option.some.inj h')
theorem ne_of_none {H : Hp} {a b : Addr} {o : HO} (h : H a = some o) (h' : H b = none) : a ≠ b:=by
  intro e; subst e; rw [h] at h'; cases h'
section
variable (P : Program) (w : World)
def ObjOk (H : Hp) (h : Heap) (a : Addr) : HO→Prop
  | .lst xs=>xs.length ≤ sizeLine∧∃ (its : List Value) (n : Nat),Vals xs its∧h.get? a = some { cls:=.type "list",data:=.seq its.toArray n }
  | .tup xs=>xs.length ≤ sizeLine∧∃ its : List Value,Vals xs its∧IsTup h a its.toArray
  | .dK kvs=>kvs.length ≤ sizeLine∧(a == sysModules) = false∧∃ vs,KV kvs vs∧h.DictOf (mixKind P w) a vs
  | .dT kvs=>kvs.length ≤ sizeLine∧(a == sysModules) = false∧∃ xs : List (List Key × Addr × Value),
      Paired (fun (p : List Key × V) (q : List Key × Addr × Value)=>p.1 = q.1∧H q.2.1 = some (.tup (p.1.map kV))∧RelV p.2 q.2.2) kvs xs ∧
      ∃ o es ep,h.get? a = some o∧o.ExactDict∧o.data = .dict es ep∧es.toList = xs.map (entryOfKey (tupleKind (mixKind P w)))∧(xs.map (·.1)).Nodup
  | .set S n=>h.SetOf (intKind P w) a S n
  | .ins C dx fs=>H dx = some (.own a)∧fs.length ≤ 1000∧dx ≠ a∧h.get? a = some (PySem.W.instObj C dx) ∧
      ∃ mA,h.Ns1 dx mA∧(∀ f,RelO (fs.lookup f) (mA f))∧PySem.Within mA (fs.map (·.1))
  | .own _=>∃ o,h.get? a = some o
  | .xd fs=>∃ mA,h.Ns1 a mA∧∀ f,RelO (fs.lookup f) (mA f)
  | .rng lo hi=>∃ t u v,h.get? a = some { cls:=.type "range",data:=.fields #[.int lo t,.int hi u,.int 1 v] }
  | .frz o u=>h.get? a = some o∧ObjOk H h a u
  | .tbl ps=>h.get? a = some { cls:=.none,data:=.fields ps }
  | .met f x=>h.get? a = some (PySem.W.methodObj (.ref f) (.ref x))
  | .ext φ=>φ h∧(∃ o,h.get? a = some o)∧∀ h1 h2 : Heap,φ h1→(∀ o,h1.get? a = some o→h2.get? a = some o)→φ h2
def HOk (H : Hp) (h : Heap) : Prop:=∀ a o,H a = some o→ObjOk P w H h a o
end
section
variable {P : Program} {w : World} {H H' : Hp} {h h' : Heap} {a : Addr} {o : HO}
theorem ObjOk.lt (x : ObjOk P w H h a o) : a < h.objs.size:=by
  cases o with
  | lst xs=>obtain ⟨_,_,_,_,e⟩:=x; exact Heap.lt_size e
  | tup xs=>obtain ⟨_,_,_,p⟩:=x; exact p.lt
  | dK kvs=>obtain ⟨_,_,_,_,o,_,_,e,_⟩:=x; exact Heap.lt_size e
  | dT kvs=>obtain ⟨_,_,_,_,o,_,_,e,_⟩:=x; exact Heap.lt_size e
  | set S n=>obtain ⟨o,_,_,_,e,_⟩:=x; exact Heap.lt_size e
  | ins C dx fs=>obtain ⟨_,_,_,e,_⟩:=x; exact Heap.lt_size e
  | own y=>obtain ⟨_,e⟩:=x; exact Heap.lt_size e
  | xd fs=>obtain ⟨_,⟨_,_,_,e,_⟩,_⟩:=x; exact Heap.lt_size e
  | rng lo hi=>obtain ⟨_,_,_,e⟩:=x; exact Heap.lt_size e
  | frz ob u=>obtain ⟨e,_⟩:=x; exact Heap.lt_size e
  | tbl ps=>exact Heap.lt_size (show h.get? a = some _ from x)
  | met f y=>exact Heap.lt_size (show h.get? a = some _ from x)
  | ext φ=>obtain ⟨_,⟨_,e⟩,_⟩:=x; exact Heap.lt_size e
theorem Paired.mapP {α β : Type} {F G : α→β→Prop} : ∀ {l₁ : List α} {l₂ : List β},Paired F l₁ l₂→(∀ a b,F a b→G a b)→Paired G l₁ l₂
  | _,_,.nil,_=>.nil
  | _,_,.cons r t,f=>.cons (f _ _ r) (Paired.mapP t f)
theorem ObjOk.stay (x : ObjOk P w H h a o) (k : ∀ b u,(b = a∨H b = some (.own a))→h.get? b = some u→h'.get? b = some u)
    (ho : ∀ b,H b = some (.own a)→H' b = some (.own a)) (ht : ∀ b xs,H b = some (.tup xs)→H' b = some (.tup xs)) : ObjOk P w H' h' a o:=by
  induction o with
  | lst xs=>obtain ⟨z,its,n,r,e⟩:=x; exact ⟨z,its,n,r,k _ _ (.inl rfl) e⟩
  | tup xs=>obtain ⟨z,its,r,ob,e,c⟩:=x; exact ⟨z,its,r,ob,k _ _ (.inl rfl) e,c⟩
  | dK kvs=>obtain ⟨z,y,vs,r,ob,es,ep,e,c⟩:=x; exact ⟨z,y,vs,r,ob,es,ep,k _ _ (.inl rfl) e,c⟩
  | dT kvs =>
    obtain ⟨z,y,xs,r,ob,es,ep,e,c⟩:=x
    exact ⟨z,y,xs,Paired.mapP r fun p q z=>⟨z.1,ht _ _ z.2.1,z.2.2⟩,ob,es,ep,k _ _ (.inl rfl) e,c⟩
  | set S n=>obtain ⟨ob,es,ep,t,e,c⟩:=x; exact ⟨ob,es,ep,t,k _ _ (.inl rfl) e,c⟩
  | ins C dx fs =>
    obtain ⟨d,z,ne,e,mA,⟨od,es,ep,e2,c⟩,r⟩:=x
    exact ⟨ho _ d,z,ne,k _ _ (.inl rfl) e,mA,⟨od,es,ep,k _ _ (.inr d) e2,c⟩,r⟩
  | own y=>obtain ⟨ob,e⟩:=x; exact ⟨ob,k _ _ (.inl rfl) e⟩
  | xd fs=>obtain ⟨mA,⟨od,es,ep,e,c⟩,r⟩:=x; exact ⟨mA,⟨od,es,ep,k _ _ (.inl rfl) e,c⟩,r⟩
  | rng lo hi=>obtain ⟨t,u,v,e⟩:=x; exact ⟨t,u,v,k _ _ (.inl rfl) e⟩
  | frz ob u ih=>obtain ⟨e,q⟩:=x; exact ⟨k _ _ (.inl rfl) e,ih q⟩
  | tbl ps =>
    have e : h.get? a = some { cls:=.none,data:=.fields ps }:=x
    show h'.get? a = some { cls:=.none,data:=.fields ps }
    exact k a _ (.inl rfl) e
  | met f y =>
    have e : h.get? a = some (PySem.W.methodObj (.ref f) (.ref y)):=x
    show h'.get? a = some (PySem.W.methodObj (.ref f) (.ref y))
    exact k a _ (.inl rfl) e
  | ext φ=>obtain ⟨p,⟨o,e⟩,st⟩:=x; exact ⟨st _ _ p fun o q=>k _ _ (.inl rfl) q,⟨o,k _ _ (.inl rfl) e⟩,st⟩
theorem HOk.lt (x : HOk P w H h) (e : H a = some o) : a < h.objs.size:=(x a o e).lt
theorem HOk.fresh (x : HOk P w H h) (e : h.objs.size ≤ a) : H a = none:=by
  cases q : H a with
  | none=>rfl
  | some u=>exact absurd (Nat.lt_of_lt_of_le (x.lt q) e) (Nat.lt_irrefl _)
theorem HOk.kept (x : HOk P w H h) (k : ∀ b u,h.get? b = some u→h'.get? b = some u) : HOk P w H h':=fun a o e =>
  (x a o e).stay (fun b u _ q=>k b u q) (fun _ q=>q) fun _ _ q=>q
theorem HOk.laid (x : HOk P w H h) (k : ∀ b u,h.get? b = some u→h'.get? b = some u) (hp : h.objs.size ≤ a) (new : ObjOk P w (upd H a o) h' a o) : HOk P w (upd H a o) h':=fun b u e=>by
  have hn:=x.fresh hp
  by_cases hb : b = a
  · subst hb; rw [upd_same] at e; cases e; exact new
  · rw [upd_ne hb] at e
    exact (x b u e).stay (fun c v _ q=>k c v q) (fun c q=>by rw [upd_ne (ne_of_none q hn)]; exact q) fun c xs q=>by rw [upd_ne (ne_of_none q hn)]; exact q
end
def Rd (H : Hp) (a : Addr) (u : HO) : Prop:=H a = some u∨∃ o,H a = some (.frz o u)
theorem Rd.ok {P : Program} {w : World} {H : Hp} {h : Heap} {a : Addr} {u : HO} (r : Rd H a u) (x : HOk P w H h) : ObjOk P w H h a u:=by
  rcases r with r | ⟨o,r⟩
  · exact x a u r
  · obtain ⟨_,q⟩:=x a _ r
    exact q
def Mut : Option HO→Prop
  | some (.lst _)=>True
  | some (.dK _)=>True
  | some (.dT _)=>True
  | some (.set _ _)=>True
  | some (.ins _ _ _)=>True
  | some (.ext _)=>True
  | _=>False
section
variable {P : Program} {w : World} {H : Hp} {h h' : Heap} {x e : Addr} {o' : HO}
theorem HOk.write (ok : HOk P w H h) (mu : Mut (H x)) (he : e = x∨H e = some (.own x)) (k : ∀ b u,b ≠ e→h.get? b = some u→h'.get? b = some u) (heo : ∃ u,h'.get? e = some u)
    (new : ObjOk P w (upd H x o') h' x o') : HOk P w (upd H x o') h':=fun b u q=>by
  have nown : ∀ c y,H c = some (.own y)→c ≠ x:=fun c y r z=>by subst z; rw [r] at mu; exact mu
  have ntup : ∀ c xs,H c = some (.tup xs)→c ≠ x:=fun c xs r z=>by subst z; rw [r] at mu; exact mu
  by_cases hb : b = x
  · subst hb; rw [upd_same] at q; cases q; exact new
  · rw [upd_ne hb] at q
    by_cases hbe : b = e
    · have q' : H b = some (.own x):=by
        rcases he with z | z
        · exact absurd (hbe.trans z) hb
        · rw [hbe]; exact z
      rw [q] at q'; cases q'
      obtain ⟨v,hv⟩:=heo
      exact ⟨v,by rw [hbe]; exact hv⟩
    · refine (ok b u q).stay (fun c v hc r=>k c v ?_ r) (fun c r=>by rw [upd_ne (nown c b r)]; exact r) fun c xs r=>by rw [upd_ne (ntup c xs r)]; exact r
      rcases hc with rfl | hc
      · exact hbe
      · rintro rfl
        rcases he with z | z
        · exact nown c b hc z
        · rw [hc] at z; cases z; exact hb rfl
end
structure Un (fs ex : List Addr) (H H' : Hp) (h h' : Heap) : Prop where
  keep : ∀ b o,h.get? b = some o→H b = none→b ∉ fs→b ∉ ex→h'.get? b = some o
  slot : ∀ b o,h.get? b = some o→H b = none→b ∈ fs→b ∉ ex→∃ sl,h'.get? b = some { o with slots:=sl }
  free : ∀ b o,h.get? b = some o→H b = none→b ∉ ex→H' b = none
  there : ∀ b o,h.get? b = some o→b ∉ ex→∃ o',h'.get? b = some o'
  tups : ∀ b xs,H b = some (.tup xs)→H' b = some (.tup xs)
  frzs : ∀ b o u,H b = some (.frz o u)→H' b = some (.frz o u)
  tbls : ∀ b ps,H b = some (.tbl ps)→∃ more,H' b = some (.tbl (ps ++ more))
section
variable {fs fs' ex ex' : List Addr} {H H1 H2 : Hp} {h h1 h2 h' : Heap} {a x e : Addr} {o : HO}
theorem Un.any (u : Un fs ex H H1 h h1) {b : Addr} {ob : Obj} (q : h.get? b = some ob) (n : H b = none) (hx : b ∉ ex) : ∃ sl,h1.get? b = some { ob with slots:=sl }:=by
  by_cases hb : b ∈ fs
  · exact u.slot b ob q n hb hx
  · exact ⟨ob.slots,u.keep b ob q n hb hx⟩
theorem Un.kept (k : ∀ b u,h.get? b = some u→h'.get? b = some u) : Un fs ex H H h h' :=
  ⟨fun b ob q _ _ _=>k b ob q,fun b ob q _ _ _=>⟨ob.slots,k b ob q⟩,fun _ _ _ n _=>n,fun b ob q _=>⟨ob,k b ob q⟩,fun _ _ q=>q,fun _ _ _ q=>q,fun _ ps q=>⟨#[],by rw [q]; simp⟩⟩
theorem Un.refl : Un fs ex H H h h:=Un.kept fun _ _ q=>q
theorem Un.laid (k : ∀ b u,h.get? b = some u→h'.get? b = some u) (hp : h.objs.size ≤ a) (hn : H a = none) : Un fs ex H (upd H a o) h h' where
  keep:=fun b u q _ _ _=>k b u q
  slot:=fun b u q _ _ _=>⟨u.slots,k b u q⟩
  free:=fun b u q n _=>by rw [upd_ne (Nat.ne_of_lt (Nat.lt_of_lt_of_le (Heap.lt_size q) hp))]; exact n
  there:=fun b u q _=>⟨u,k b u q⟩
  tups:=fun b xs q=>by rw [upd_ne (ne_of_none q hn)]; exact q
  frzs:=fun b u xs q=>by rw [upd_ne (ne_of_none q hn)]; exact q
  tbls:=fun b ps q=>⟨#[],by rw [upd_ne (ne_of_none q hn),q]; simp⟩
theorem Un.write (mu : Mut (H x)) (he : e = x∨H e = some (.own x)) (k : ∀ b u,b ≠ e→h.get? b = some u→h'.get? b = some u) (heo : ∃ u,h'.get? e = some u) : Un fs ex H (upd H x o) h h':=by
  have hx : ∀ b,H b = none→b ≠ x:=fun b n z=>by subst z; rw [n] at mu; exact mu
  have hb : ∀ b,H b = none→b ≠ e:=fun b n z=>by
    subst z
    rcases he with r | r
    · exact hx b n r
    · rw [n] at r; cases r
  have hm : ∀ b u,H b = some u→¬ Mut (some u)→b ≠ x:=fun b u q nm z=>by subst z; rw [q] at mu; exact nm mu
  refine ⟨fun b u q n _ _=>k b u (hb b n) q,fun b u q n _ _=>⟨u.slots,k b u (hb b n) q⟩,fun b u q n _=>by rw [upd_ne (hx b n)]; exact n,fun b u q _=>?_,
    fun b xs q=>by rw [upd_ne (hm b _ q fun z=>z)]; exact q,fun b u xs q=>by rw [upd_ne (hm b _ q fun z=>z)]; exact q,fun b ps q=>⟨#[],by rw [upd_ne (hm b _ q fun z=>z),q]; simp⟩⟩
  by_cases hbe : b = e
  · subst hbe; exact heo
  · exact ⟨u,k b u hbe q⟩
end
def trk (h : Heap) (H : Hp) : List Addr:=(List.range h.objs.size).filter fun a=>(H a).isSome
def hidT (h : Heap) (H : Hp) : Heap:=PySem.W.hideAll h (trk h H)
theorem hidT_size (h : Heap) (H : Hp) : (hidT h H).objs.size = h.objs.size:=PySem.W.hideAll_size _ _
theorem hidT_get {h : Heap} {H : Hp} {b : Addr} {o : Obj} (e : h.get? b = some o) (n : H b = none) : (hidT h H).get? b = some o :=
  PySem.W.hideAll_get _ e fun hm=>by
    have q : (H b).isSome = true:=(List.mem_filter.mp hm).2
    rw [n] at q; simp at q
theorem of_hidT {h : Heap} {H : Hp} {b : Addr} {o : Obj} (e : (hidT h H).get? b = some o) : h.get? b = some o∧H b = none:=by
  have e' : h.get? b = some o:=PySem.W.of_hideAll (trk h H) e
  refine ⟨e',?_⟩
  cases q : H b with
  | none=>rfl
  | some x =>
    have hm : b ∈ trk h H:=List.mem_filter.mpr ⟨List.mem_range.mpr (Heap.lt_size e'),by simp [q]⟩
    have z : (hidT h H).get? b = none:=PySem.W.hideAll_none (trk h H) hm
    rw [z] at e; cases e
end L2
namespace L2
open PySem PySem.Spec PyProof.Rows
structure Mod (K : PySem.W.Frag) (mg : Str→Option Value) (base : Heap) : Prop where
  kin : K.In base
  glob : base.Ns mainGlobals mg
  blt : ∃ mb,base.Ns builtinsNs mb∧∀ x : Str,x ≠ "__name__" → mb x = bootBuiltins x
  nolimit : base.NoLimit
structure Cx where
  prog : Program
  w : World
  K : PySem.W.Frag
  mg : Str→Option Value
  base : Heap
  A : Around
  N : List Str
  s₀ : Shared
  H₀ : Hp
  env : Env
  outer : List Env
  stack : List Env
  ex : List Addr
  fn : Str→Bool
  calm : Bool
  pn : List (Addr × Obj)
  xe : Value→Shared→Prop
def frs (l : List Env) : List Addr:=l.filterMap (·.frame)
abbrev Cx.fs (X : Cx) : List Addr:=frs X.outer
def Vis (sc : Scope) (x : Str) : Prop:=sc.names.lookup x = some .local∨sc.names.lookup x = some .cell∨sc.names.lookup x = some .free
def Loc (sc : Scope) (x : Str) : Prop:=sc.names.lookup x = some .local∨sc.names.lookup x = some .cell
def Look (env : Env) (h : Heap) (m : Str→Option Value) (x : Str) (u : Value) : Prop :=
  (env.kindOf x = some .local∧m x = some u)∨((env.kindOf x = some .cell∨env.kindOf x = some .free)∧∃ c,env.cells.lookup x = some c∧h.IsCell c (some u))
structure Cx.Ok (X : Cx) : Prop where
  mod : Mod X.K X.mg X.base
  kind : X.env.scope.kind = .function
  glob : X.env.globals = mainGlobals
  blt : X.env.builtins = builtinsNs
  above : X.s₀.heap.objs.size ≤ X.env.locals
  inj : ∀ x y c,X.env.cells.lookup x = some c→X.env.cells.lookup y = some c→x = y
  has : ∀ x,(X.env.kindOf x = some .cell∨X.env.kindOf x = some .free)→∃ c,X.env.cells.lookup x = some c
  cab : ∀ x c,X.fn x = true→X.env.cells.lookup x = some c→X.s₀.heap.objs.size ≤ c
  hd : X.calm = true→X.A.handled = none
  frames : X.A.frames = some X.stack
  stk : X.stack = X.outer∨(X.stack = X.env :: X.outer∧X.env.frame = some X.env.locals)
  exf : ∀ b ∈ X.ex,b ≠ X.env.locals∧∀ x c,X.env.cells.lookup x = some c→c ≠ b
  bs : ∀ b o,X.base.get? b = some o→X.s₀.heap.get? b = some o∧X.H₀ b = none
  bsz : X.base.objs.size ≤ X.s₀.heap.objs.size
  noex : ∀ b o,X.base.get? b = some o→b ∉ X.ex
  exfs : ∀ b ∈ X.ex,b ∉ X.fs
  funs : X.s₀.heap.FunFrames X.base X.outer
  frf : ∀ b ∈ X.fs,X.H₀ b = none
structure Inv (X : Cx) (pins : List (Addr × Obj)) (σ : List (Option V)) (H : Hp) (s : Shared) : Prop where
  ok : X.Ok
  os : s.os = X.s₀.os
  bare : AllBare s.gens
  base : Un X.fs X.ex X.H₀ H X.s₀.heap s.heap
  loc : ∃ m,s.heap.Ns X.env.locals m∧∀ (i : Nat) (x : Str) (v : V),X.N[i]? = some x→σ[i]? = some (some v)→Vis X.env.scope x→∃ u,RelV v u∧Look X.env s.heap m x u
  cell : ∀ x c,X.env.cells.lookup x = some c→∃ v,s.heap.IsCell c v
  free : H X.env.locals = none
  freeC : ∀ x c,X.env.cells.lookup x = some c→H c = none
  pin : ∀ p ∈ X.pn ++ pins,s.heap.get? p.1 = some p.2∧H p.1 = none∧p.1 ≠ X.env.locals∧p.1 ∉ X.fs∧∀ v,p.2.data ≠ .cell v
  hok : HOk X.prog X.w H s.heap
  len : σ.length = X.N.length
section
variable {X : Cx} {pins : List (Addr × Obj)} {σ : List (Option V)} {H H' : Hp} {s : Shared} {h' : Heap}
theorem Cx.Ok.nofr (ok : X.Ok) {b : Addr} {o : Obj} (e : X.base.get? b = some o) : b ∉ X.fs:=fun hb=>by
  have:=(ok.funs.mem hb).1
  rw [e] at this; cases this
theorem Inv.bs (I : Inv X pins σ H s) : ∀ b o,X.base.get? b = some o→s.heap.get? b = some o∧H b = none:=fun b o e =>
  ⟨I.base.keep b o (I.ok.bs b o e).1 (I.ok.bs b o e).2 (I.ok.nofr e) (I.ok.noex b o e),I.base.free b o (I.ok.bs b o e).1 (I.ok.bs b o e).2 (I.ok.noex b o e)⟩
theorem Inv.bk (I : Inv X pins σ H s) : ∀ b o,X.base.get? b = some o→s.heap.get? b = some o:=fun b o e=>(I.bs b o e).1
theorem Inv.mod (I : Inv X pins σ H s) : Mod X.K X.mg X.base:=I.ok.mod
theorem Inv.kIn (I : Inv X pins σ H s) : X.K.In s.heap:=I.ok.mod.kin.keeps I.bk
theorem Inv.lt (I : Inv X pins σ H s) : X.env.locals < s.heap.objs.size:=let ⟨_,hn,_⟩:=I.loc; hn.lt
theorem Inv.sz (I : Inv X pins σ H s) : X.s₀.heap.objs.size ≤ s.heap.objs.size:=Nat.le_trans I.ok.above (Nat.le_of_lt I.lt)
theorem Inv.nofs (I : Inv X pins σ H s) {a : Addr} (h : s.heap.objs.size ≤ a) : a ∉ X.fs:=fun hb=>by
  obtain ⟨_,o,ho,_⟩:=I.ok.funs.mem hb
  exact absurd (Nat.lt_of_lt_of_le (Heap.lt_size ho) (Nat.le_trans I.sz h)) (Nat.lt_irrefl _)
theorem Inv.cne (I : Inv X pins σ H s) : ∀ x c,X.env.cells.lookup x = some c→c ≠ X.env.locals:=fun x c e z=>by
  obtain ⟨v,o,ho,hd⟩:=I.cell x c e
  obtain ⟨m,⟨o',es,ep,ho',hd',_⟩,_⟩:=I.loc
  rw [z,ho'] at ho; cases ho; rw [hd'] at hd; cases hd
theorem Inv.funs (I : Inv X pins σ H s) : s.heap.FunFrames X.base X.outer:=by
  have all : ∀ (l : List Env),(∀ b ∈ frs l,b ∈ X.fs)→X.s₀.heap.FunFrames X.base l→s.heap.FunFrames X.base l:=by
    intro l
    induction l with
    | nil=>intro _ _; trivial
    | cons env r ih =>
      intro hs hl
      obtain ⟨hk,⟨L,o,hf,hn,ho,hd⟩,hr⟩:=hl
      have hL : L ∈ X.fs:=hs L (by unfold frs; rw [List.filterMap_cons,hf]; exact List.mem_cons_self)
      obtain ⟨sl,e⟩:=I.base.slot L o ho (I.ok.frf L hL) hL fun z=>I.ok.exfs L z hL
      exact ⟨hk,⟨L,_,hf,hn,e,hd⟩,ih (fun b hb=>hs b (by unfold frs; rw [List.filterMap_cons,hf]; exact List.mem_cons_of_mem _ hb)) hr⟩
  exact all X.outer (fun _ hb=>hb) I.ok.funs
theorem Inv.stack (I : Inv X pins σ H s) : s.heap.FunFrames X.base X.stack:=by
  rcases I.ok.stk with e | ⟨e,hf⟩
  · rw [e]; exact I.funs
  · rw [e]
    obtain ⟨m,hn,_⟩:=I.loc
    refine .cons (by rw [I.ok.kind]; decide) hf hn ?_ I.funs
    exact Heap.get?_none_of_le (Nat.le_trans I.ok.bsz I.ok.above)
theorem Inv.stkSub (I : Inv X pins σ H s) : ∀ b ∈ frs X.stack,b ∈ X.env.locals :: X.fs:=fun b hb=>by
  rcases I.ok.stk with e | ⟨e,hf⟩
  · rw [e] at hb; exact List.mem_cons_of_mem _ hb
  · rw [e] at hb
    unfold frs at hb
    rw [List.filterMap_cons,hf] at hb
    exact hb
theorem Inv.stkFree (I : Inv X pins σ H s) : ∀ b ∈ frs X.stack,H b = none:=fun b hb=>by
  rcases List.mem_cons.mp (I.stkSub b hb) with e | hb
  · rw [e]; exact I.free
  · obtain ⟨_,o,ho,_⟩:=I.ok.funs.mem hb
    exact I.base.free b o ho (I.ok.frf b hb) fun z=>I.ok.exfs b z hb
theorem Inv.step {g' : Array GenState} {t' : Nat} {d' : Drawn} {ch : List Addr} (I : Inv X pins σ H s)
    (hch : ∀ b ∈ ch,(b ∈ X.ex∨X.s₀.heap.objs.size ≤ b)∧b ≠ X.env.locals∧(∀ x c,X.env.cells.lookup x = some c→c ≠ b)∧∀ p ∈ X.pn ++ pins,p.1 ≠ b)
    (keep : ∀ b o,b ≠ X.env.locals→b ∉ X.fs→b ∉ ch→s.heap.get? b = some o→H b = none→h'.get? b = some o)
    (slot : ∀ b o,b ≠ X.env.locals→b ∈ X.fs→b ∉ ch→s.heap.get? b = some o→H b = none→∃ sl,h'.get? b = some { o with slots:=sl }) (free : ∀ b o,b ∉ ch→s.heap.get? b = some o→H b = none→H' b = none)
    (there : ∀ b o,b ∉ ch→s.heap.get? b = some o→∃ o',h'.get? b = some o')
    (tups : ∀ b xs,H b = some (.tup xs)→H' b = some (.tup xs)) (frzs : ∀ b o u,H b = some (.frz o u)→H' b = some (.frz o u)) (tbls : ∀ b ps,H b = some (.tbl ps)→∃ more,H' b = some (.tbl (ps ++ more)))
    (ns : ∀ m,s.heap.Ns X.env.locals m→h'.Ns X.env.locals m) (hok : HOk X.prog X.w H' h') (hg : AllBare g') :
    Inv X pins σ H' { s with heap:=h',gens:=g',drawn:=d',toks:=t' }:=by
  have neL : ∀ b o,X.s₀.heap.get? b = some o→b ≠ X.env.locals:=fun b o e=>Nat.ne_of_lt (Nat.lt_of_lt_of_le (Heap.lt_size e) I.ok.above)
  have neC : ∀ b o,X.s₀.heap.get? b = some o→b ∉ X.ex→b ∉ ch:=fun b o e hx hb=>by
    rcases (hch b hb).1 with z | z
    · exact hx z
    · exact absurd (Nat.lt_of_lt_of_le (Heap.lt_size e) z) (Nat.lt_irrefl _)
  have cellK : ∀ x c,X.env.cells.lookup x = some c→∀ v,s.heap.IsCell c v→h'.IsCell c v:=fun x c e v ⟨o,ho,hd⟩=>by
    have nch : c ∉ ch:=fun z=>(hch c z).2.2.1 x c e rfl
    by_cases hc : c ∈ X.fs
    · obtain ⟨sl,q⟩:=slot c o (I.cne x c e) hc nch ho (I.freeC x c e)
      exact ⟨_,q,hd⟩
    · exact ⟨o,keep c o (I.cne x c e) hc nch ho (I.freeC x c e),hd⟩
  refine ⟨I.ok,I.os,hg,⟨fun b o e n hb hx=>?_,fun b o e n hb hx=>?_,fun b o e n hx=>?_,fun b o e hx=>?_,fun b xs e=>tups b xs (I.base.tups b xs e),fun b o xs e=>frzs b o xs (I.base.frzs b o xs e),fun b ps e=>?_⟩,?_,fun x c e=>?_,?_,fun x c e=>?_,fun p hp=>?_,hok,I.len⟩
  · exact keep b o (neL b o e) hb (neC b o e hx) (I.base.keep b o e n hb hx) (I.base.free b o e n hx)
  · obtain ⟨sl,e1⟩:=I.base.slot b o e n hb hx
    obtain ⟨sl',e2⟩:=slot b _ (neL b o e) hb (neC b o e hx) e1 (I.base.free b o e n hx)
    exact ⟨sl',e2⟩
  · obtain ⟨o',e1⟩:=I.base.there b o e hx
    exact free b o' (neC b o e hx) e1 (I.base.free b o e n hx)
  · obtain ⟨o',e1⟩:=I.base.there b o e hx
    exact there b o' (neC b o e hx) e1
  · obtain ⟨m1,e1⟩:=I.base.tbls b ps e
    obtain ⟨m2,e2⟩:=tbls b _ e1
    exact ⟨m1 ++ m2,by rw [e2,Array.append_assoc]⟩
  · obtain ⟨m,hn,hl⟩:=I.loc
    refine ⟨m,ns m hn,fun i x v e1 e2 e3=>?_⟩
    obtain ⟨u,r,l⟩:=hl i x v e1 e2 e3
    refine ⟨u,r,?_⟩
    rcases l with l | ⟨k,c,e,z⟩
    · exact .inl l
    · exact .inr ⟨k,c,e,cellK x c e _ z⟩
  · obtain ⟨v,z⟩:=I.cell x c e
    exact ⟨v,cellK x c e v z⟩
  · obtain ⟨m,⟨o,_,_,ho,_⟩,_⟩:=I.loc
    exact free _ o (fun z=>(hch _ z).2.1 rfl) ho I.free
  · obtain ⟨v,o,ho,hd⟩:=I.cell x c e
    exact free c o (fun z=>(hch c z).2.2.1 x c e rfl) ho (I.freeC x c e)
  · obtain ⟨e,n,ne,nf,d⟩:=I.pin p hp
    have nch : p.1 ∉ ch:=fun z=>(hch p.1 z).2.2.2 p hp rfl
    exact ⟨keep p.1 p.2 ne nf nch e n,free p.1 p.2 nch e n,ne,nf,d⟩
theorem Inv.un {t' : Nat} (I : Inv X pins σ H s) (u : Un X.fs [] H H' s.heap h') (hok : HOk X.prog X.w H' h') : Inv X pins σ H' { s with heap:=h',toks:=t' }:=by
  obtain ⟨m,⟨o,es,ep,ho,r⟩,_⟩:=id I.loc
  obtain ⟨sl,hL⟩:=u.any ho I.free (by simp)
  exact I.step (g':=s.gens) (d':=s.drawn) (ch:=[]) (fun _ z=>nomatch z) (fun b o _ hb _ e n=>u.keep b o e n hb (by simp)) (fun b o _ hb _ e n=>u.slot b o e n hb (by simp)) (fun b o _ e n=>u.free b o e n (by simp)) (fun b o _ e=>u.there b o e (by simp)) u.tups u.frzs u.tbls (fun m' hm=>by
    obtain ⟨o',es',ep',ho',r'⟩:=hm
    rw [ho] at ho'; cases ho'
    exact ⟨_,es',ep',hL,r'⟩) hok I.bare
theorem Inv.call {g' : Array GenState} {t' : Nat} {d' : Drawn} {ch : List Addr} (I : Inv X pins σ H s) (u : Un (frs X.stack) ch H H' s.heap h') (hok : HOk X.prog X.w H' h') (hg : AllBare g')
    (hch : ∀ b ∈ ch,(b ∈ X.ex∨X.s₀.heap.objs.size ≤ b)∧b ≠ X.env.locals∧(∀ x c,X.env.cells.lookup x = some c→c ≠ b)∧∀ p ∈ X.pn ++ pins,p.1 ≠ b) :
    Inv X pins σ H' { s with heap:=h',gens:=g',drawn:=d',toks:=t' }:=by
  obtain ⟨m,⟨o,es,ep,ho,r⟩,_⟩:=id I.loc
  obtain ⟨sl,hL⟩:=u.any ho I.free fun z=>(hch _ z).2.1 rfl
  exact I.step (ch:=ch) hch (fun b o hL hb hc e n=>u.keep b o e n (fun z=>(List.mem_cons.mp (I.stkSub b z)).elim hL hb) hc) (fun b o _ _ hc e n=>u.any e n hc) (fun b o hc e n=>u.free b o e n hc) (fun b o hc e=>u.there b o e hc) u.tups u.frzs u.tbls (fun m' hm=>by
    obtain ⟨o',es',ep',ho',r'⟩:=hm
    rw [ho] at ho'; cases ho'
    exact ⟨_,es',ep',hL,r'⟩) hok hg
theorem Inv.turned {t' : Nat} {it : Addr} (I : Inv X pins σ H s) (k : ∀ b o,b ≠ it→s.heap.get? b = some o→h'.get? b = some o) (hn : H it = none) (hL : it ≠ X.env.locals)
    (h1 : it ∈ X.ex∨X.s₀.heap.objs.size ≤ it) (h2 : ∀ x c,X.env.cells.lookup x = some c→c ≠ it) (h3 : ∀ p ∈ X.pn ++ pins,p.1 ≠ it) : Inv X pins σ H { s with heap:=h',toks:=t' }:=by
  have nit : ∀ b u,H b = some u→b ≠ it:=fun b u e z=>by rw [z,hn] at e; cases e
  refine I.step (g':=s.gens) (d':=s.drawn) (ch:=[it]) (fun b hb=>?_) (fun b o _ _ hc e _=>k b o (fun z=>hc (by simp [z])) e) (fun b o _ _ hc e _=>⟨o.slots,k b o (fun z=>hc (by simp [z])) e⟩) (fun _ _ _ _ n=>n)
    (fun b o hc e=>⟨o,k b o (fun z=>hc (by simp [z])) e⟩) (fun _ _ e=>e) (fun _ _ _ e=>e) (fun b ps e=>⟨#[],by rw [e]; simp⟩) (fun m hm=>?_) (fun b u e=>?_) I.bare
  · have e : b = it:=by simpa using hb
    subst e
    exact ⟨h1,hL,h2,h3⟩
  · obtain ⟨o,es,ep,ho,r⟩:=hm
    exact ⟨o,es,ep,k _ o (Ne.symm hL) ho,r⟩
  · refine (I.hok b u e).stay (fun c v hc q=>k c v ?_ q) (fun _ q=>q) fun _ _ q=>q
    rcases hc with z | z
    · rw [z]; exact nit b u e
    · exact nit c _ z
theorem Inv.tok (I : Inv X pins σ H s) (t : Nat) : Inv X pins σ H { s with toks:=t }:=I.un (h':=s.heap) (t':=t) Un.refl I.hok
theorem Inv.kept {t' : Nat} (I : Inv X pins σ H s) (k : ∀ b u,s.heap.get? b = some u→h'.get? b = some u) : Inv X pins σ H { s with heap:=h',toks:=t' }:=I.un (Un.kept k) (I.hok.kept k)
theorem Inv.laid {a : Addr} {o : HO} {t' : Nat} (I : Inv X pins σ H s) (k : ∀ b u,s.heap.get? b = some u→h'.get? b = some u) (hp : s.heap.objs.size ≤ a) (new : ObjOk X.prog X.w (upd H a o) h' a o) :
    Inv X pins σ (upd H a o) { s with heap:=h',toks:=t' }:=I.un (Un.laid k hp (I.hok.fresh hp)) (I.hok.laid k hp new)
theorem Inv.write {x e : Addr} {o : HO} {t' : Nat} (I : Inv X pins σ H s) (mu : Mut (H x)) (he : e = x∨H e = some (.own x)) (k : ∀ b u,b ≠ e→s.heap.get? b = some u→h'.get? b = some u) (heo : ∃ u,h'.get? e = some u)
    (new : ObjOk X.prog X.w (upd H x o) h' x o) : Inv X pins σ (upd H x o) { s with heap:=h',toks:=t' }:=I.un (Un.write mu he k heo) (I.hok.write mu he k heo new)
theorem Inv.pins_of {pins' : List (Addr × Obj)} (I : Inv X pins σ H s) (h : ∀ p ∈ pins',s.heap.get? p.1 = some p.2∧H p.1 = none∧p.1 ≠ X.env.locals∧p.1 ∉ X.fs∧∀ v,p.2.data ≠ .cell v) : Inv X pins' σ H s :=
  ⟨I.ok,I.os,I.bare,I.base,I.loc,I.cell,I.free,I.freeC,fun p hp=>(List.mem_append.mp hp).elim (fun z=>I.pin p (List.mem_append_left _ z)) (h p),I.hok,I.len⟩
theorem nodup_ix {N : List Str} (hN : N.Nodup) {i j : Nat} {x : Str} (a : N[i]? = some x) (b : N[j]? = some x) : i = j:=by
  obtain ⟨h1,e1⟩:=List.getElem?_eq_some_iff.mp a
  obtain ⟨h2,e2⟩:=List.getElem?_eq_some_iff.mp b
  exact (List.getElem_inj hN).mp (e1.trans e2.symm)
theorem store_ok2 {M : Model} {A : Around} {E : Value→Shared→Prop} {i : Nat} {x : Str} {v : V} {u : Value} {Q : Unit→Shared→Prop} (I : Inv X pins σ H s) (hN : X.N.Nodup) (hi : X.N[i]? = some x) (hx : Loc X.env.scope x) (r : RelV v u)
    (h : ∀ s',Inv X pins (σ.set i (some v)) H s'→(∃ a,Heap.SameBut a s.heap s'.heap∧(a = X.env.locals∨X.env.cells.lookup x = some a))→Q () s') (hf : X.fn x = true∨X.env.scope.names.lookup x = some .local:=by first | exact .inl rfl | exact .inr rfl | assumption) : wpAny M A (storeName X.env x u) Q E s:=by
  obtain ⟨m,hn,hl⟩:=id I.loc
  have hcls : (X.env.scope.kind == .class || (X.env.scope.kind == .module && X.env.locals != X.env.globals)) = false:=by rw [I.ok.kind]; rfl
  have hiσ : i < σ.length:=by rw [I.len]; exact (List.getElem?_eq_some_iff.mp hi).1
  have cne:=I.cne
  have tracked : ∀ {a : Addr} {h' : Heap},(∃ o,s.heap.get? a = some o∧H a = none)→Heap.SameBut a s.heap h'→HOk X.prog X.w H h':=fun {a h'} ha hs b ob e=>by
    obtain ⟨_,_,hfree⟩:=ha
    refine (I.hok b ob e).stay (fun c w' hc q=>(hs.2 c ?_).trans q) (fun _ q=>q) fun _ _ q=>q
    rintro rfl
    rcases hc with rfl | hc
    · rw [hfree] at e; cases e
    · rw [hfree] at hc; cases hc
  rcases hx with hk | hk
  · refine wpAny_storeName_local hk hn (fun h' hn' hs=>?_) hcls
    obtain ⟨oL,_,_,hoL,_⟩:=id hn
    refine h _ ⟨I.ok,I.os,I.bare,⟨fun b o e n hb hx=>?_,fun b o e n hb hx=>?_,I.base.free,fun b o e hx=>?_,I.base.tups,I.base.frzs,I.base.tbls⟩,⟨_,hn',fun j y v' e1 e2 e3=>?_⟩,fun y c e=>?_,I.free,I.freeC,fun p hp=>?_,tracked ⟨oL,hoL,I.free⟩ hs,by simpa using I.len⟩ ⟨_,hs,.inl rfl⟩
    · exact (hs.2 b (Nat.ne_of_lt (Nat.lt_of_lt_of_le (Heap.lt_size e) I.ok.above))).trans (I.base.keep b o e n hb hx)
    · obtain ⟨sl,e1⟩:=I.base.slot b o e n hb hx
      exact ⟨sl,(hs.2 b (Nat.ne_of_lt (Nat.lt_of_lt_of_le (Heap.lt_size e) I.ok.above))).trans e1⟩
    · obtain ⟨o',e1⟩:=I.base.there b o e hx
      exact ⟨o',(hs.2 b (Nat.ne_of_lt (Nat.lt_of_lt_of_le (Heap.lt_size e) I.ok.above))).trans e1⟩
    · by_cases hj : j = i
      · subst hj
        rw [hi] at e1; cases e1
        rw [List.getElem?_set_self hiσ] at e2
        cases e2
        exact ⟨u,r,.inl ⟨hk,by simp⟩⟩
      · rw [List.getElem?_set_ne (Ne.symm hj)] at e2
        obtain ⟨u',r',q⟩:=hl j y v' e1 e2 e3
        refine ⟨u',r',?_⟩
        rcases q with ⟨k,e⟩ | ⟨k,c,e,z⟩
        · refine .inl ⟨k,?_⟩
          have : y ≠ x:=fun e=>hj (nodup_ix hN e1 (e ▸ hi))
          simp [this,e]
        · exact .inr ⟨k,c,e,z.sameBut hs (cne y c e)⟩
    · obtain ⟨w',z⟩:=I.cell y c e
      exact ⟨w',z.sameBut hs (cne y c e)⟩
    · obtain ⟨e,n,ne,nf,d⟩:=I.pin p hp
      exact ⟨(hs.2 p.1 ne).trans e,n,ne,nf,d⟩
  · have hfn : X.fn x = true:=by
      rcases hf with z | z
      · exact z
      · rw [z] at hk; cases hk
    obtain ⟨c,hc⟩:=I.ok.has x (.inl hk)
    obtain ⟨w',z⟩:=I.cell x c hc
    refine wpAny_storeName_cell I.ok.kind hk hc z (fun h' hc' hs=>?_)
    obtain ⟨oc,hoc,hocd⟩:=id z
    refine h { s with heap:=h' } ⟨I.ok,I.os,I.bare,⟨fun b o e n hb hx=>?_,fun b o e n hb hx=>?_,I.base.free,fun b o e hx=>?_,I.base.tups,I.base.frzs,I.base.tbls⟩,⟨m,hn.sameBut hs (Ne.symm (cne x c hc)),fun j y v' e1 e2 e3=>?_⟩,fun y c' e=>?_,I.free,I.freeC,fun p hp=>?_,tracked ⟨oc,hoc,I.freeC x c hc⟩ hs,by simpa using I.len⟩ ⟨c,hs,.inr hc⟩
    · exact (hs.2 b (Nat.ne_of_lt (Nat.lt_of_lt_of_le (Heap.lt_size e) (I.ok.cab x c hfn hc)))).trans (I.base.keep b o e n hb hx)
    · obtain ⟨sl,e1⟩:=I.base.slot b o e n hb hx
      exact ⟨sl,(hs.2 b (Nat.ne_of_lt (Nat.lt_of_lt_of_le (Heap.lt_size e) (I.ok.cab x c hfn hc)))).trans e1⟩
    · obtain ⟨o',e1⟩:=I.base.there b o e hx
      exact ⟨o',(hs.2 b (Nat.ne_of_lt (Nat.lt_of_lt_of_le (Heap.lt_size e) (I.ok.cab x c hfn hc)))).trans e1⟩
    · by_cases hj : j = i
      · subst hj
        rw [hi] at e1; cases e1
        rw [List.getElem?_set_self hiσ] at e2
        cases e2
        exact ⟨u,r,.inr ⟨.inl hk,c,hc,hc'⟩⟩
      · rw [List.getElem?_set_ne (Ne.symm hj)] at e2
        obtain ⟨u',r',q⟩:=hl j y v' e1 e2 e3
        refine ⟨u',r',?_⟩
        rcases q with q | ⟨k,c',e,z'⟩
        · exact .inl q
        · refine .inr ⟨k,c',e,z'.sameBut hs ?_⟩
          rintro rfl
          exact hj (nodup_ix hN e1 (I.ok.inj _ _ _ e hc ▸ hi))
    · by_cases hcc : c' = c
      · subst hcc; exact ⟨_,hc'⟩
      · obtain ⟨w2,z2⟩:=I.cell y c' e
        exact ⟨w2,z2.sameBut hs hcc⟩
    · obtain ⟨e,n,ne,nf,d⟩:=I.pin p hp
      refine ⟨(hs.2 p.1 ?_).trans e,n,ne,nf,d⟩
      intro q
      rw [q,hoc] at e
      have q' : oc = p.2:=Option.some.inj e
      exact d w' (by rw [← q']; exact hocd)
theorem store_ok {M : Model} {A : Around} {E : Value→Shared→Prop} {i : Nat} {x : Str} {v : V} {u : Value} {Q : Unit→Shared→Prop} (I : Inv X pins σ H s) (hN : X.N.Nodup) (hi : X.N[i]? = some x) (hx : Loc X.env.scope x) (r : RelV v u)
    (h : ∀ s',Inv X pins (σ.set i (some v)) H s'→Q () s') (hf : X.fn x = true∨X.env.scope.names.lookup x = some .local:=by first | exact .inl rfl | exact .inr rfl | assumption) : wpAny M A (storeName X.env x u) Q E s :=
  store_ok2 I hN hi hx r (fun s' I' _=>h s' I') hf
theorem Inv.call' {s' : Shared} {ch : List Addr} (I : Inv X pins σ H s) (ho : s'.os = s.os) (u : Un (frs X.stack) ch H H' s.heap s'.heap) (hok : HOk X.prog X.w H' s'.heap) (hg : AllBare s'.gens)
    (hch : ∀ b ∈ ch,(b ∈ X.ex∨X.s₀.heap.objs.size ≤ b)∧b ≠ X.env.locals∧(∀ x c,X.env.cells.lookup x = some c→c ≠ b)∧∀ p ∈ X.pn ++ pins,p.1 ≠ b) : Inv X pins σ H' s':=by
  obtain ⟨h',g',d',t',o'⟩:=s'
  have e : o' = s.os:=ho
  subst e
  exact I.call (g':=g') (t':=t') (d':=d') u hok hg hch
end
abbrev XK:=Value→Option Addr→Hp→Prop
abbrev St:=List (Option V)
abbrev VK:=V→Hp→Prop
abbrev TE:=St→Hp→VK→Prop
abbrev TT:=St→Hp→(Bool→Hp→Prop)→Prop
abbrev TA:=St→Hp→(List V→Hp→Prop)→Prop
structure Ends where
  nx : St→Hp→Prop
  rt : VK
  bk : St→Hp→Prop:=fun _ _=>False
  ct : St→Hp→Prop:=fun _ _=>False
abbrev TS:=Ends→St→Hp→Prop
def EP (X : Cx) (pins : List (Addr × Obj)) (σ : St) (Q : VK) (u : Value) (s' : Shared) : Prop:=∃ v H',Inv X pins σ H' s'∧RelV v u∧Q v H'
def TP (X : Cx) (pins : List (Addr × Obj)) (σ : St) (Q : Bool→Hp→Prop) (b : Bool) (s' : Shared) : Prop:=∃ H',Inv X pins σ H' s'∧Q b H'
def AP (X : Cx) (pins : List (Addr × Obj)) (σ : St) (Q : List V→Hp→Prop) (us : List Value) (s' : Shared) : Prop:=∃ vs H',Inv X pins σ H' s'∧Vals vs us∧Q vs H'
def SP (X : Cx) (pins : List (Addr × Obj)) (D : Ends) (f : Flow) (s' : Shared) : Prop :=
  match f with
  | .next=>∃ σ' H',Inv X pins σ' H' s'∧D.nx σ' H'
  | .brk=>∃ σ' H',Inv X pins σ' H' s'∧D.bk σ' H'
  | .cont=>∃ σ' H',Inv X pins σ' H' s'∧D.ct σ' H'
  | .ret u=>∃ v σ' H',Inv X pins σ' H' s'∧RelV v u∧D.rt v H'
def PE (X : Cx) (e : Expr) (t : TE) : Prop :=
  ∀ (pins : List (Addr × Obj)) (s : Shared) (σ : St) (H : Hp) (Q : VK),Inv X pins σ H s→t σ H Q→wpAny (model X.prog X.w) X.A (eval e X.env) (EP X pins σ Q) X.xe s
def PT (X : Cx) (e : Expr) (t : TT) : Prop :=
  ∀ (pins : List (Addr × Obj)) (s : Shared) (σ : St) (H : Hp) (Q : Bool→Hp→Prop),Inv X pins σ H s→t σ H Q→wpAny (model X.prog X.w) X.A (isTrue e X.env (eval e X.env)) (TP X pins σ Q) X.xe s
def PW (X : Cx) (e : Expr) (t : TT) : Prop :=
  ∀ (whole : Sem Value) (pins : List (Addr × Obj)) (s : Shared) (σ : St) (H : Hp) (Q : Bool→Hp→Prop),Inv X pins σ H s→t σ H Q→wpAny (model X.prog X.w) X.A (isTrue e X.env whole) (TP X pins σ Q) X.xe s
theorem PW.pt {X : Cx} {e : Expr} {t : TT} (h : PW X e t) : PT X e t:=h _
def PA (X : Cx) (es : List Expr) (t : TA) : Prop :=
  ∀ (pos : Pos) (pins : List (Addr × Obj)) (s : Shared) (σ : St) (H : Hp) (Q : List V→Hp→Prop),Inv X pins σ H s→t σ H Q→wpAny (model X.prog X.w) X.A (spliced (backTo pos (starEach es X.env))) (AP X pins σ Q) X.xe s
def PS (X : Cx) (st : Stmt) (t : TS) : Prop :=
  ∀ (pins : List (Addr × Obj)) (s : Shared) (σ : St) (H : Hp) (D : Ends),Inv X pins σ H s→t D σ H→wpAny (model X.prog X.w) X.A (exec st X.env) (SP X pins D) X.xe s
def PSs (X : Cx) (st : List Stmt) (t : TS) : Prop :=
  ∀ (pins : List (Addr × Obj)) (s : Shared) (σ : St) (H : Hp) (D : Ends),Inv X pins σ H s→t D σ H→wpAny (model X.prog X.w) X.A (execs st X.env) (SP X pins D) X.xe s
theorem thn {α : Type} {t : Sem α} {Q Q' : α→Shared→Prop} {M : Model} {A : Around} {E : Value→Shared→Prop} {s : Shared} (h : wpAny M A t Q E s) (hQ : ∀ a s,Q a s→Q' a s) : wpAny M A t Q' E s:=wpAny_mono h hQ fun _ _ x=>x
end L2
namespace L2
open PySem PySem.Spec PyProof.Rows
section
variable {X : Cx}
theorem bin {a b : Expr} {ta tb : TE} (ha : PE X a ta) (hb : PE X b tb) {pins : List (Addr × Obj)} {s : Shared} {σ : St} {H : Hp} {R : V→V→Hp→Prop} (I : Inv X pins σ H s) (h : ta σ H fun x H1=>tb σ H1 fun y H2=>R x y H2)
    {α : Type} {Q : α→Shared→Prop} {f : Value→Value→Sem α}
    (hf : ∀ v u s2 x y H2,Inv X pins σ H2 s2→RelV x v→RelV y u→R x y H2→wpAny (model X.prog X.w) X.A (f v u) Q X.xe s2) :
    wpAny (model X.prog X.w) X.A (eval a X.env) (fun v s₁=>wpAny (model X.prog X.w) X.A (eval b X.env) (fun u s₂=>wpAny (model X.prog X.w) X.A (f v u) Q X.xe s₂) X.xe s₁) X.xe s:=by
  refine thn (ha pins s σ H _ I h) fun v s1 ⟨x,H1,I1,r1,q1⟩=>?_
  refine thn (hb pins s1 σ H1 _ I1 q1) fun u s2 ⟨y,H2,I2,r2,q2⟩=>?_
  exact hf v u s2 x y H2 I2 r1 r2 q2
def tVar (i : Nat) : TE:=fun σ H Q=>∃ v,σ[i]? = some (some v)∧Q v H
def tC (v : V) : TE:=fun _ H Q=>Q v H
theorem pe_var {i : Nat} {x : Str} {pos : Pos} (hN : X.N[i]? = some x) (hv : Vis X.env.scope x) (hd : (x == ("__debug__" : Str)) = false:=by decide) (hcd : (x == ("__classdict__" : Str)) = false:=by decide) : PE X (.Name x pos) (tVar i):=by
  intro pins s σ H Q I h
  obtain ⟨v,e,h⟩:=h
  obtain ⟨m,hn,hl⟩:=I.loc
  obtain ⟨u,r,l⟩:=hl i x v hN e hv
  have fin : EP X pins σ Q u s:=⟨v,H,I,r,h⟩
  rcases l with ⟨hk,hm⟩ | ⟨hk,c,hc,hcell⟩
  · exact wpAny_Name (wpAny_loadName_local I.ok.kind hk hn hm fin) hd
  · rcases hk with hk | hk
    · exact wpAny_Name (wpAny_loadName_cell I.ok.kind hk hc hcell fin) hd
    · exact wpAny_Name (wpAny_loadName_free I.ok.kind hk hc hcell fin hcd) hd
theorem pe_int {i j pos} : PE X (.Constant (.int i) j pos) (tC (.int i)):=fun _ _ _ H _ I h=>wpAny_Constant_int ⟨.int i,H,I.tok _,⟨_,rfl⟩,h⟩
theorem pe_bl {b j pos} : PE X (.Constant (.bool b) j pos) (tC (.bl b)):=fun _ _ _ H _ I h=>Constant_bool ⟨.bl b,H,I,rfl,h⟩
theorem pe_non {j pos} : PE X (.Constant .none j pos) (tC .non):=fun _ _ _ H _ I h=>Constant_none ⟨.non,H,I,rfl,h⟩
theorem pe_str {x j pos} : PE X (.Constant (.str x) j pos) (tC (.str x)):=fun _ _ _ H _ I h=>Calls.Constant_str ⟨.str x,H,I.tok _,⟨_,rfl⟩,h⟩
def Gl (X : Cx) (x : Str) : Prop:=X.env.kindOf x = some .globalImplicit
theorem ld_glob {E : Value→Shared→Prop} {pins : List (Addr × Obj)} {s : Shared} {σ : St} {H : Hp} {x : Str} {u : Value} {pos : Pos} {Q : Value→Shared→Prop} (I : Inv X pins σ H s) (hg : Gl X x) (hm : X.mg x = some u) (h : Q u s)
    (hd : (x == ("__debug__" : Str)) = false:=by decide) : wpAny (model X.prog X.w) X.A (eval (.Name x pos) X.env) Q E s :=
  Calls.Name_function_global I.ok.kind hg (Calls.loadGlobal_global (by rw [I.ok.glob]; exact I.mod.glob.keeps I.bk) hm h) hd
theorem ld_blt {E : Value→Shared→Prop} {pins : List (Addr × Obj)} {s : Shared} {σ : St} {H : Hp} {x : Str} {u : Value} {pos : Pos} {Q : Value→Shared→Prop} (I : Inv X pins σ H s) (hg : Gl X x) (hm : X.mg x = none) (hv : bootBuiltins x = some u) (h : Q u s)
    (hn : x ≠ "__name__" := by decide) (hd : (x == ("__debug__" : Str)) = false:=by decide) : wpAny (model X.prog X.w) X.A (eval (.Name x pos) X.env) Q E s:=by
  obtain ⟨mb,h1,h2⟩:=I.mod.blt
  exact Calls.Name_function_global I.ok.kind hg (Calls.loadGlobal_builtin (by rw [I.ok.glob]; exact I.mod.glob.keeps I.bk) hm (by rw [I.ok.blt]; exact h1.keeps I.bk) ((h2 x hn).trans hv) h) hd
theorem pe_glob {x : Str} {v : V} {u : Value} {pos : Pos} (hg : Gl X x) (hm : X.mg x = some u) (r : RelV v u) (hd : (x == ("__debug__" : Str)) = false:=by decide) : PE X (.Name x pos) (tC v) :=
  fun _ _ _ H _ I h=>ld_glob I hg hm ⟨v,H,I,r,h⟩ hd
theorem pe_bltn {x : Str} {v : V} {u : Value} {pos : Pos} (hg : Gl X x) (hm : X.mg x = none) (hv : bootBuiltins x = some u) (r : RelV v u) (hn : x ≠ "__name__" := by decide) (hd : (x == ("__debug__" : Str)) = false:=by decide) : PE X (.Name x pos) (tC v) :=
  fun _ _ _ H _ I h=>ld_blt I hg hm hv ⟨v,H,I,r,h⟩ hn hd
variable {a b : Expr} {ta tb : TE} {pos : Pos}
def PC (X : Cx) (op : CmpOp) (a b : Expr) (t : TE) : Prop :=
  ∀ (pins : List (Addr × Obj)) (s : Shared) (σ : St) (H : Hp) (Q : VK),Inv X pins σ H s→t σ H Q →
    wpAny (model X.prog X.w) X.A (eval a X.env) (fun v s₁=>wpAny (model X.prog X.w) X.A (eval b X.env) (fun u s₂=>wpAny (model X.prog X.w) X.A (compareOp op v u) (EP X pins σ Q) X.xe s₂) X.xe s₁) X.xe s
def tB (t : TE) : TT:=fun σ H Q=>t σ H fun x H1=>∃ c,x = .bl c∧Q c H1
theorem pt_cmp {op : CmpOp} {t : TE} (h : PC X op a b t) (h1 : behindInMarks op b = false:=by first | exact nobehind _ (by decide) (by decide) | rfl) : PT X (.Compare a [op] [b] pos) (tB t):=by
  intro pins s σ H Q I hw
  refine wpAny_isTrue_Compare1 (thn (h pins s σ H _ I hw) fun v s1 h1=>thn h1 fun u s2 h2=>thn h2 fun c s3 ⟨x,H1,I1,r1,q1⟩=>?_) h1
  obtain ⟨d,rfl,q⟩:=q1
  cases r1
  exact wpAny_truthy_bool ⟨H1,I1,q⟩
theorem pt_val {e : Expr} {t : TE} (h : PE X e t) (he : ∀ whole,isTrue e X.env whole = (do let v ← whole; standAt e.pos; holding [v] (truthy v)):=by intro _; rfl) : PT X e (tB t):=by
  intro pins s σ H Q I hw
  refine isTrue_plain (thn (h pins s σ H _ I hw) fun v s1 ⟨x,H1,I1,r1,q1⟩=>?_) (he _)
  obtain ⟨d,rfl,q⟩:=q1
  cases r1
  exact wpAny_truthy_bool ⟨H1,I1,q⟩
variable {tA tB' : TT} {rest : List Expr}
def tOr (t u : TT) : TT:=fun σ H Q=>t σ H fun c H1=>if c = true then Q true H1 else u σ H1 Q
def tNot (t : TT) : TT:=fun σ H Q=>t σ H fun c H1=>Q (!c) H1
theorem pw_or1 (ha : PT X a tA) : PW X (.BoolOp .Or [a] pos) tA:=by
  intro wh pins s σ H Q I h
  refine isTrue_or (thn (ha pins s σ H Q I h) fun c s1 e=>?_)
  cases c with
  | false=>exact isTrue_or_nil e
  | true=>exact e
theorem pw_or (ha : PT X a tA) (hb : PW X (.BoolOp .Or (b :: rest) pos) tB') : PW X (.BoolOp .Or (a :: b :: rest) pos) (tOr tA tB'):=by
  intro wh pins s σ H Q I h
  refine isTrue_or (thn (ha pins s σ H _ I h) fun c s1 ⟨H1,I1,q1⟩=>?_)
  cases c with
  | true=>exact ⟨H1,I1,q1⟩
  | false=>exact hb wh pins s1 σ H1 Q I1 q1
theorem pt_not (ha : PT X a tA) : PT X (.UnaryOp .Not a pos) (tNot tA):=by
  intro pins s σ H Q I h
  exact isTrue_not (ha pins s σ H (fun c H1=>Q (!c) H1) I h)
def tAndV (ta tb : TE) : TE:=fun σ H Q=>ta σ H fun x H1=>∃ c,x = .bl c∧if c = true then tb σ H1 Q else Q (.bl false) H1
def tOrV (ta tb : TE) : TE:=fun σ H Q=>ta σ H fun x H1=>∃ c,x = .bl c∧if c = true then Q (.bl true) H1 else tb σ H1 Q
def tNotV (ta : TE) : TE:=fun σ H Q=>ta σ H fun x H1=>∃ c,x = .bl c∧Q (.bl (!c)) H1
theorem pe_one {op} {t : TE} (h : PE X a t) : PE X (.BoolOp op [a] pos) t:=fun pins s σ H Q I hw=>BoolOp_one (h pins s σ H Q I hw)
theorem pe_and (ha : PE X a ta) (hb : PE X (.BoolOp .And (b :: rest) pos) tb) : PE X (.BoolOp .And (a :: b :: rest) pos) (tAndV ta tb):=by
  intro pins s σ H Q I h
  refine BoolOp_and (thn (ha pins s σ H _ I h) fun v s1 ⟨x,H1,I1,r1,q1⟩=>?_)
  obtain ⟨c,rfl,q1⟩:=q1
  cases r1
  refine wpAny_truthy_bool ?_
  cases c with
  | true=>exact hb pins s1 σ H1 Q I1 q1
  | false=>exact ⟨.bl false,H1,I1,rfl,q1⟩
theorem pe_or (ha : PE X a ta) (hb : PE X (.BoolOp .Or (b :: rest) pos) tb) : PE X (.BoolOp .Or (a :: b :: rest) pos) (tOrV ta tb):=by
  intro pins s σ H Q I h
  refine BoolOp_or (thn (ha pins s σ H _ I h) fun v s1 ⟨x,H1,I1,r1,q1⟩=>?_)
  obtain ⟨c,rfl,q1⟩:=q1
  cases r1
  refine wpAny_truthy_bool ?_
  cases c with
  | false=>exact hb pins s1 σ H1 Q I1 q1
  | true=>exact ⟨.bl true,H1,I1,rfl,q1⟩
theorem pe_not (ha : PE X a ta) : PE X (.UnaryOp .Not a pos) (tNotV ta):=by
  intro pins s σ H Q I h
  refine UnaryOp_ (thn (ha pins s σ H _ I h) fun v s1 ⟨x,H1,I1,r1,q1⟩=>?_)
  obtain ⟨c,rfl,q1⟩:=q1
  cases r1
  exact not_of (wpAny_truthy_bool ⟨.bl (!c),H1,I1,rfl,q1⟩)
def tIf (t : TT) (ta tb : TE) : TE:=fun σ H Q=>t σ H fun c H1=>if c = true then ta σ H1 Q else tb σ H1 Q
theorem pe_ifExp {c : Expr} (hc : PT X c tA) (ha : PE X a ta) (hb : PE X b tb) : PE X (.IfExp c a b pos) (tIf tA ta tb):=by
  intro pins s σ H Q I h
  refine wpAny_IfExp (thn (hc pins s σ H _ I h) fun d s1 ⟨H1,I1,q1⟩=>?_)
  cases d with
  | true=>exact ha pins s1 σ H1 Q I1 q1
  | false=>exact hb pins s1 σ H1 Q I1 q1
end
end L2
namespace L2
open PySem PySem.Spec PyProof.Rows
def SqL (K : PySem.W.Frag) (H : Hp) (a : Addr) (xs : List V) : Prop :=
  Rd H a (.lst xs) ∨
    ∃ (o : Obj) (its : Array Value) (n : Nat),K.lookup a = some o∧o.cls = .type "list" ∧ o.dict = none∧o.data = .seq its n∧its.size ≤ sizeLine∧Vals xs its.toList
def SqT (K : PySem.W.Frag) (H : Hp) (a : Addr) (xs : List V) : Prop :=
  Rd H a (.tup xs) ∨
    ∃ (o : Obj) (its : Array Value) (n : Nat),K.lookup a = some o∧o.cls = .type "tuple" ∧ o.data = .seq its n∧its.size ≤ sizeLine∧Vals xs its.toList
def absV : Value→Option V
  | .none=>some .non
  | .bool b=>some (.bl b)
  | .int i _=>some (.int i)
  | .str x _=>some (.str x)
  | .bytes b _=>some (.byt b)
  | .float b _=>some (.flt b)
  | .ref a=>some (.ref a)
  | .type n=>some (.ty n)
  | _=>none
theorem RelV.abs {x : V} {u : Value} (r : RelV x u) : absV u = some x:=by
  cases x with
  | non=>cases r; rfl
  | bl _=>cases r; rfl
  | int _=>obtain ⟨t,rfl⟩:=r; rfl
  | str _=>obtain ⟨t,rfl⟩:=r; rfl
  | byt _=>obtain ⟨t,rfl⟩:=r; rfl
  | flt _=>obtain ⟨t,rfl⟩:=r; rfl
  | ref _=>cases r; rfl
  | ty _=>cases r; rfl
theorem RelV.inj {x y : V} {u : Value} (r : RelV x u) (q : RelV y u) : x = y:=Option.some.inj (r.abs.symm.trans q.abs)
theorem Vals.inj : ∀ {xs ys : List V} {us : List Value},Vals xs us→Vals ys us→xs = ys
  | _,_,_,.nil,.nil=>rfl
  | _,_,_,.cons r t,.cons r' t'=>by rw [r.inj r',Vals.inj t t']
section
variable {X : Cx} {pins : List (Addr × Obj)} {σ : St} {H : Hp} {s : Shared} {a : Addr} {xs ys : List V}
theorem SqL.of {K : PySem.W.Frag} (h : H a = some (.lst xs)) : SqL K H a xs:=.inl (.inl h)
theorem SqT.of {K : PySem.W.Frag} (h : H a = some (.tup xs)) : SqT K H a xs:=.inl (.inl h)
theorem Inv.list (I : Inv X pins σ H s) (h : SqL X.K H a xs) : ∃ its : List Value,Vals xs its∧PlainL s.heap a its.toArray∧xs.length ≤ sizeLine:=by
  rcases h with h | ⟨o,its,n,hk,hc,hd,hs,hz,r⟩
  · obtain ⟨z,its,n,r,e⟩:=h.ok I.hok
    exact ⟨its,r,⟨_,n,e,rfl,rfl,rfl⟩,z⟩
  · refine ⟨its.toList,r,⟨o,n,I.kIn a o hk,hc,hd,by simpa using hs⟩,?_⟩
    have e:=r.length
    simp only [Array.length_toList] at e
    omega
theorem Inv.tuple (I : Inv X pins σ H s) (h : SqT X.K H a xs) : ∃ its : List Value,Vals xs its∧IsTup s.heap a its.toArray∧xs.length ≤ sizeLine:=by
  rcases h with h | ⟨o,its,n,hk,hc,hs,hz,r⟩
  · obtain ⟨z,its,r,p⟩:=h.ok I.hok
    exact ⟨its,r,p,z⟩
  · refine ⟨its.toList,r,⟨o,I.kIn a o hk,hc,n,by simpa using hs⟩,?_⟩
    have e:=r.length
    simp only [Array.length_toList] at e
    omega
theorem Inv.list_inj (I : Inv X pins σ H s) (h : SqL X.K H a xs) (h' : SqL X.K H a ys) : xs = ys:=by
  obtain ⟨its,r,⟨o,n,e,_,_,d⟩,_⟩:=I.list h
  obtain ⟨its',r',⟨o',n',e',_,_,d'⟩,_⟩:=I.list h'
  rw [e] at e'; cases e'
  rw [d] at d'
  injection d' with d1 _
  have : its = its':=by simpa using congrArg Array.toList d1
  subst this
  exact r.inj r'
theorem Inv.tuple_inj (I : Inv X pins σ H s) (h : SqT X.K H a xs) (h' : SqT X.K H a ys) : xs = ys:=by
  obtain ⟨its,r,⟨o,e,_,n,d⟩,_⟩:=I.tuple h
  obtain ⟨its',r',⟨o',e',_,n',d'⟩,_⟩:=I.tuple h'
  rw [e] at e'; cases e'
  rw [d] at d'
  injection d' with d1 _
  have : its = its':=by simpa using congrArg Array.toList d1
  subst this
  exact r.inj r'
end
abbrev Cx.wish (X : Cx) (E : Value→Shared→Prop) : Cx:={ X with xe:=E }
abbrev Cx.nox (X : Cx) : Cx:=X.wish fun _ _=>False
theorem Cx.Ok.wish {X : Cx} (ok : X.Ok) (E : Value→Shared→Prop) : (X.wish E).Ok :=
  ⟨ok.mod,ok.kind,ok.glob,ok.blt,ok.above,ok.inj,ok.has,ok.cab,ok.hd,ok.frames,ok.stk,ok.exf,ok.bs,ok.bsz,ok.noex,ok.exfs,ok.funs,ok.frf⟩
theorem Cx.Ok.unwish {X : Cx} {E : Value→Shared→Prop} (ok : (X.wish E).Ok) : X.Ok :=
  ⟨ok.mod,ok.kind,ok.glob,ok.blt,ok.above,ok.inj,ok.has,ok.cab,ok.hd,ok.frames,ok.stk,ok.exf,ok.bs,ok.bsz,ok.noex,ok.exfs,ok.funs,ok.frf⟩
section
variable {X : Cx} {pins : List (Addr × Obj)} {σ : St} {H : Hp} {s : Shared} {E : Value→Shared→Prop}
theorem Inv.wish (I : Inv X pins σ H s) (E : Value→Shared→Prop) : Inv (X.wish E) pins σ H s:=⟨I.ok.wish E,I.os,I.bare,I.base,I.loc,I.cell,I.free,I.freeC,I.pin,I.hok,I.len⟩
theorem Inv.unwish (I : Inv (X.wish E) pins σ H s) : Inv X pins σ H s:=⟨I.ok.unwish,I.os,I.bare,I.base,I.loc,I.cell,I.free,I.freeC,I.pin,I.hok,I.len⟩
theorem SP.unwish {D : Ends} {f : Flow} {s' : Shared} (h : SP (X.wish E) pins D f s') : SP X pins D f s':=by
  cases f with
  | next=>obtain ⟨σ',H',I,q⟩:=h; exact ⟨σ',H',I.unwish,q⟩
  | brk=>obtain ⟨σ',H',I,q⟩:=h; exact ⟨σ',H',I.unwish,q⟩
  | cont=>obtain ⟨σ',H',I,q⟩:=h; exact ⟨σ',H',I.unwish,q⟩
  | ret u=>obtain ⟨v,σ',H',I,r,q⟩:=h; exact ⟨v,σ',H',I.unwish,r,q⟩
theorem PSs.nox {st : List Stmt} {t : TS} (h : PSs X.nox st t) : PSs X st t:=fun pins s σ H D I hw =>
  wpAny_mono (h pins s σ H D (I.wish _) hw) (fun _ _ q=>q.unwish) fun _ _ z=>False.elim z
end
section
variable {X : Cx} {st : Stmt} {rest : List Stmt} {t u : TS} {e : Expr} {te : TE} {pos : Pos}
def tNext : TS:=fun D σ H=>D.nx σ H
def tSeq (t u : TS) : TS:=fun D σ H=>t { D with nx:=u D } σ H
theorem pss_nil : PSs X [] tNext:=fun _ _ σ H _ I h=>wpAny_execs_nil ⟨σ,H,I,h⟩
theorem pss_cons (h1 : PS X st t) (h2 : PSs X rest u) : PSs X (st :: rest) (tSeq t u):=by
  intro pins s σ H D I h
  refine wpAny_execs_cons (thn (h1 pins s σ H { D with nx:=u D } I h) fun f s1 q=>?_)
  cases f with
  | next =>
    obtain ⟨σ',H',I',q⟩:=q
    exact h2 pins s1 σ' H' D I' q
  | ret v=>exact q
  | brk=>exact q
  | cont=>exact q
theorem pss_one (h1 : PS X st t) : PSs X [st] t:=by
  intro pins s σ H D I h
  refine wpAny_execs_cons (thn (h1 pins s σ H D I h) fun f s1 q=>?_)
  cases f with
  | next=>exact wpAny_execs_nil q
  | ret v=>exact q
  | brk=>exact q
  | cont=>exact q
theorem Inv.quiet {pins : List (Addr × Obj)} {σ : St} {H : Hp} {s : Shared} (I : Inv X pins σ H s) : interactive X.env = false:=by simp [interactive,I.ok.kind]
def tDrop (te : TE) : TS:=fun D σ H=>te σ H fun _ H1=>D.nx σ H1
theorem ps_expr (he : PE X e te) (hs : swapsWith e none pos.line X.env = pure false:=by rfl) : PS X (.Expr e pos) (tDrop te):=by
  intro pins s σ H D I h
  exact wpAny_Expr_any (thn (he pins s σ H _ I h) fun v s1 ⟨x,H1,I1,r1,q1⟩=>⟨σ,H1,I1,q1⟩) I.quiet hs
def tRet (te : TE) : TS:=fun D σ H=>te σ H D.rt
theorem ps_ret (he : PE X e te) : PS X (.Return (some e) pos) (tRet te):=by
  intro pins s σ H D I h
  exact wpAny_Return_some (thn (he pins s σ H _ I h) fun v s1 ⟨x,H1,I1,r1,q1⟩=>⟨x,σ,H1,I1,r1,q1⟩)
def tIfS (c : TT) (t u : TS) : TS:=fun D σ H=>c σ H fun b H1=>if b = true then t D σ H1 else u D σ H1
theorem ps_if {c : Expr} {a b : List Stmt} {tc : TT} (hc : PT X c tc) (ha : PSs X a t) (hb : PSs X b u) : PS X (.If c a b pos) (tIfS tc t u):=by
  intro pins s σ H D I h
  refine wpAny_If (thn (hc pins s σ H _ I h) fun d s1 ⟨H1,I1,q1⟩=>?_)
  cases d with
  | true=>exact ha pins s1 σ H1 D I1 q1
  | false=>exact hb pins s1 σ H1 D I1 q1
end
abbrev TG:=V→St→Hp→(St→Hp→Prop)→Prop
abbrev TGs:=List V→St→Hp→(St→Hp→Prop)→Prop
def PG (X : Cx) (target : Expr) (t : TG) : Prop :=
  ∀ (pins : List (Addr × Obj)) (s : Shared) (σ : St) (H : Hp) (v : V) (u : Value) (Q : St→Hp→Prop),Inv X pins σ H s→RelV v u→t v σ H Q →
    wpAny (model X.prog X.w) X.A (assign target X.env u) (fun _ s'=>∃ σ' H',Inv X pins σ' H' s'∧Q σ' H') X.xe s
def PGs (X : Cx) (ts : List Expr) (t : TGs) : Prop :=
  ∀ (pins : List (Addr × Obj)) (s : Shared) (σ : St) (H : Hp) (vs : List V) (us : List Value) (Q : St→Hp→Prop),Inv X pins σ H s→Vals vs us→t vs σ H Q →
    wpAny (model X.prog X.w) X.A (assignInOrder ((assignEach ts X.env).map (·.2)) us) (fun _ s'=>∃ σ' H',Inv X pins σ' H' s'∧Q σ' H') X.xe s
abbrev TSet:=V→V→V→Hp→(Hp→Prop)→Prop
def PSet (X : Cx) (t : TSet) : Prop :=
  ∀ (pins : List (Addr × Obj)) (s : Shared) (σ : St) (H : Hp) (o i v : V) (ov iv u : Value) (Q : Hp→Prop),Inv X pins σ H s→RelV o ov→RelV i iv→RelV v u→t o i v H Q →
    wpAny (model X.prog X.w) X.A (setItem ov iv u) (fun _ s'=>∃ H',Inv X pins σ H' s'∧Q H') X.xe s
section
variable {X : Cx} {pos : Pos}
def gName (i : Nat) : TG:=fun v σ H Q=>Q (σ.set i (some v)) H
theorem pg_name {i : Nat} {x : Str} (hN : X.N.Nodup) (hi : X.N[i]? = some x) (hx : Loc X.env.scope x) (hf : X.fn x = true∨X.env.scope.names.lookup x = some .local:=by first | exact .inl rfl | exact .inr rfl | assumption) : PG X (.Name x pos) (gName i):=by
  intro pins s σ H v u Q I r h
  exact wpAny_assign_Name (store_ok I hN hi hx r (fun s' I'=>⟨_,H,I',h⟩) hf)
def gNil : TGs:=fun vs σ H Q=>vs = []∧Q σ H
def gCons (t : TG) (u : TGs) : TGs:=fun vs σ H Q=>∃ v r,vs = v :: r∧t v σ H fun σ' H'=>u r σ' H' Q
theorem pgs_nil : PGs X [] gNil:=by
  intro pins s σ H vs us Q I r h
  obtain ⟨e,h⟩:=h
  subst e
  cases r
  exact assignInOrder_nil ⟨σ,H,I,h⟩
theorem pgs_cons {e : Expr} {es : List Expr} {t : TG} {u : TGs} (h1 : PG X e t) (h2 : PGs X es u)
    (hs : (assignEach (e :: es) X.env).map (·.2) = assign e X.env :: (assignEach es X.env).map (·.2):=by rfl) : PGs X (e :: es) (gCons t u):=by
  intro pins s σ H vs us Q I r h
  obtain ⟨v,vr,e1,h⟩:=h
  subst e1
  cases r with
  | cons r rr =>
    rw [hs]
    refine assignInOrder_cons (thn (h1 pins s σ H _ _ _ I r h) fun _ s1 ⟨σ1,H1,I1,q1⟩=>?_)
    exact h2 pins s1 σ1 H1 _ _ Q I1 rr q1
def gTup (K : PySem.W.Frag) (n : Nat) (t : TGs) : TG:=fun v σ H Q=>∃ a xs,v = .ref a∧SqT K H a xs∧xs.length = n∧t xs σ H Q
theorem pg_tup {es : List Expr} {k : Nat} {t : TGs} {n : Nat} (hc : X.calm = true) (h : PGs X es t)
    (hn : (assignEach es X.env).length = n:=by rfl) (hst : (assignEach es X.env).findIdx? (·.1) = none:=by rfl) : PG X (.Tuple es k pos) (gTup X.K n t):=by
  intro pins s σ H v u Q I r hw
  obtain ⟨a,xs,e1,hq,hl,hw⟩:=hw
  subst e1
  cases r
  obtain ⟨its,rv,ht,hz⟩:=I.tuple hq
  refine assign_Tuple_tuple (I.ok.hd hc) ht (by simp [hn,← hl,rv.length]) hst fun h' hx=>?_
  have I1 : Inv X pins σ H { s with heap:=h' }:=I.kept (t':=s.toks) fun b o e=>hx b o (Nat.ne_of_lt (Heap.lt_size e)) e
  exact h pins _ σ H xs _ Q I1 (by simpa using rv) hw
def gSub (to ti : TE) (t : TSet) : TG:=fun v σ H Q=>to σ H fun o H1=>ti σ H1 fun i H2=>t o i v H2 fun H3=>Q σ H3
theorem pg_sub {o i : Expr} {to ti : TE} {t : TSet} (ho : PE X o to) (hi : PE X i ti) (hs : PSet X t)
    (ha : ∀ v,assign (.Subscript o i pos) X.env v = (do
      let ov ← holding [v] (eval o X.env)
      let iv ← holding [v,ov] (eval i X.env)
      standAt pos
      holding [v,ov,iv] (setItem ov iv v)
      release [v,ov,iv] []):=by intro _; rfl) : PG X (.Subscript o i pos) (gSub to ti t):=by
  intro pins s σ H v u Q I r h
  rw [ha]
  refine wpAny_bind (wpAny_holding (thn (ho pins s σ H _ I h) fun ov s1 ⟨x,H1,I1,r1,q1⟩=>?_))
  refine wpAny_bind (wpAny_holding (thn (hi pins s1 σ H1 _ I1 q1) fun iv s2 ⟨y,H2,I2,r2,q2⟩=>?_))
  refine wpAny_bind (wpAny_standAt (wpAny_bind (wpAny_holding (thn (hs pins s2 σ H2 x y v ov iv u _ I2 r1 r2 r q2) fun _ s3 ⟨H3,I3,q3⟩=>?_))))
  exact wpAny_release ⟨σ,H3,I3,q3⟩
def tAsg (te : TE) (g : TG) : TS:=fun D σ H=>te σ H fun x H1=>g x σ H1 D.nx
theorem ps_asg {tg e : Expr} {te : TE} {g : TG} (he : PE X e te) (hg : PG X tg g) (hs : swapsWithSole [tg] e pos.line X.env = pure false:=by rfl) (hw : swappedStores [tg] e X.env = pure none:=by rfl)
    (h1 : (assignEach [tg] X.env).map (·.2) = [assign tg X.env]:=by rfl) : PS X (.Assign [tg] e pos) (tAsg te g):=by
  intro pins s σ H D I h
  refine wpAny_Assign_stores (thn (he pins s σ H _ I h) fun v s1 ⟨x,H1,I1,r1,q1⟩=>?_) hs hw
  rw [h1]
  exact thn (hg pins s1 σ H1 x v _ I1 r1 q1) fun _ s2 q=>q
theorem ps_set {i : Nat} {x : Str} {e : Expr} {te : TE} {pos' : Pos} (hN : X.N.Nodup) (hi : X.N[i]? = some x) (hx : Loc X.env.scope x) (he : PE X e te) (hs : swapsWith e (some (.Name x pos')) pos.line X.env = pure false:=by rfl) (hf : X.fn x = true∨X.env.scope.names.lookup x = some .local:=by first | exact .inl rfl | exact .inr rfl | assumption) :
    PS X (.Assign [.Name x pos'] e pos) (tAsg te (gName i)):=by
  intro pins s σ H D I h
  refine wpAny_Assign_Name (thn (he pins s σ H _ I h) fun v s1 ⟨y,H1,I1,r1,q1⟩=>?_) hs
  exact store_ok I1 hN hi hx r1 (fun s2 I2=>⟨_,H1,I2,q1⟩) hf
end
section
variable {X : Cx} {pos : Pos}
end
structure It where
  go : Nat→Hp→Prop
  yld : Nat→Hp→V→Hp→Prop
  stop : Nat→Hp→Prop
def FpOk (X : Cx) (pins : List (Addr × Obj)) (H : Hp) (b : Addr) : Prop :=
  H b = none∧b ≠ X.env.locals∧b ∉ X.fs∧(b ∈ X.ex∨X.s₀.heap.objs.size ≤ b)∧(∀ x c,X.env.cells.lookup x = some c→c ≠ b)∧∀ p ∈ X.pn ++ pins,p.1 ≠ b
theorem Inv.fpOk {X : Cx} {pins : List (Addr × Obj)} {σ : St} {H H' : Hp} {s : Shared} {b : Addr} (I : Inv X pins σ H s) (hb : s.heap.objs.size ≤ b) (hn : H' b = none) : FpOk X pins H' b:=by
  refine ⟨hn,Nat.ne_of_gt (Nat.lt_of_lt_of_le I.lt hb),I.nofs hb,.inr (Nat.le_trans I.sz hb),fun x c e z=>?_,fun p hp z=>?_⟩
  · obtain ⟨v,q⟩:=I.cell x c e
    exact absurd (Nat.lt_of_lt_of_le q.lt (by rw [z]; exact hb)) (Nat.lt_irrefl _)
  · exact absurd (Nat.lt_of_lt_of_le (Heap.lt_size (I.pin p hp).1) (by rw [z]; exact hb)) (Nat.lt_irrefl _)
structure Turn (P : Program) (w : World) (K : PySem.W.Frag) (tg : Expr) (J : It) (fp : List Addr) (it : Addr) (tn : Nat→Heap→Prop) : Prop where
  mem : it ∈ fp
  obj : ∀ i h,tn i h→∀ b ∈ fp,∃ o,h.get? b = some o∧∀ v,o.data ≠ .cell v
  keep : ∀ i h h',tn i h→(∀ b ∈ fp,∀ o,h.get? b = some o→h'.get? b = some o)→tn i h'
  item : ∀ (X : Cx),X.prog = P→X.w = w→X.K = K→X.calm = true→∀ (i : Nat) (pins : List (Addr × Obj)) (s : Shared) (σ : St) (H : Hp) (E : Value→Shared→Prop),Inv X pins σ H s→(∀ b ∈ fp,FpOk X pins H b)→tn i s.heap→J.go i H →
    wpAny (model P w) X.A (pyNext (.ref it)) (fun r s1=>∃ u,r = some u ∧
      wpAny (model P w) X.A (letOwnedTupleGo tg (.ref it) u) (fun _ s2=>∃ x H',Inv X pins σ H' s2∧RelV x u∧J.yld i H x H'∧tn (i + 1) s2.heap∧∀ b ∈ fp,H' b = none) E s1) E s
  done : ∀ (X : Cx),X.prog = P→X.w = w→X.K = K→X.calm = true→∀ (i : Nat) (pins : List (Addr × Obj)) (s : Shared) (σ : St) (H : Hp) (E : Value→Shared→Prop),Inv X pins σ H s→(∀ b ∈ fp,FpOk X pins H b)→tn i s.heap→J.stop i H →
    wpAny (model P w) X.A (pyNext (.ref it)) (fun r s1=>r = none∧Inv X pins σ H s1) E s
  self : ∀ (A : Around) (i : Nat) (s : Shared) (Q : Value→Shared→Prop) (E : Value→Shared→Prop),tn i s.heap→Q (.ref it) s→wpAny (model P w) A (pyIter (.ref it)) Q E s
abbrev TI:=St→Hp→(It→Hp→Prop)→Prop
def PIE (X : Cx) (pins : List (Addr × Obj)) (σ : St) (tg : Expr) (R : It→Hp→Prop) (itv : Value) (s2 : Shared) : Prop :=
  ∃ (it : Addr) (fp : List Addr) (tn : Nat→Heap→Prop) (J : It) (H' : Hp),itv = .ref it∧Inv X pins σ H' s2∧Turn X.prog X.w X.K tg J fp it tn∧tn 0 s2.heap∧(∀ b ∈ fp,FpOk X pins H' b)∧R J H'
def PI (X : Cx) (tg iter : Expr) (wi : TI) : Prop :=
  ∀ (pins : List (Addr × Obj)) (s : Shared) (σ : St) (H : Hp) (R : It→Hp→Prop),Inv X pins σ H s→wi σ H R →
    wpAny (model X.prog X.w) X.A (eval iter X.env) (fun v s1=>wpAny (model X.prog X.w) X.A (pyIter v) (PIE X pins σ tg R) X.xe s1) X.xe s
theorem go_of {M : Model} {A : Around} {E : Value→Shared→Prop} {s : Shared} {tg : Expr} {it : Addr} {u : Value} {o : Obj} {n : String} {vs : Array Value} {Q : Unit→Shared→Prop} (ho : s.heap.get? it = some o) (hc : o.cls = .type n) (hd : o.data = .fields vs)
    (hn : ["enumerate", "zip", "dict_itemiterator", "dict_reverseitemiterator", "odict_iterator", "itertools.zip_longest", "itertools.pairwise"].contains n = false) (hQ : Q () s) : wpAny M A (letOwnedTupleGo tg (.ref it) u) Q E s:=by
  unfold letOwnedTupleGo
  cases tg <;> first
    | exact wpAny_pure hQ
    | (cases u <;> first
        | exact wpAny_pure hQ
        | (refine wpAny_bind (wpAny_load ho ?_)
           rw [hc,hd]
           show wpAny M A (if (["enumerate", "zip", "dict_itemiterator", "dict_reverseitemiterator", "odict_iterator", "itertools.zip_longest", "itertools.pairwise"].contains n && vs[0]? == some (rawInt _)) = true then _ else _) Q E s
           rw [if_neg (by intro h; rw [hn,Bool.false_and] at h; cases h)]
           exact wpAny_pure hQ))
def Itl (K : PySem.W.Frag) (a : Addr) : It :=
  ⟨fun i H=>∃ xs x,SqL K H a xs∧xs[i]? = some x,fun i H x H'=>H' = H∧∀ xs,SqL K H a xs→xs[i]? = some x,fun i H=>∃ xs,SqL K H a xs∧xs.length ≤ i⟩
def Itt (K : PySem.W.Frag) (a : Addr) : It :=
  ⟨fun i H=>∃ xs x,SqT K H a xs∧xs[i]? = some x,fun i H x H'=>H' = H∧∀ xs,SqT K H a xs→xs[i]? = some x,fun i H=>∃ xs,SqT K H a xs∧xs.length ≤ i⟩
def Itr (lo : Int) (n : Nat) : It:=⟨fun i _=>i < n,fun i H x H'=>H' = H∧x = .int (lo + i),fun i _=>n ≤ i⟩
theorem turn_list {P : Program} {w : World} {K : PySem.W.Frag} {tg : Expr} (a it : Addr) : Turn P w K tg (Itl K a) [it] it (fun i h=>h.IsListIter it a i) where
  mem:=by simp
  obj:=fun i h st b hb=>by
    have e : b = it:=by simpa using hb
    subst e
    obtain ⟨o,e,c,d⟩:=st
    exact ⟨o,e,fun v z=>by rw [d] at z; cases z⟩
  keep:=fun i h h' st k=>st.at fun o e=>k it (by simp) o e
  item:=by
    intro X hP hw hK hc i pins s σ H E I hf st hg
    subst hP hw hK
    obtain ⟨xs,x,hq,hx⟩:=hg
    obtain ⟨its,rv,p,hz⟩:=I.list hq
    obtain ⟨u,hu,ru⟩:=rv.get hx
    obtain ⟨f0,f1,f2,f3,f4,f5⟩:=hf it (by simp)
    refine wpAny_pyNext_list_item st p.isList (x:=u) (by simpa using hu) fun h' st' sb=>?_
    have I1 : Inv X pins σ H { s with heap:=h' }:=I.turned (t':=s.toks) (fun b o hb e=>(sb.2 b hb).trans e) f0 f1 f3 f4 f5
    obtain ⟨o,e,c,d⟩:=id st'
    exact ⟨u,rfl,go_of (s:={ s with heap:=h' }) e c d (by decide) ⟨x,H,I1,ru,⟨rfl,fun ys hy=>by rw [I.list_inj hy hq]; exact hx⟩,st',fun b hb=>(hf b hb).1⟩⟩
  done:=by
    intro X hP hw hK hc i pins s σ H E I hf st hg
    subst hP hw hK
    obtain ⟨xs,hq,hx⟩:=hg
    obtain ⟨its,rv,p,hz⟩:=I.list hq
    obtain ⟨f0,f1,f2,f3,f4,f5⟩:=hf it (by simp)
    have hl:=rv.length
    exact wpAny_pyNext_list_end (I.ok.hd hc) st p.isList (by simp; omega) fun h' eb=>⟨rfl,I.turned (t':=s.toks) (fun b o hb e=>eb b o hb e) f0 f1 f3 f4 f5⟩
  self:=fun _ _ _ _ _ st h=>wpAny_pyIter_listiter st h
theorem turn_tuple {P : Program} {w : World} {K : PySem.W.Frag} {tg : Expr} (a it : Addr) : Turn P w K tg (Itt K a) [it] it (fun i h=>h.IsTupleIter it a i) where
  mem:=by simp
  obj:=fun i h st b hb=>by
    have e : b = it:=by simpa using hb
    subst e
    obtain ⟨o,e,c,d⟩:=st
    exact ⟨o,e,fun v z=>by rw [d] at z; cases z⟩
  keep:=fun i h h' st k=>st.at fun o e=>k it (by simp) o e
  item:=by
    intro X hP hw hK hc i pins s σ H E I hf st hg
    subst hP hw hK
    obtain ⟨xs,x,hq,hx⟩:=hg
    obtain ⟨its,rv,p,hz⟩:=I.tuple hq
    obtain ⟨u,hu,ru⟩:=rv.get hx
    obtain ⟨f0,f1,f2,f3,f4,f5⟩:=hf it (by simp)
    refine wpAny_pyNext_tuple_item st (show s.heap.IsTuple a its.toArray from p) (x:=u) (by simpa using hu) fun h' st' sb=>?_
    have I1 : Inv X pins σ H { s with heap:=h' }:=I.turned (t':=s.toks) (fun b o hb e=>(sb.2 b hb).trans e) f0 f1 f3 f4 f5
    obtain ⟨o,e,c,d⟩:=id st'
    exact ⟨u,rfl,go_of (s:={ s with heap:=h' }) e c d (by decide) ⟨x,H,I1,ru,⟨rfl,fun ys hy=>by rw [I.tuple_inj hy hq]; exact hx⟩,st',fun b hb=>(hf b hb).1⟩⟩
  done:=by
    intro X hP hw hK hc i pins s σ H E I hf st hg
    subst hP hw hK
    obtain ⟨xs,hq,hx⟩:=hg
    obtain ⟨its,rv,p,hz⟩:=I.tuple hq
    obtain ⟨f0,f1,f2,f3,f4,f5⟩:=hf it (by simp)
    have hl:=rv.length
    exact wpAny_pyNext_tuple_end (I.ok.hd hc) st (show s.heap.IsTuple a its.toArray from p) (by simp; omega) fun h' eb=>⟨rfl,I.turned (t':=s.toks) (fun b o hb e=>eb b o hb e) f0 f1 f3 f4 f5⟩
  self:=fun _ _ _ _ _ st h=>wpAny_pyIter_tupleiter st h
theorem turn_range {P : Program} {w : World} {K : PySem.W.Frag} {tg : Expr} (it : Addr) (lo : Int) (n : Nat) : Turn P w K tg (Itr lo n) [it] it (fun i h=>IsRangeIter h it (lo + (i : Nat) * 1) ((n : Int) - (i : Nat)) 1) where
  mem:=by simp
  obj:=fun i h st b hb=>by
    have e : b = it:=by simpa using hb
    subst e
    exact ⟨_,st,fun v z=>by
      have z' : Data.fields _ = Data.cell v:=z
      cases z'⟩
  keep:=fun i h h' st k=>k it (by simp) _ st
  item:=by
    intro X hP hw hK hc i pins s σ H E I hf st hg
    subst hP hw hK
    obtain ⟨f0,f1,f2,f3,f4,f5⟩:=hf it (by simp)
    have W:=Walks.range (prog:=X.prog) (w:=X.w) (I.ok.hd hc) it lo 1 n
    refine W.item i s _ _ hg st fun v h' tk hv st' kk=>?_
    obtain ⟨t,rfl⟩:=hv
    have I1 : Inv X pins σ H { s with heap:=h',toks:=tk }:=I.turned (fun b o hb e=>kk b o (by simpa using hb) e) f0 f1 f3 f4 f5
    refine ⟨_,rfl,go_of (s:={ s with heap:=h',toks:=tk }) (n := "range_iterator") st' rfl rfl (by decide) ⟨.int (lo + i),H,I1,⟨t,?_⟩,⟨rfl,rfl⟩,st',fun b hb=>(hf b hb).1⟩⟩
    rw [Int.mul_one]
  done:=by
    intro X hP hw hK hc i pins s σ H E I hf st hg
    subst hP hw hK
    obtain ⟨f0,f1,f2,f3,f4,f5⟩:=hf it (by simp)
    exact wpAny_pyNext_range_end (I.ok.hd hc) st (by have : n ≤ i:=hg; omega) fun h' eb=>⟨rfl,I.turned (t':=s.toks) (fun b o hb e=>eb b o hb e) f0 f1 f3 f4 f5⟩
  self:=fun _ _ _ _ _ st h=>wpAny_pyIter_rangeiter st h
end L2
namespace L2
open PySem PySem.Spec PyProof.Rows
section
variable {X : Cx} {tg : Expr}
def iList (K : PySem.W.Frag) (tl : TE) : TI:=fun σ H R=>tl σ H fun x H1=>∃ a,x = .ref a∧(∃ xs,SqL K H1 a xs)∧R (Itl K a) H1
def iTup (K : PySem.W.Frag) (tl : TE) : TI:=fun σ H R=>tl σ H fun x H1=>∃ a,x = .ref a∧(∃ xs,SqT K H1 a xs)∧R (Itt K a) H1
theorem pi_list {l : Expr} {tl : TE} (hl : PE X l tl) : PI X tg l (iList X.K tl):=by
  intro pins s σ H R I h
  refine thn (hl pins s σ H _ I h) fun v s1 ⟨x,H1,I1,r1,q1⟩=>?_
  obtain ⟨a,e,⟨xs,hq⟩,q⟩:=q1
  subst e
  cases r1
  obtain ⟨its,rv,p,hz⟩:=I1.list hq
  refine wpAny_pyIter_list p.isList ?_
  refine ⟨s1.heap.objs.size,[s1.heap.objs.size],_,_,H1,rfl,I1.kept (t':=s1.toks) fun b o e=>Heap.get?_push_of_some _ e,turn_list a _,⟨_,Heap.get?_push_size _ rfl,rfl,rfl⟩,fun b hb=>?_,q⟩
  have e : b = s1.heap.objs.size:=by simpa using hb
  subst e
  exact I1.fpOk (Nat.le_refl _) (I1.hok.fresh (Nat.le_refl _))
theorem pi_tup {l : Expr} {tl : TE} (hl : PE X l tl) : PI X tg l (iTup X.K tl):=by
  intro pins s σ H R I h
  refine thn (hl pins s σ H _ I h) fun v s1 ⟨x,H1,I1,r1,q1⟩=>?_
  obtain ⟨a,e,⟨xs,hq⟩,q⟩:=q1
  subst e
  cases r1
  obtain ⟨its,rv,p,hz⟩:=I1.tuple hq
  refine wpAny_pyIter_tuple (show s1.heap.IsTuple a its.toArray from p) ?_
  refine ⟨s1.heap.objs.size,[s1.heap.objs.size],_,_,H1,rfl,I1.kept (t':=s1.toks) fun b o e=>Heap.get?_push_of_some _ e,turn_tuple a _,⟨_,Heap.get?_push_size _ rfl,rfl,rfl⟩,fun b hb=>?_,q⟩
  have e : b = s1.heap.objs.size:=by simpa using hb
  subst e
  exact I1.fpOk (Nat.le_refl _) (I1.hok.fresh (Nat.le_refl _))
theorem range_it {pins : List (Addr × Obj)} {σ : St} {H : Hp} {s : Shared} {R : It→Hp→Prop} {E : Value→Shared→Prop} {lo hi : Int} {t u v : Tok} {tk : Nat} (I : Inv X pins σ H s) (h1 : -(2 ^ 62) ≤ lo) (h2 : lo < 2 ^ 62) (h3 : -(2 ^ 62) ≤ hi) (h4 : hi < 2 ^ 62)
    (q : R (Itr lo (hi - lo).toNat) H) : wpAny (model X.prog X.w) X.A (pyIter (.ref s.heap.objs.size)) (PIE X pins σ tg R) E { s with heap:=s.heap.push { cls:=.type "range",data:=.fields #[.int lo t,.int hi u,.int 1 v] },toks:=tk }:=by
  refine wpAny_pyIter_range (IsRange.new ..) (small_one h1 h2 h3 h4) ?_
  have I1 : Inv X pins σ H { s with heap:=s.heap.push { cls:=.type "range",data:=.fields #[.int lo t,.int hi u,.int 1 v] },toks:=tk }:=I.kept fun b o e=>Heap.get?_push_of_some _ e
  refine ⟨(s.heap.push { cls:=.type "range",data:=.fields #[.int lo t,.int hi u,.int 1 v] }).objs.size,[(s.heap.push { cls:=.type "range",data:=.fields #[.int lo t,.int hi u,.int 1 v] }).objs.size],_,_,H,rfl,
    I1.kept (t':=tk) fun b o e=>Heap.get?_push_of_some _ e,turn_range _ lo (hi - lo).toNat,?_,fun b hb=>?_,q⟩
  · have e1 : lo + ((0 : Nat) : Int) * 1 = lo:=by simp
    have e2 : (((hi - lo).toNat : Nat) : Int) - ((0 : Nat) : Int) = Builtin.Range.rangeSize lo hi 1:=by rw [rangeSize_one]; split <;> omega
    show IsRangeIter _ _ (lo + ((0 : Nat) : Int) * 1) ((((hi - lo).toNat : Nat) : Int) - ((0 : Nat) : Int)) 1
    rw [e1,e2]
    exact Heap.get?_push_size _ rfl
  · have e : b = (s.heap.push { cls:=.type "range",data:=.fields #[.int lo t,.int hi u,.int 1 v] }).objs.size:=by simpa using hb
    subst e
    exact I1.fpOk (Nat.le_refl _) (I1.hok.fresh (Nat.le_refl _))
def iRng1 (ta : TA) : TI:=fun σ H R=>ta σ H fun vs H1=>∃ j : Int,vs = [.int j]∧-(2 ^ 62) ≤ j∧j < 2 ^ 62∧R (Itr 0 j.toNat) H1
def iRng2 (ta : TA) : TI:=fun σ H R=>ta σ H fun vs H1=>∃ i j : Int,vs = [.int i,.int j]∧(-(2 ^ 62) ≤ i∧i < 2 ^ 62∧-(2 ^ 62) ≤ j∧j < 2 ^ 62)∧R (Itr i (j - i).toNat) H1
theorem pi_range1 {a : Expr} {ta : TA} {p pos : Pos} (hg : Gl X "range") (hm : X.mg "range" = none) (ha : PA X [a] ta) (hs : starEach [a] X.env = [(false,eval a X.env)]:=by rfl) : PI X tg (.Call (.Name "range" p) [a] [] pos) (iRng1 ta):=by
  intro pins s σ H R I h
  refine Call_ (ld_blt I hg hm boot_range (PyProof.Rows.callWith_type1 (thn (ha pos pins s σ H _ I h) fun us s1 ⟨vs,H1,I1,r1,q1⟩=>?_) hs rfl))
  obtain ⟨j,e,q1,q2,q⟩:=q1
  subst e
  cases r1 with
  | cons r rr =>
    cases rr
    obtain ⟨t,rfl⟩:=r
    exact call_range_1 (range_it I1 (by omega) (by omega) q1 q2 (by simpa using q))
theorem pi_range2 {a b : Expr} {ta : TA} {p pos : Pos} (hg : Gl X "range") (hm : X.mg "range" = none) (ha : PA X [a,b] ta) (hs : starEach [a,b] X.env = [(false,eval a X.env),(false,eval b X.env)]:=by rfl) (hs2 : starEach [b] X.env = [(false,eval b X.env)]:=by rfl) :
    PI X tg (.Call (.Name "range" p) [a,b] [] pos) (iRng2 ta):=by
  intro pins s σ H R I h
  refine Call_ (ld_blt I hg hm boot_range (PyProof.Rows.callWith_type1 (thn (ha pos pins s σ H _ I h) fun us s1 ⟨vs,H1,I1,r1,q1⟩=>?_) (by rw [hs,hs2]) (by rw [hs2]; rfl)))
  obtain ⟨i,j,e,⟨q1,q2,q3,q4⟩,q⟩:=q1
  subst e
  cases r1 with
  | cons r rr =>
    cases rr with
    | cons r' rr =>
      cases rr
      obtain ⟨t,rfl⟩:=r
      obtain ⟨t',rfl⟩:=r'
      exact call_range_2 (range_it I1 q1 q2 q3 q4 q)
def tFor (wi : TI) (g : TG) (tb : TS) : TS:=fun D σ H=>wi σ H fun J H1=>∃ W : Nat→Nat→St→Hp→Prop,(∃ m,W 0 m σ H1)∧∀ i m σ H,W i m σ H →
  (J.stop i H∧D.nx σ H)∨(J.go i H∧∃ N : St→Hp→Prop,(∀ σ' H',N σ' H'→∃ m',m' < m∧W (i + 1) m' σ' H')∧∀ x H',J.yld i H x H'→g x σ H' fun σ2 H2=>tb { D with nx:=N,ct:=N,bk:=D.nx } σ2 H2)
def pinsAt (fp : List Addr) (h : Heap) : List (Addr × Obj):=fp.filterMap fun b=>(h.get? b).map fun o=>(b,o)
theorem mem_pinsAt {fp : List Addr} {h : Heap} {b : Addr} {o : Obj} (hb : b ∈ fp) (e : h.get? b = some o) : (b,o) ∈ pinsAt fp h:=List.mem_filterMap.mpr ⟨b,hb,by rw [e]; rfl⟩
theorem of_pinsAt {fp : List Addr} {h : Heap} {p : Addr × Obj} (hp : p ∈ pinsAt fp h) : p.1 ∈ fp∧h.get? p.1 = some p.2:=by
  obtain ⟨b,hb,e⟩:=List.mem_filterMap.mp hp
  cases q : h.get? b with
  | none=>rw [q] at e; cases e
  | some o =>
    rw [q] at e
    have e' : (b,o) = p:=Option.some.inj e
    subst e'
    exact ⟨hb,q⟩
theorem Inv.pinned {pins : List (Addr × Obj)} {σ : St} {H : Hp} {s : Shared} {fp : List Addr} (I : Inv X pins σ H s) (hf : ∀ b ∈ fp,FpOk X pins H b) (ho : ∀ b ∈ fp,∃ o,s.heap.get? b = some o∧∀ v,o.data ≠ .cell v) : Inv X (pins ++ pinsAt fp s.heap) σ H s :=
  I.pins_of fun p hp=>(List.mem_append.mp hp).elim (fun z=>I.pin p (List.mem_append_right _ z)) fun z=>by
    obtain ⟨hb,e⟩:=of_pinsAt z
    obtain ⟨f0,f1,f2,_⟩:=hf p.1 hb
    obtain ⟨o,e',d⟩:=ho p.1 hb
    rw [e] at e'; cases e'
    exact ⟨e,f0,f1,f2,d⟩
theorem Inv.unpinned {pins pl : List (Addr × Obj)} {σ : St} {H : Hp} {s : Shared} (I : Inv X (pins ++ pl) σ H s) : Inv X pins σ H s:=I.pins_of fun p hp=>I.pin p (List.mem_append_right _ (List.mem_append_left _ hp))
theorem ps_for {iter : Expr} {body : List Stmt} {wi : TI} {g : TG} {tb : TS} {pos : Pos} (hp : PassesOwn (model X.prog X.w) X.A X.env X.xe) (hc : X.calm = true) (hi : PI X tg iter wi) (hg : PG X tg g) (hb : PSs X body tb)
    (hs : ∀ x,foldedSetIterable iter X.env x = pure x:=by intro _; rfl) : PS X (.For tg iter body [] pos) (tFor wi g tb):=by
  intro pins s σ H D I h
  refine wpAny_For (thn (hi pins s σ H _ I h) fun v s1 h1=>thn h1 fun itv s2 h2=>?_) hs
  obtain ⟨it,fp,tn,J,H2,e,I2,T,st2,f2,W,⟨m0,w0⟩,turn⟩:=h2
  subst e
  -- what stays true of the iterator's objects through the loop
  have stat : ∀ {H' : Hp},(∀ b ∈ fp,H' b = none)→∀ b ∈ fp,FpOk X pins H' b:=fun hn b hb=>⟨hn b hb,(f2 b hb).2⟩
  refine codeAny_forLoop_any (fun n s'=>∃ i σ' H',Inv X pins σ' H' s'∧tn i s'.heap∧(∀ b ∈ fp,H' b = none)∧W i n σ' H') ?_ m0 ⟨0,σ,H2,I2,st2,fun b hb=>(f2 b hb).1,w0⟩
  rintro n s3 ⟨i,σ3,H3,I3,st3,fr3,w3⟩
  rcases turn i n σ3 H3 w3 with ⟨stop,qn⟩ | ⟨go,N,hN,step⟩
  · refine wpAny_passesOwn hp (thn (T.done X rfl rfl rfl hc i pins s3 σ3 H3 X.xe I3 (stat fr3) st3 stop) fun r s4 ⟨hr,I4⟩=>?_)
    subst hr
    exact wpAny_execs_nil ⟨σ3,H3,I4,qn⟩
  · refine wpAny_passesOwn hp (thn (T.item X rfl rfl rfl hc i pins s3 σ3 H3 X.xe I3 (stat fr3) st3 go) fun r s4 ⟨u,hr,h4⟩=>?_)
    subst hr
    refine wpAny_passesOwn hp (thn h4 fun _ s5 ⟨x,H5,I5,r5,y5,st5,fr5⟩=>?_)
    have I5':=I5.pinned (stat fr5) (T.obj _ _ st5)
    refine wpAny_passesOwn hp (thn (hg _ s5 σ3 H5 x u _ I5' r5 (step x H5 y5)) fun _ s6 ⟨σ6,H6,I6,q6⟩=>?_)
    refine wpAny_passesOwn hp (thn (hb _ s6 σ6 H6 _ I6 q6) fun f s7 q7=>?_)
    have again : ∀ {σ7 : St} {H7 : Hp},Inv X (pins ++ pinsAt fp s5.heap) σ7 H7 s7→N σ7 H7→∃ m,m < n∧∃ i σ' H',Inv X pins σ' H' s7∧tn i s7.heap∧(∀ b ∈ fp,H' b = none)∧W i m σ' H':=fun {σ7 H7} I7 n7=>by
      obtain ⟨m',hm,w7⟩:=hN σ7 H7 n7
      refine ⟨m',hm,i + 1,σ7,H7,I7.unpinned,T.keep _ _ _ st5 fun b hb o e=>(I7.pin (b,o) (List.mem_append_right _ (List.mem_append_right _ (mem_pinsAt hb e)))).1,fun b hb=>?_,w7⟩
      obtain ⟨o,e,d⟩:=T.obj _ _ st5 b hb
      exact (I7.pin (b,o) (List.mem_append_right _ (List.mem_append_right _ (mem_pinsAt hb e)))).2.1
    cases f with
    | next=>obtain ⟨σ7,H7,I7,n7⟩:=q7; exact again I7 n7
    | cont=>obtain ⟨σ7,H7,I7,n7⟩:=q7; exact again I7 n7
    | brk=>obtain ⟨σ7,H7,I7,q7⟩:=q7; exact ⟨σ7,H7,I7.unpinned,q7⟩
    | ret v=>obtain ⟨x7,σ7,H7,I7,r7,q7⟩:=q7; exact ⟨x7,σ7,H7,I7.unpinned,r7,q7⟩
end
theorem for_list {K : PySem.W.Frag} {a : Addr} {xs : List V} {g : TG} {tb : TS} {D : Ends} {σ : St} {H : Hp} (Pv : Nat→St→Hp→Prop) (h0 : Pv 0 σ H) (hl : ∀ i σ H,i ≤ xs.length→Pv i σ H→SqL K H a xs)
    (hs : ∀ i x σ H,xs[i]? = some x→Pv i σ H→g x σ H fun σ2 H2=>tb { D with nx:=Pv (i + 1),ct:=Pv (i + 1),bk:=D.nx } σ2 H2) (hd : ∀ σ H,Pv xs.length σ H→D.nx σ H) :
    ∃ W : Nat→Nat→St→Hp→Prop,(∃ m,W 0 m σ H)∧∀ i m σ H,W i m σ H →
      ((Itl K a).stop i H∧D.nx σ H)∨((Itl K a).go i H∧∃ N : St→Hp→Prop,(∀ σ' H',N σ' H'→∃ m',m' < m∧W (i + 1) m' σ' H')∧∀ x H',(Itl K a).yld i H x H'→g x σ H' fun σ2 H2=>tb { D with nx:=N,ct:=N,bk:=D.nx } σ2 H2):=by
  refine ⟨fun i m σ H=>m = xs.length - i∧i ≤ xs.length∧Pv i σ H,⟨xs.length,by simp,Nat.zero_le _,h0⟩,?_⟩
  rintro i m σ H ⟨rfl,hi,p⟩
  have q:=hl i σ H hi p
  by_cases hlt : i < xs.length
  · refine .inr ⟨⟨xs,xs[i],q,by simp [hlt]⟩,Pv (i + 1),fun σ' H' p'=>⟨xs.length - (i + 1),by omega,rfl,hlt,p'⟩,fun x H' y=>?_⟩
    obtain ⟨e,y⟩:=y
    subst e
    exact hs i x σ _ (y xs q) p
  · have e : i = xs.length:=by omega
    subst e
    exact .inl ⟨⟨xs,q,Nat.le_refl _⟩,hd σ H p⟩
theorem for_range {lo : Int} {n : Nat} {g : TG} {tb : TS} {D : Ends} {σ : St} {H : Hp} (Pv : Nat→St→Hp→Prop) (h0 : Pv 0 σ H)
    (hs : ∀ i σ H,i < n→Pv i σ H→g (.int (lo + i)) σ H fun σ2 H2=>tb { D with nx:=Pv (i + 1),ct:=Pv (i + 1),bk:=D.nx } σ2 H2) (hd : ∀ σ H,Pv n σ H→D.nx σ H) :
    ∃ W : Nat→Nat→St→Hp→Prop,(∃ m,W 0 m σ H)∧∀ i m σ H,W i m σ H →
      ((Itr lo n).stop i H∧D.nx σ H)∨((Itr lo n).go i H∧∃ N : St→Hp→Prop,(∀ σ' H',N σ' H'→∃ m',m' < m∧W (i + 1) m' σ' H')∧∀ x H',(Itr lo n).yld i H x H'→g x σ H' fun σ2 H2=>tb { D with nx:=N,ct:=N,bk:=D.nx } σ2 H2):=by
  refine ⟨fun i m σ H=>m = n - i∧i ≤ n∧Pv i σ H,⟨n,by simp,Nat.zero_le _,h0⟩,?_⟩
  rintro i m σ H ⟨rfl,hi,p⟩
  by_cases hlt : i < n
  · refine .inr ⟨hlt,Pv (i + 1),fun σ' H' p'=>⟨n - (i + 1),by omega,rfl,hlt,p'⟩,fun x H' y=>?_⟩
    obtain ⟨e,y⟩:=y
    subst e y
    exact hs i σ _ hlt p
  · have e : i = n:=by omega
    subst e
    exact .inl ⟨Nat.le_refl _,hd σ H p⟩
end L2
namespace L2
open PySem PySem.Spec PyProof.Rows
abbrev R2:=V→V→Hp→VK→Prop
def OpR (X : Cx) (f : Value→Value→Sem Value) (r : R2) : Prop :=
  ∀ (pins : List (Addr × Obj)) (s : Shared) (σ : St) (H : Hp) (x y : V) (v u : Value) (Q : VK),Inv X pins σ H s→RelV x v→RelV y u→r x y H Q →
    wpAny (model X.prog X.w) X.A (f v u) (EP X pins σ Q) X.xe s
def CallR (X : Cx) (f : Value) (r : List V→Hp→VK→Prop) : Prop :=
  ∀ (pins : List (Addr × Obj)) (s : Shared) (σ : St) (H : Hp) (xs : List V) (us : List Value) (Q : VK),Inv X pins σ H s→Vals xs us→r xs H Q →
    wpAny (model X.prog X.w) X.A (call f us) (EP X pins σ Q) X.xe s
def tOp (r : R2) (ta tb : TE) : TE:=fun σ H Q=>ta σ H fun x H1=>tb σ H1 fun y H2=>r x y H2 Q
def rI (C : Int→Int→Prop) (g : Int→Int→V) : R2:=fun x y H Q=>∃ i j,x = .int i∧y = .int j∧C i j∧Q (g i j) H
def rI0 (g : Int→Int→V) : R2:=fun x y H Q=>∃ i j,x = .int i∧y = .int j∧Q (g i j) H
section
variable {X : Cx} {a b c : Expr} {ta tb tc : TE} {pos : Pos}
theorem binT (ha : PE X a ta) (hb : PE X b tb) {pins : List (Addr × Obj)} {s : Shared} {σ : St} {H : Hp} {R : V→V→Hp→Prop} (I : Inv X pins σ H s)
    (h : ta σ H fun x H1=>tb σ H1 fun y H2=>R x y H2) {Q : Value→Shared→Prop} {f : Value→Value→Sem Value}
    (hf : ∀ v u s2 x y H2,Inv X pins σ H2 s2→RelV x v→RelV y u→R x y H2→wpAny (model X.prog X.w) X.A (f v u) Q X.xe s2) :
    wpAny (model X.prog X.w) X.A (eval a X.env) (fun v s₁=>wpAny (model X.prog X.w) X.A (eval b X.env) (fun u s₂=>wpAny (model X.prog X.w) X.A (f v u) Q X.xe s₂) X.xe s₁) X.xe s:=by
  refine thn (ha pins s σ H _ I h) fun v s1 ⟨x,H1,I1,r1,q1⟩=>?_
  refine thn (hb pins s1 σ H1 _ I1 q1) fun u s2 ⟨y,H2,I2,r2,q2⟩=>?_
  exact hf v u s2 x y H2 I2 r1 r2 q2
theorem pe_op {op : Operator} {r : R2} (ho : OpR X (binaryOp op) r) (ha : PE X a ta) (hb : PE X b tb) : PE X (.BinOp a op b pos) (tOp r ta tb):=by
  intro pins s σ H Q I h
  exact wpAny_BinOp (binT ha hb I h fun v u s2 x y H2 I2 rx ry q=>ho pins s2 σ H2 x y v u Q I2 rx ry q)
theorem opI {f : Value→Value→Sem Value} {C : Int→Int→Prop} {g : Int→Int→Int}
    (rule : ∀ (i j : Int) (t u : Tok) (s : Shared) (Q : Value→Shared→Prop) (E : Value→Shared→Prop),C i j→Q (.int (g i j) s.toks) { s with toks:=s.toks + 1 }→wpAny (model X.prog X.w) X.A (f (.int i t) (.int j u)) Q E s) :
    OpR X f (rI C fun i j=>.int (g i j)):=by
  intro pins s σ H x y v u Q I rx ry h
  obtain ⟨i,j,rfl,rfl,hc,q⟩:=h
  obtain ⟨t,rfl⟩:=rx
  obtain ⟨t',rfl⟩:=ry
  exact rule i j t t' s _ _ hc ⟨.int (g i j),H,I.tok _,⟨_,rfl⟩,q⟩
theorem opI0 {f : Value→Value→Sem Value} {g : Int→Int→Int}
    (rule : ∀ (i j : Int) (t u : Tok) (s : Shared) (Q : Value→Shared→Prop) (E : Value→Shared→Prop),Q (.int (g i j) s.toks) { s with toks:=s.toks + 1 }→wpAny (model X.prog X.w) X.A (f (.int i t) (.int j u)) Q E s) :
    OpR X f (rI0 fun i j=>.int (g i j)):=by
  intro pins s σ H x y v u Q I rx ry h
  obtain ⟨i,j,rfl,rfl,q⟩:=h
  obtain ⟨t,rfl⟩:=rx
  obtain ⟨t',rfl⟩:=ry
  exact rule i j t t' s _ _ ⟨.int (g i j),H,I.tok _,⟨_,rfl⟩,q⟩
theorem opB0 {f : Value→Value→Sem Value} {g : Int→Int→Bool}
    (rule : ∀ (i j : Int) (t u : Tok) (s : Shared) (Q : Value→Shared→Prop) (E : Value→Shared→Prop),Q (.bool (g i j)) s→wpAny (model X.prog X.w) X.A (f (.int i t) (.int j u)) Q E s) :
    OpR X f (rI0 fun i j=>.bl (g i j)):=by
  intro pins s σ H x y v u Q I rx ry h
  obtain ⟨i,j,rfl,rfl,q⟩:=h
  obtain ⟨t,rfl⟩:=rx
  obtain ⟨t',rfl⟩:=ry
  exact rule i j t t' s _ _ ⟨.bl (g i j),H,I,rfl,q⟩
def CPow (i j : Int) : Prop:=0 ≤ j∧j ≤ 1000000∧i.natAbs < 2 ^ 64
def CMul (i j : Int) : Prop:=(-(2 ^ 64) < i∧i < 2 ^ 64)∨(-(2 ^ 64) < j∧j < 2 ^ 64)
theorem CMul.ok {i j : Int} (h : CMul i j) : IntMulOk i j:=by
  rcases h with ⟨h1,h2⟩ | ⟨h1,h2⟩
  · exact .of_left (intBits_le_64 h1 h2)
  · exact .of_right (intBits_le_64 h1 h2)
theorem op_add : OpR X (binaryOp .Add) (rI0 fun i j=>.int (i + j)):=opI0 fun _ _ _ _ _ _ _ q=>add_int q
theorem op_sub : OpR X (binaryOp .Sub) (rI0 fun i j=>.int (i - j)):=opI0 fun _ _ _ _ _ _ _ q=>sub_int q
theorem op_mul : OpR X (binaryOp .Mult) (rI CMul fun i j=>.int (i * j)):=opI fun _ _ _ _ _ _ _ hc q=>mul_int q hc.ok
theorem op_mod : OpR X (binaryOp .Mod) (rI (fun _ j=>0 < j) fun i j=>.int (i % j)):=opI fun i j _ _ _ _ _ hc q=>by
  have h1 : (0 : Int) < j:=hc
  exact mod_int' (by omega) (by rw [Int.fmod_eq_emod_of_nonneg i (by omega)]; exact q)
theorem op_pow : OpR X (binaryOp .Pow) (rI CPow fun i j=>.int (i ^ j.toNat)):=opI fun _ _ _ _ _ _ _ hc q=>pow_int_small hc.1 hc.2.1 hc.2.2 q
end
def scal : V→V→Bool
  | .non,.non=>true | .non,.int _=>true | .int _,.non=>true | .non,.bl _=>true | .bl _,.non=>true | .non,.str _=>true | .str _,.non=>true
  | .int _,.int _=>true | .bl _,.bl _=>true | .str _,.str _=>true | .byt _,.byt _=>true
  | .int _,.str _=>true | .str _,.int _=>true | .bl _,.str _=>true | .str _,.bl _=>true
  | _,_=>false
def rEq : R2:=fun x y H Q=>scal x y = true∧Q (.bl (decide (x = y))) H
def rNe : R2:=fun x y H Q=>scal x y = true∧Q (.bl (!decide (x = y))) H
theorem dec_int {i j : Int} : decide (V.int i = V.int j) = (i == j):=by
  rw [Bool.eq_iff_iff]
  simp
theorem dec_bl {i j : Bool} : decide (V.bl i = V.bl j) = (i == j):=by
  rw [Bool.eq_iff_iff]
  simp
theorem dec_str {i j : Str} : decide (V.str i = V.str j) = (i == j):=by
  rw [Bool.eq_iff_iff]
  simp
theorem dec_byt {i j : Array UInt8} : decide (V.byt i = V.byt j) = (i.toList == j.toList):=by
  rw [Bool.eq_iff_iff]
  cases i
  cases j
  simp
section
variable {X : Cx} {a b c : Expr} {ta tb tc : TE} {pos : Pos}
theorem fin_bl {pins : List (Addr × Obj)} {σ : St} {H : Hp} {s : Shared} {Q : VK} {k k' : Bool} (I : Inv X pins σ H s) (q : Q (.bl k) H) (e : k = k') : EP X pins σ Q (.bool k') s:=by
  subst e
  exact ⟨.bl k,H,I,rfl,q⟩
theorem op_eq : OpR X (compareOp .Eq) rEq:=by
  intro pins s σ H x y v u Q I rx ry h
  obtain ⟨hs,q⟩:=h
  cases x with
  | non =>
    cases rx
    cases y with
    | non=>cases ry; exact PySem.EqNone.eq_none_none (fin_bl I q (by simp))
    | bl j=>cases ry; exact PySem.EqNone.eq_none_bool (fin_bl I q (by simp))
    | int j=>obtain ⟨t',rfl⟩:=ry; exact PySem.EqNone.eq_none_int (fin_bl I q (by simp))
    | str j=>obtain ⟨t',rfl⟩:=ry; exact PySem.EqNone.eq_none_str (fin_bl I q (by simp))
    | _=>exact absurd (show false = true from hs) Bool.false_ne_true
  | bl i =>
    cases rx
    cases y with
    | non=>cases ry; exact PySem.EqNone.eq_bool_none (fin_bl I q (by simp))
    | bl j=>cases ry; exact eq_bool (fin_bl I q dec_bl)
    | str j=>obtain ⟨t',rfl⟩:=ry; exact PySem.EqMixed.eq_bool_str (fin_bl I q (by simp))
    | _=>exact absurd (show false = true from hs) Bool.false_ne_true
  | int i =>
    obtain ⟨t,rfl⟩:=rx
    cases y with
    | non=>cases ry; exact PySem.EqNone.eq_int_none (fin_bl I q (by simp))
    | int j=>obtain ⟨t',rfl⟩:=ry; exact eq_int (fin_bl I q dec_int)
    | str j=>obtain ⟨t',rfl⟩:=ry; exact PySem.EqMixed.eq_int_str (fin_bl I q (by simp))
    | _=>exact absurd (show false = true from hs) Bool.false_ne_true
  | str i =>
    obtain ⟨t,rfl⟩:=rx
    cases y with
    | non=>cases ry; exact PySem.EqNone.eq_str_none (fin_bl I q (by simp))
    | bl j=>cases ry; exact PySem.EqMixed.eq_str_bool (fin_bl I q (by simp))
    | int j=>obtain ⟨t',rfl⟩:=ry; exact PySem.EqMixed.eq_str_int (fin_bl I q (by simp))
    | str j=>obtain ⟨t',rfl⟩:=ry; exact eq_str (fin_bl I q dec_str)
    | _=>exact absurd (show false = true from hs) Bool.false_ne_true
  | byt i =>
    obtain ⟨t,rfl⟩:=rx
    cases y with
    | byt j=>obtain ⟨t',rfl⟩:=ry; exact PySem.W.eq_bytes (fin_bl I q dec_byt)
    | _=>exact absurd (show false = true from hs) Bool.false_ne_true
  | _=>cases y <;> exact absurd (show false = true from hs) Bool.false_ne_true
theorem op_ne : OpR X (compareOp .NotEq) rNe:=by
  intro pins s σ H x y v u Q I rx ry h
  obtain ⟨hs,q⟩:=h
  cases x with
  | non =>
    cases rx
    cases y with
    | non=>cases ry; exact PySem.EqNone.ne_none_none (fin_bl I q (by simp))
    | bl j=>cases ry; exact PySem.EqNone.ne_none_bool (fin_bl I q (by simp))
    | int j=>obtain ⟨t',rfl⟩:=ry; exact PySem.EqNone.ne_none_int (fin_bl I q (by simp))
    | str j=>obtain ⟨t',rfl⟩:=ry; exact PySem.EqNone.ne_none_str (fin_bl I q (by simp))
    | _=>exact absurd (show false = true from hs) Bool.false_ne_true
  | bl i =>
    cases rx
    cases y with
    | non=>cases ry; exact PySem.EqNone.ne_bool_none (fin_bl I q (by simp))
    | bl j=>cases ry; exact ne_bool (fin_bl I q (congrArg not dec_bl))
    | str j=>obtain ⟨t',rfl⟩:=ry; exact PySem.EqMixed.ne_bool_str (fin_bl I q (by simp))
    | _=>exact absurd (show false = true from hs) Bool.false_ne_true
  | int i =>
    obtain ⟨t,rfl⟩:=rx
    cases y with
    | non=>cases ry; exact PySem.EqNone.ne_int_none (fin_bl I q (by simp))
    | int j=>obtain ⟨t',rfl⟩:=ry; exact ne_int (fin_bl I q (congrArg not dec_int))
    | str j=>obtain ⟨t',rfl⟩:=ry; exact PySem.EqMixed.ne_int_str (fin_bl I q (by simp))
    | _=>exact absurd (show false = true from hs) Bool.false_ne_true
  | str i =>
    obtain ⟨t,rfl⟩:=rx
    cases y with
    | non=>cases ry; exact PySem.EqNone.ne_str_none (fin_bl I q (by simp))
    | bl j=>cases ry; exact PySem.EqMixed.ne_str_bool (fin_bl I q (by simp))
    | int j=>obtain ⟨t',rfl⟩:=ry; exact PySem.EqMixed.ne_str_int (fin_bl I q (by simp))
    | str j=>obtain ⟨t',rfl⟩:=ry; exact ne_str (fin_bl I q (congrArg not dec_str))
    | _=>exact absurd (show false = true from hs) Bool.false_ne_true
  | byt i =>
    obtain ⟨t,rfl⟩:=rx
    cases y with
    | byt j=>obtain ⟨t',rfl⟩:=ry; exact PySem.W.ne_bytes (fin_bl I q (congrArg not dec_byt))
    | _=>exact absurd (show false = true from hs) Bool.false_ne_true
  | _=>cases y <;> exact absurd (show false = true from hs) Bool.false_ne_true
theorem op_lt : OpR X (compareOp .Lt) (rI0 fun i j=>.bl (decide (i < j))):=opB0 fun _ _ _ _ _ _ _ q=>lt_int q
theorem op_le : OpR X (compareOp .LtE) (rI0 fun i j=>.bl (decide (i ≤ j))):=opB0 fun _ _ _ _ _ _ _ q=>le_int q
theorem op_gt : OpR X (compareOp .Gt) (rI0 fun i j=>.bl (decide (j < i))):=opB0 fun _ _ _ _ _ _ _ q=>gt_int q
theorem op_ge : OpR X (compareOp .GtE) (rI0 fun i j=>.bl (decide (j ≤ i))):=opB0 fun _ _ _ _ _ _ _ q=>ge_int q
theorem op_isN : OpR X (compareOp .Is) (fun x y H Q=>y = .non∧Q (.bl (decide (x = .non))) H):=by
  intro pins s σ H x y v u Q I rx ry h
  obtain ⟨rfl,q⟩:=h
  cases ry
  refine is_none_gen (fin_bl I q ?_)
  cases x <;> first
    | (cases rx; rfl)
    | (obtain ⟨t,rfl⟩:=rx; rfl)
theorem nomark (b : Expr) {op : CmpOp} (h : op ≠ .In:=by decide) (h2 : op ≠ .NotIn:=by decide) : behindInMarks op b = false:=by
  have e1 : (op == CmpOp.In) = false:=by cases op <;> first | rfl | exact absurd rfl h
  have e2 : (op == CmpOp.NotIn) = false:=by cases op <;> first | rfl | exact absurd rfl h2
  cases b <;> simp [behindInMarks,e1,e2]
theorem pe_cmpR {op : CmpOp} {r : R2} (ho : OpR X (compareOp op) r) (ha : PE X a ta) (hb : PE X b tb) (hm : behindInMarks op b = false) : PE X (.Compare a [op] [b] pos) (tOp r ta tb):=by
  intro pins s σ H Q I h
  exact wpAny_Compare1 (binT ha hb I h fun v u s2 x y H2 I2 rx ry q=>ho pins s2 σ H2 x y v u Q I2 rx ry q) hm
def tTest (t : TE) : TT:=fun σ H Q=>t σ H fun x H'=>∃ k,x = .bl k∧Q k H'
theorem pt_cmpR {op : CmpOp} {r : R2} (ho : OpR X (compareOp op) r) (ha : PE X a ta) (hb : PE X b tb) (hm : behindInMarks op b = false) : PT X (.Compare a [op] [b] pos) (tTest (tOp r ta tb)):=by
  intro pins s σ H Q I h
  refine wpAny_isTrue_Compare1 (thn (ha pins s σ H _ I h) fun v s1 ⟨x,H1,I1,r1,q1⟩=>thn (hb pins s1 σ H1 _ I1 q1) fun u s2 ⟨y,H2,I2,r2,q2⟩ =>
    thn (ho pins s2 σ H2 x y v u _ I2 r1 r2 q2) fun c s3 ⟨z,H3,I3,r3,k,e,q3⟩=>?_) hm
  subst e
  cases r3
  exact wpAny_truthy_bool ⟨H3,I3,q3⟩
theorem line63 : (sizeLine : Nat) < 2 ^ 63:=by rw [sizeLine_eq]; decide
theorem op_add_str : OpR X (binaryOp .Add) (fun x y H Q=>∃ i j,x = .str i∧y = .str j∧i.length + j.length ≤ sizeLine∧Q (.str (i ++ j)) H):=by
  intro pins s σ H x y v u Q I rx ry h
  obtain ⟨i,j,rfl,rfl,hz,q⟩:=h
  obtain ⟨t,rfl⟩:=rx
  obtain ⟨t',rfl⟩:=ry
  exact add_str (fun t' tk=>⟨.str (i ++ j),H,I.tok _,⟨_,rfl⟩,q⟩) hz
theorem vals1 {x : V} {us : List Value} (r : Vals [x] us) : ∃ u,us = [u]∧RelV x u:=by
  cases r with
  | cons r1 r2=>cases r2; exact ⟨_,rfl,r1⟩
theorem vals2 {x y : V} {us : List Value} (r : Vals [x,y] us) : ∃ u w',us = [u,w']∧RelV x u∧RelV y w':=by
  cases r with
  | cons r1 r2 =>
    cases r2 with
    | cons r3 r4=>cases r4; exact ⟨_,_,rfl,r1,r3⟩
theorem call_abs : CallR X (.builtin "abs") (fun xs H Q=>∃ i,xs = [.int i]∧Q (.int (if i < 0 then -i else i)) H):=by
  intro pins s σ H xs us Q I r h
  obtain ⟨i,rfl,q⟩:=h
  obtain ⟨u,rfl,t,rfl⟩:=vals1 r
  exact call_abs_int fun u tk=>⟨.int (if i < 0 then -i else i),H,I.tok _,⟨_,rfl⟩,q⟩
theorem call_max2 (hc : X.calm = true) : CallR X (.builtin "max") (fun xs H Q=>∃ i j,xs = [.int i,.int j]∧Q (.int (if j > i then j else i)) H):=by
  intro pins s σ H xs us Q I r h
  obtain ⟨i,j,rfl,q⟩:=h
  obtain ⟨u,w',rfl,⟨t,rfl⟩,⟨t',rfl⟩⟩:=vals2 r
  refine max_two_ints (I.ok.hd hc) fun h' tk k=>⟨_,H,I.kept k,?_,q⟩
  by_cases hj : j > i
  · rw [if_pos hj,if_pos hj]; exact ⟨_,rfl⟩
  · rw [if_neg hj,if_neg hj]; exact ⟨_,rfl⟩
theorem call_min2 (hc : X.calm = true) : CallR X (.builtin "min") (fun xs H Q=>∃ i j,xs = [.int i,.int j]∧Q (.int (if j < i then j else i)) H):=by
  intro pins s σ H xs us Q I r h
  obtain ⟨i,j,rfl,q⟩:=h
  obtain ⟨u,w',rfl,⟨t,rfl⟩,⟨t',rfl⟩⟩:=vals2 r
  refine min_two_ints (I.ok.hd hc) fun h' tk k=>⟨_,H,I.kept k,?_,q⟩
  by_cases hj : j < i
  · rw [if_pos hj,if_pos hj]; exact ⟨_,rfl⟩
  · rw [if_neg hj,if_neg hj]; exact ⟨_,rfl⟩
theorem call_int1 : CallR X (.type "int") (fun xs H Q=>(∃ i,xs = [.int i]∧Q (.int i) H)∨∃ k,xs = [.bl k]∧Q (.int (if k then 1 else 0)) H):=by
  intro pins s σ H xs us Q I r h
  rcases h with ⟨i,rfl,q⟩ | ⟨k,rfl,q⟩
  · obtain ⟨u,rfl,t,rfl⟩:=vals1 r
    exact call_int_int ⟨.int i,H,I,⟨_,rfl⟩,q⟩
  · obtain ⟨u,rfl,r1⟩:=vals1 r
    cases r1
    exact call_int_bool ⟨.int (if k then 1 else 0),H,I.tok _,⟨_,rfl⟩,q⟩
theorem call_str_int : CallR X (.type "str") (fun xs H Q=>∃ i,xs = [.int i]∧i.natAbs.log2 < 1920∧Q (.str (toString i)) H):=by
  intro pins s σ H xs us Q I r h
  obtain ⟨i,rfl,hz,q⟩:=h
  obtain ⟨u,rfl,t,rfl⟩:=vals1 r
  exact PySem.P.str_of_int hz ⟨.str _,H,I.tok _,⟨_,rfl⟩,q⟩
end
end L2
namespace L2
open PySem PySem.Spec PyProof.Rows
structure ObjM (h : Heap) (x dx C : Addr) (mA : Str→Option Value) : Prop where
  obj : h.get? x = some (PySem.W.instObj C dx)
  ns : h.Ns1 dx mA
  ne : dx ≠ x
theorem lookIn_ns {h : Heap} {dx : Addr} {mA : Str→Option Value} (n : h.Ns1 dx mA) : ∃ od,h.get? dx = some od∧∀ name,PySem.W.lookIn name od = some (mA name):=by
  obtain ⟨o,es,ep,ho,hd,hk,_,hm⟩:=n
  refine ⟨o,ho,fun name=>?_⟩
  have e:=hm name
  unfold nsFind findBy at e
  rw [← Array.find?_toList] at e
  unfold PySem.W.lookIn
  rw [hd]
  dsimp only
  split
  · rename_i y q
    rw [q] at e
    exact congrArg some e
  · rename_i q
    rw [q] at e
    have a : es.toList.any (·.refKey) = false:=by
      rw [List.any_eq_false]
      intro y hy
      obtain ⟨z,t,hkey⟩:=hk y (Array.mem_toList_iff.mp hy)
      simp [DictEntry.refKey,hkey]
    have a' : ¬ es.toList.any (·.refKey) = true:=by rw [a]; exact Bool.false_ne_true
    rw [if_neg a']
    exact congrArg some e
theorem ObjM.look {h : Heap} {x dx C : Addr} {mA : Str→Option Value} (I : ObjM h x dx C mA) : ∃ od,PySem.W.InstAt h x (PySem.W.instObj C dx) C (some od)∧∀ name,PySem.W.lookIn name od = some (mA name) :=
  let ⟨od,ho,hl⟩:=lookIn_ns I.ns
  ⟨od,⟨I.obj,rfl,rfl,ho⟩,hl⟩
section
variable {prog : Program} {w : World} {A : Around} {E : Value→Shared→Prop} {s : Shared} {K : PySem.W.Frag} {x dx C f : Addr} {mA : Str→Option Value} {name : Str} {v : Value}
theorem get_map {expr : Bool} {Q : Value→Shared→Prop} (X : K.In s.heap) (I : ObjM s.heap x dx C mA) (hg : PySem.W.plainGet K C name = true) (hh : PySem.W.hasDictIn K C = true)
    (ha : PySem.W.findIn K (.ref C) name = some none) (hv : mA name = some v) (hv' : PySem.W.handedIn v = true) (h : Q v { s with toks:=s.toks + 1 }) :
    wpAny (model prog w) A (getAttr (.ref x) name expr) Q E s:=by
  obtain ⟨od,J,hl⟩:=I.look
  exact PySem.W.get_value X J (PySem.W.plainGet_of hg).1 (PySem.W.findObj_own hh ha rfl (by rw [hl,hv])) hv' h
theorem get_meth {pl : Sem Bool} {Q : Value × List Value→Shared→Prop} (X : K.In s.heap) (I : ObjM s.heap x dx C mA) (hg : PySem.W.plainGet K C name = true)
    (hf : PySem.W.findIn K (.ref C) name = some (some (.ref f))) (ht : PySem.W.isFn K (.ref f) = true) (hv : mA name = none) (h : Q (.ref f,[.ref x]) s) :
    wpAny (model prog w) A (getMethod (.ref x) name pl) Q E s:=by
  obtain ⟨od,J,hl⟩:=I.look
  exact PySem.W.method_fn X J (PySem.W.plainGet_of hg).1 (PySem.W.plainGet_of hg).2 hf (beq_iff_eq.mp ht) (by show (PySem.W.lookIn name od).map (·.isSome) = some false; rw [hl,hv]; rfl) h
theorem set_map {ns : List Str} {Q : Unit→Shared→Prop} (X : K.In s.heap) (I : ObjM s.heap x dx C mA)
    (hs : PySem.W.findIn K (.ref C) "__setattr__" = some (some (.builtin "object.__setattr__"))) (hp : PySem.W.plainOver K C = true) (ht : PySem.W.takerIn K C name = some none) (hh : PySem.W.hasDictIn K C = true)
    (hw : PySem.Within mA ns) (hsz : ns.length ≤ sizeLine)
    (h : ∀ h',ObjM h' x dx C (fun y=>if y = name then some v else mA y)→Heap.SameBut dx s.heap h'→Q () { s with heap:=h',toks:=s.toks + 2 }) :
    wpAny (model prog w) A (setAttr (.ref x) name v) Q E s:=by
  obtain ⟨od,J,hl⟩:=I.look
  refine PySem.W.set_plain X J hs (PySem.W.osa_open (s:={ s with toks:=s.toks + 1 }) (r:=none) X J hp ht fun b=>?_)
  obtain ⟨cd,hc,hd'⟩:=PySem.W.any_some hh
  have hx : s.heap.get? x = some ⟨.ref C,some dx,.plain,#[]⟩:=I.obj
  refine wpAny_bind (wpAny_pure (wpAny_bind (wpAny_bind (wpAny_loadPart hx (wpAny_bind (PySem.W.Looks.here (s:={ s with toks:=s.toks + 1 }) (PySem.W.looks_clsIn X hc) ?_))))))
  rw [hd']
  refine wpAny_pure (a:=some dx) (wpAny_bind (wpAny_pure (wpAny_bind ?_)))
  refine wpAny_nsSet1 (s:={ s with toks:=s.toks + 1 }) I.ns fun h' hn2 hs2=>?_
  obtain ⟨oD,esD,epD,hoD,hdD,hcD⟩:=hn2.count (PySem.Within.cons name v hw)
  refine wpAny_bind (wpAny_lookBehind hoD (by rw [hdD]; exact pastItsLine_dict (Nat.le_trans hcD (by rw [List.length_cons]; omega))) ?_)
  exact wpAny_pure (h _ ⟨(hs2.2 _ (Ne.symm I.ne)).trans I.obj,hn2,I.ne⟩ hs2)
theorem make_map {R : Result→Shared→Prop} {vs : List Value} {kw : List (Str × Value)} (X : K.In s.heap) (hm : PySem.W.makesIn K C = true)
    (hi : PySem.W.findIn K (.ref C) "__init__" = some (some (.ref f))) (hf : PySem.W.typeIn K (.ref f) = some (.type "function"))
    (h : codeAny (model prog w) (A.under (.builtin "type.__call__" ⟨.ref C :: vs,kw⟩)) (.call (.ref f) ⟨.ref (s.heap.objs.size + 1) :: vs,kw⟩) (PySem.W.InitBack (s.heap.objs.size + 1) R)
      { s with heap:=(s.heap.push PySem.W.emptyDict).push (PySem.W.instObj C s.heap.objs.size) }) :
    codeAny (model prog w) A (.call (.ref C) ⟨vs,kw⟩) R s:=by
  obtain ⟨hh,g,d,t,os⟩:=s
  exact PySem.W.make_core (PySem.W.makes_of X hm) (PySem.W.looks_findIn X hi) (fun self=>PySem.W.bind_fn X self hf) (.inl rfl) h
end
def putF (f : Str) (v : V) : List (Str × V)→List (Str × V)
  | []=>[(f,v)]
  | (g,x) :: r=>if g = f then (g,v) :: r else (g,x) :: putF f v r
theorem lookup_putF (f g : Str) (v : V) : ∀ fs : List (Str × V),(putF f v fs).lookup g = if g = f then some v else fs.lookup g
  | []=>by
    show List.lookup g [(f,v)] = _
    by_cases h : g = f
    · have hb : (g == f) = true:=beq_iff_eq.mpr h
      simp only [List.lookup,hb,if_pos h]
    · have hb : (g == f) = false:=beq_eq_false_iff_ne.mpr h
      simp only [List.lookup,hb,if_neg h]
  | (k,x) :: r=>by
    have ih:=lookup_putF f g v r
    rw [show putF f v ((k,x) :: r) = (if k = f then (k,v) :: r else (k,x) :: putF f v r) from rfl]
    by_cases hk : k = f
    · rw [if_pos hk]
      by_cases h : g = k
      · have hb : (g == k) = true:=beq_iff_eq.mpr h
        simp only [List.lookup,hb,if_pos (h.trans hk)]
      · have hb : (g == k) = false:=beq_eq_false_iff_ne.mpr h
        simp only [List.lookup,hb,if_neg (fun e : g = f=>h (e.trans hk.symm))]
    · rw [if_neg hk]
      by_cases h : g = k
      · have hb : (g == k) = true:=beq_iff_eq.mpr h
        simp only [List.lookup,hb,if_neg (fun e : g = f=>hk (h.symm.trans e))]
      · have hb : (g == k) = false:=beq_eq_false_iff_ne.mpr h
        simp only [List.lookup,hb]
        exact ih
theorem keys_putF (f : Str) (v : V) : ∀ fs : List (Str × V),f ∈ (putF f v fs).map (·.1)∧∀ g,g ∈ fs.map (·.1)→g ∈ (putF f v fs).map (·.1)
  | []=>⟨by simp [putF],fun g h=>by simp at h⟩
  | (k,x) :: r=>by
    obtain ⟨i1,i2⟩:=keys_putF f v r
    rw [show putF f v ((k,x) :: r) = (if k = f then (k,v) :: r else (k,x) :: putF f v r) from rfl]
    by_cases hk : k = f
    · rw [if_pos hk]
      subst hk
      exact ⟨by simp,fun g h=>by simpa using h⟩
    · rw [if_neg hk]
      refine ⟨?_,fun g h=>?_⟩
      · rw [List.map_cons]
        exact List.mem_cons_of_mem _ i1
      · rw [List.map_cons] at h ⊢
        rcases List.mem_cons.mp h with e | e
        · exact List.mem_cons.mpr (.inl e)
        · exact List.mem_cons_of_mem _ (i2 g e)
theorem length_putF (f : Str) (v : V) : ∀ fs : List (Str × V),(putF f v fs).length ≤ fs.length + 1
  | []=>by simp [putF]
  | (k,x) :: r=>by
    have ih:=length_putF f v r
    rw [show putF f v ((k,x) :: r) = (if k = f then (k,v) :: r else (k,x) :: putF f v r) from rfl]
    by_cases hk : k = f
    · rw [if_pos hk,List.length_cons,List.length_cons]; omega
    · rw [if_neg hk,List.length_cons,List.length_cons]; omega
theorem RelO.some_of {v : V} {o : Option Value} (r : RelO (some v) o) : ∃ u,o = some u∧RelV v u:=by
  cases o with
  | none=>exact (show False from r).elim
  | some u=>exact ⟨u,rfl,r⟩
theorem RelO.none_of {o : Option Value} (r : RelO none o) : o = none:=by
  cases o with
  | none=>rfl
  | some u=>exact (show False from r).elim
theorem handed_of {v : V} {u : Value} (r : RelV v u) : PySem.W.handedIn u = true:=by
  cases v with
  | non=>cases (show u = Value.none from r); rfl
  | bl b=>cases (show u = Value.bool b from r); rfl
  | int i=>obtain ⟨t,e⟩:=(show ∃ t,u = Value.int i t from r); cases e; rfl
  | str x=>obtain ⟨t,e⟩:=(show ∃ t,u = Value.str x t from r); cases e; rfl
  | byt b=>obtain ⟨t,e⟩:=(show ∃ t,u = Value.bytes b t from r); cases e; rfl
  | flt b=>obtain ⟨t,e⟩:=(show ∃ t,u = Value.float b t from r); cases e; rfl
  | ref a=>cases (show u = Value.ref a from r); rfl
  | ty n=>cases (show u = Value.type n from r); rfl
section
variable {P : Program} {w : World} {H H' : Hp} {h h' : Heap} {a C dx : Addr} {fs fs' : List (Str × V)}
theorem ins_get (hok : HOk P w H h) (e : H a = some (.ins C dx fs)) : ∃ mA,ObjM h a dx C mA∧(∀ f,RelO (fs.lookup f) (mA f))∧PySem.Within mA (fs.map (·.1))∧fs.length ≤ 1000∧H dx = some (.own a):=by
  obtain ⟨d,z,ne,ob,mA,n,r,q⟩:=(show ObjOk P w H h a (.ins C dx fs) from hok a _ e)
  exact ⟨mA,⟨ob,n,ne⟩,r,q,z,d⟩
end
structure Cls (K : PySem.W.Frag) (C : Addr) : Prop where
  pg : PySem.W.plainGet K C Str.empty = true
  hd : PySem.W.hasDictIn K C = true
  po : PySem.W.plainOver K C = true
  sa : PySem.W.findIn K (.ref C) "__setattr__" = some (some (.builtin "object.__setattr__"))
theorem Cls.get {K : PySem.W.Frag} {C : Addr} (c : Cls K C) (f : Str) : PySem.W.plainGet K C f = true:=c.pg
def NoAttr (K : PySem.W.Frag) (C : Addr) (f : Str) : Prop:=PySem.W.findIn K (.ref C) f = some none
theorem NoAttr.taker {K : PySem.W.Frag} {C : Addr} {f : Str} (n : NoAttr K C f) : PySem.W.takerIn K C f = some none:=by
  unfold PySem.W.takerIn
  rw [show PySem.W.findIn K (.ref C) f = some none from n]
  rfl
structure Meth (K : PySem.W.Frag) (C : Addr) (m : Str) (f : Addr) : Prop where
  at_ : PySem.W.findIn K (.ref C) m = some (some (.ref f))
  fn : PySem.W.isFn K (.ref f) = true
  kp : PySem.W.keepIn K (.ref f) = true
section
variable {X : Cx} {pins : List (Addr × Obj)} {σ : St} {H : Hp} {s : Shared} {a C dx : Addr} {fs : List (Str × V)} {f : Str} {v : V} {A : Around} {E : Value→Shared→Prop}
theorem getattr_ok {b : Bool} {Q : Value→Shared→Prop} (I : Inv X pins σ H s) (e : H a = some (.ins C dx fs)) (c : Cls X.K C) (n : NoAttr X.K C f) (l : fs.lookup f = some v)
    (h : ∀ u s',Inv X pins σ H s'→RelV v u→Q u s') : wpAny (model X.prog X.w) A (getAttr (.ref a) f b) Q E s:=by
  obtain ⟨mA,O,r,_,_,_⟩:=ins_get I.hok e
  obtain ⟨u,hu,ru⟩:=RelO.some_of (v:=v) (o:=mA f) (by rw [← l]; exact r f)
  exact get_map I.kIn O (c.get f) c.hd n hu (handed_of ru) (h u _ (I.tok _) ru)
theorem getmeth_ok {m : Str} {g : Addr} {pl : Sem Bool} {Q : Value × List Value→Shared→Prop} (I : Inv X pins σ H s) (e : H a = some (.ins C dx fs)) (c : Cls X.K C) (k : Meth X.K C m g) (l : fs.lookup m = none)
    (h : Q (.ref g,[.ref a]) s) : wpAny (model X.prog X.w) A (getMethod (.ref a) m pl) Q E s:=by
  obtain ⟨mA,O,r,_,_,_⟩:=ins_get I.hok e
  have hn : mA m = none:=RelO.none_of (by rw [← l]; exact r m)
  exact get_meth I.kIn O (c.get m) k.at_ k.fn hn h
theorem setattr_ok {y : V} {u : Value} {Q : Unit→Shared→Prop} (I : Inv X pins σ H s) (e : H a = some (.ins C dx fs)) (c : Cls X.K C) (n : NoAttr X.K C f) (hl : fs.length < 1000) (ry : RelV y u)
    (h : ∀ s',Inv X pins σ (upd H a (.ins C dx (putF f y fs))) s'→Q () s') : wpAny (model X.prog X.w) A (setAttr (.ref a) f u) Q E s:=by
  obtain ⟨mA,O,r,wi,_,ho⟩:=ins_get I.hok e
  have hz : (fs.map (·.1)).length ≤ sizeLine:=by rw [List.length_map,sizeLine_eq]; omega
  refine set_map I.kIn O c.sa c.po n.taker c.hd wi hz fun h' O' sb=>h _ ?_
  have hd : ∃ o,h'.get? dx = some o:=let ⟨o,_,_,e',_⟩:=O'.ns; ⟨o,e'⟩
  refine I.write (x:=a) (e:=dx) (by rw [e]; exact True.intro) (.inr ho) (fun b q hb z=>(sb.2 b hb).trans z) hd ?_
  refine ⟨by rw [upd_ne O.ne]; exact ho,?_,O.ne,O'.obj,_,O'.ns,fun g=>?_,fun g hg=>?_⟩
  · have:=length_putF f y fs; omega
  · show RelO ((putF f y fs).lookup g) (if g = f then some u else mA g)
    rw [lookup_putF]
    by_cases q : g = f
    · rw [if_pos q,if_pos q]; exact ry
    · rw [if_neg q,if_neg q]; exact r g
  · by_cases q : g = f
    · rw [q]; exact (keys_putF f y fs).1
    · refine (keys_putF f y fs).2 g (wi g fun z=>hg ?_)
      show (if g = f then some u else mA g) = none
      rw [if_neg q]; exact z
theorem Inv.made (I : Inv X pins σ H s) : Inv X pins σ (upd (upd H s.heap.objs.size (.own (s.heap.objs.size + 1))) (s.heap.objs.size + 1) (.ins C s.heap.objs.size []))
    { s with heap:=(s.heap.push PySem.W.emptyDict).push (PySem.W.instObj C s.heap.objs.size) }:=by
  have e1 : (s.heap.push PySem.W.emptyDict).get? s.heap.objs.size = some PySem.W.emptyDict:=Heap.get?_push_size s.heap rfl
  have e2 : ((s.heap.push PySem.W.emptyDict).push (PySem.W.instObj C s.heap.objs.size)).get? (s.heap.objs.size + 1) = some (PySem.W.instObj C s.heap.objs.size):=by
    have:=Heap.get?_push_size (s.heap.push PySem.W.emptyDict) (o:=PySem.W.instObj C s.heap.objs.size) rfl
    rwa [Heap.size_push] at this
  have e3 : (s.heap.push PySem.W.emptyDict).Ns s.heap.objs.size (fun _=>none):=⟨PySem.W.emptyDict,#[],_,e1,rfl,(fun e he=>absurd he (by simp)),fun _=>rfl⟩
  have I1:=I.laid (a:=s.heap.objs.size) (o:=.own (s.heap.objs.size + 1)) (h':=s.heap.push PySem.W.emptyDict) (t':=s.toks) (fun b u q=>Heap.get?_push_of_some _ q) (Nat.le_refl _) ⟨_,e1⟩
  refine I1.laid (a:=s.heap.objs.size + 1) (o:=.ins C s.heap.objs.size []) (t':=s.toks) (fun b u q=>Heap.get?_push_of_some _ q) (Nat.le_of_eq (Heap.size_push _ _)) ?_
  have ne : s.heap.objs.size ≠ s.heap.objs.size + 1:=Nat.ne_of_lt (Nat.lt_succ_self _)
  refine ⟨by rw [upd_ne ne,upd_same],Nat.zero_le _,ne,e2,fun _=>none,(Heap.Ns1.of_empty e3).at fun o q=>Heap.get?_push_of_some _ q,fun _=>True.intro,fun y hy=>absurd rfl hy⟩
theorem attr_of {prog : Program} {w : World} {env : Env} {e : Expr} {f : Str} {pos : Pos} {s : Shared} {Q : Value→Shared→Prop} (hb : attributeBase e f env (eval e env) = eval e env)
    (h : wpAny (model prog w) A (eval e env) (fun o s₁=>wpAny (model prog w) A (getAttr o f true) Q E s₁) E s) : wpAny (model prog w) A (eval (.Attribute e f pos) env) Q E s :=
  Attribute_any_ h (by rw [arm_eval_Attribute,hb])
end
def tFld (K : PySem.W.Frag) (ta : TE) (f : Str) : TE:=fun σ H Q=>ta σ H fun x H1=>∃ a C dx fs v,x = .ref a∧H1 a = some (.ins C dx fs)∧Cls K C∧NoAttr K C f∧fs.lookup f = some v∧Q v H1
def sFld (K : PySem.W.Frag) (ta tv : TE) (f : Str) : TS:=fun D σ H=>tv σ H fun y H1=>ta σ H1 fun x H2=>∃ a C dx fs,x = .ref a∧H2 a = some (.ins C dx fs)∧Cls K C∧NoAttr K C f∧fs.length < 1000 ∧
  D.nx σ (upd H2 a (.ins C dx (putF f y fs)))
section
variable {X : Cx} {o e value : Expr} {f : Str} {pos pos' tpos : Pos} {ta tv : TE}
theorem pe_fld (he : PE X e ta) (hb : attributeBase e f X.env (eval e X.env) = eval e X.env) : PE X (.Attribute e f pos) (tFld X.K ta f):=by
  intro pins s σ H Q I h
  refine attr_of hb (thn (he pins s σ H _ I h) fun u s1 ⟨x,H1,I1,rx,a,C,dx,fs,v,ex,ea,c,n,l,q⟩=>?_)
  subst ex
  obtain rfl : u = Value.ref a:=rx
  exact getattr_ok I1 ea c n l fun u' s2 I2 ru=>⟨v,H1,I2,ru,q⟩
theorem ps_fld (ha : PE X o ta) (hv : PE X value tv) (hs : swapsWith value (some (.Attribute o f pos')) pos.line X.env = pure false) : PS X (.Assign [.Attribute o f pos'] value pos) (sFld X.K ta tv f):=by
  intro pins s σ H D I h
  refine plainObj_wpAny_Assign_Attribute (thn (hv pins s σ H _ I h) fun u s1 ⟨y,H1,I1,ry,q⟩=>thn (ha pins s1 σ H1 _ I1 q) fun ov s2 ⟨x,H2,I2,rx,a,C,dx,fs,ex,ea,c,n,l,q2⟩=>?_) hs
  subst ex
  obtain rfl : ov = Value.ref a:=rx
  exact setattr_ok I2 ea c n l ry fun s3 I3=>⟨σ,_,I3,q2⟩
theorem methcall_of {pl : Sem Bool} {m : Str} {apos : Pos} {args : List Expr} {pins : List (Addr × Obj)} {s : Shared} {σ : St} {H : Hp} {Q : Value→Shared→Prop} {te : TE} (he : PE X e te) (I : Inv X pins σ H s)
    (h : te σ H fun x H1=>∃ a C dx fs g,x = .ref a∧H1 a = some (.ins C dx fs)∧Cls X.K C∧Meth X.K C m g∧fs.lookup m = none ∧
      ∀ s1,Inv X pins σ H1 s1→wpAny (model X.prog X.w) X.A (callWith pos (.ref g) [.ref a] (backTo pos (starEach args X.env)) (backToKw pos (keywordEach [] X.env))) Q X.xe s1)
    (ht : eval (.Call (.Attribute e m apos) args [] pos) X.env = (do
      let ov ← eval e X.env
      standAt apos.atName
      let (f,first) ← holding [ov] (getMethod ov m pl)
      callWith pos f first (backTo pos (starEach args X.env)) (backToKw pos (keywordEach [] X.env)))) :
    wpAny (model X.prog X.w) X.A (eval (.Call (.Attribute e m apos) args [] pos) X.env) Q X.xe s:=by
  refine PySem.W.methodCall_KW (pl:=pl) (thn (he pins s σ H _ I h) fun u s1 ⟨x,H1,I1,rx,a,C,dx,fs,g,ex,ea,c,k,l,q⟩=>?_) ht
  subst ex
  obtain rfl : u = Value.ref a:=rx
  exact getmeth_ok I1 ea c k l (q s1 I1)
end
section
variable {X : Cx} {pins : List (Addr × Obj)} {σ : St} {H : Hp} {s : Shared} {A : Around} {E : Value→Shared→Prop} {Q : Value→Shared→Prop} {c : Value} {b : Bool}
inductive TyOf (K : PySem.W.Frag) (H : Hp) : V→Value→Prop where
  | non : TyOf K H .non (.type "NoneType")
  | bl (x : Bool) : TyOf K H (.bl x) (.type "bool")
  | int (i : Int) : TyOf K H (.int i) (.type "int")
  | str (x : Str) : TyOf K H (.str x) (.type "str")
  | flt (x : UInt64) : TyOf K H (.flt x) (.type "float")
  | lst {a : Addr} {xs : List V} (e : H a = some (.lst xs)) : TyOf K H (.ref a) (.type "list")
  | frz {a : Addr} {o : Obj} {xs : List V} (e : H a = some (.frz o (.lst xs))) : TyOf K H (.ref a) (.type "list")
  | tup {a : Addr} {xs : List V} (e : H a = some (.tup xs)) : TyOf K H (.ref a) (.type "tuple")
  | dK {a : Addr} {kvs : List (Key × V)} (e : H a = some (.dK kvs)) : TyOf K H (.ref a) (.type "dict")
  | dT {a : Addr} {kvs : List (List Key × V)} (e : H a = some (.dT kvs)) : TyOf K H (.ref a) (.type "dict")
  | ins {a C dx : Addr} {fs : List (Str × V)} (e : H a = some (.ins C dx fs)) (cl : Cls K C) (ha : PySem.W.findIn K (.ref C) "__class__" = some (some (.builtin "object.__class__")))
      (hn : PySem.W.specialIn K (.builtin "object.__class__") "__get__" = some (some (.builtin "getset_descriptor.__get__"))) (htk : PySem.W.takesIn K (.builtin "object.__class__") = some true)
      (hm : PySem.W.mroIn K C (.type "object") = some true) : TyOf K H (.ref a) (.ref C)
theorem isinst_ok {x : V} {u t : Value} (I : Inv X pins σ H s) (rx : RelV x u) (ty : TyOf X.K H x t) (e : PySem.W.kitOne X.K t c = some b) (h : ∀ tk,Q (.bool b) { s with toks:=tk }) :
    wpAny (model X.prog X.w) A (call (.builtin "isinstance") [u,c]) Q E s:=by
  cases ty with
  | non=>cases (show u = Value.none from rx); exact PySem.W.kia_one PySem.W.kitx_none I.kIn True.intro e (fun z=>nomatch z) h
  | bl y=>cases (show u = Value.bool y from rx); exact PySem.W.kia_one PySem.W.kitx_bool I.kIn True.intro e (fun z=>nomatch z) h
  | int i=>obtain ⟨t,q⟩:=(show ∃ t,u = Value.int i t from rx); cases q; exact PySem.W.kia_one PySem.W.kitx_int I.kIn True.intro e (fun z=>nomatch z) h
  | str y=>obtain ⟨t,q⟩:=(show ∃ t,u = Value.str y t from rx); cases q; exact PySem.W.kia_one PySem.W.kitx_str I.kIn True.intro e (fun z=>nomatch z) h
  | flt y=>obtain ⟨t,q⟩:=(show ∃ t,u = Value.float y t from rx); cases q; exact PySem.W.kia_one PySem.W.kitx_float I.kIn True.intro e (fun z=>nomatch z) h
  | @lst a xs ea =>
    cases (show u = Value.ref a from rx)
    obtain ⟨_,_,n,_,h1⟩:=(show ObjOk X.prog X.w H s.heap a (.lst xs) from I.hok a _ ea)
    exact PySem.W.kia_one PySem.W.kitx_list I.kIn ⟨_,h1,rfl⟩ e (fun z=>nomatch z) h
  | @frz a ob xs ea =>
    cases (show u = Value.ref a from rx)
    obtain ⟨_,_,_,n,_,h1⟩:=(show ObjOk X.prog X.w H s.heap a (.frz ob (.lst xs)) from I.hok a _ ea)
    exact PySem.W.kia_one PySem.W.kitx_list I.kIn ⟨_,h1,rfl⟩ e (fun z=>nomatch z) h
  | @tup a xs ea =>
    cases (show u = Value.ref a from rx)
    obtain ⟨_,_,_,p⟩:=(show ObjOk X.prog X.w H s.heap a (.tup xs) from I.hok a _ ea)
    obtain ⟨o,h1,h2,_⟩:=p
    exact PySem.W.kia_one PySem.W.kitx_tuple I.kIn ⟨o,h1,h2⟩ e (fun z=>nomatch z) h
  | @dK a kvs ea =>
    cases (show u = Value.ref a from rx)
    obtain ⟨_,_,vs,_,p⟩:=(show ObjOk X.prog X.w H s.heap a (.dK kvs) from I.hok a _ ea)
    obtain ⟨o,es,ep,h1,h2,_⟩:=p
    exact PySem.W.kia_one PySem.W.kitx_dict I.kIn ⟨o,h1,h2.1⟩ e (fun z=>nomatch z) h
  | @dT a kvs ea =>
    cases (show u = Value.ref a from rx)
    obtain ⟨_,_,xs,_,o,es,ep,h1,h2,_⟩:=(show ObjOk X.prog X.w H s.heap a (.dT kvs) from I.hok a _ ea)
    exact PySem.W.kia_one PySem.W.kitx_dict I.kIn ⟨o,h1,h2.1⟩ e (fun z=>nomatch z) h
  | @ins a C dx fs ea cl ha hn htk hm =>
    cases (show u = Value.ref a from rx)
    obtain ⟨mA,O,_⟩:=ins_get I.hok ea
    obtain ⟨od,J,_⟩:=O.look
    exact PySem.W.kia_one (PySem.W.kitx_own (cl.get _) cl.hd ha hn htk hm) I.kIn J e (fun z=>nomatch z) h
end
end L2
namespace L2
open PySem PySem.Spec PyProof.Rows
structure Room (k : Nat) (A : Around) : Prop where
  hd : A.handled = none
  dp : A.depth + 3 * k + 5 < recursionLimit
  un : A.units + 16 * k + 200 < cLine
theorem Room.mono {j k : Nat} {A : Around} (r : Room k A) (h : j ≤ k) : Room j A:=⟨r.hd,by have:=r.dp; omega,by have:=r.un; omega⟩
theorem Room.deeper {k : Nat} {A : Around} (r : Room (k + 1) A) (env : Env) : Room k (A.deeper env) :=
  ⟨r.hd,by have:=r.dp; show A.depth + 1 + 3 * k + 5 < _; omega,by have:=r.un; show A.units + 3 + 16 * k + 200 < _; omega⟩
theorem make_depth {A : Around} {C : Addr} {us : List Value} {kw : List (Str × Value)} : (A.under (.builtin "type.__call__" ⟨.ref C :: us,kw⟩)).depth = A.depth + 1:=by
  first | rfl | simp [Around.under,Code.weight,Code.isCreation,Code.isGuard,Code.isCaller,Code.frames,Code.isFrame,guardIds]
theorem make_units {A : Around} {C : Addr} {us : List Value} {kw : List (Str × Value)} : (A.under (.builtin "type.__call__" ⟨.ref C :: us,kw⟩)).units = A.units + 1:=by
  first | rfl | simp [Around.under,Code.cUnits,Code.frames,Code.isFrame]
theorem Room.make {k : Nat} {A : Around} (r : Room (k + 1) A) (C : Addr) (us : List Value) (kw : List (Str × Value)) : Room k (A.under (.builtin "type.__call__" ⟨.ref C :: us,kw⟩)) :=
  ⟨r.hd,by have:=r.dp; rw [make_depth]; omega,by have:=r.un; rw [make_units]; omega⟩
theorem Room.depth {k : Nat} {A : Around} (r : Room k A) : A.depth < recursionLimit:=by have:=r.dp; omega
def tNil : TA:=fun _ H Q=>Q [] H
def tCons (ta : TE) (tr : TA) : TA:=fun σ H Q=>ta σ H fun x H1=>tr σ H1 fun xs H2=>Q (x :: xs) H2
section
variable {X : Cx} {e : Expr} {es : List Expr} {te : TE} {t : TA} {pos : Pos}
theorem pa_nil : PA X [] tNil:=fun _ _ _ _ H Q I h=>Calls.spliced_nil ⟨[],H,I,.nil,h⟩
theorem pa_cons (ha : PE X e te) (hr : PA X es t) (hs : starEach (e :: es) X.env = (false,eval e X.env) :: starEach es X.env:=by rfl) : PA X (e :: es) (tCons te t):=by
  intro pos pins s σ H Q I h
  rw [hs]
  show wpAny _ _ (spliced ((false,eval e X.env) :: backTo pos (starEach es X.env))) _ _ s
  refine Calls.spliced_cons (thn (ha pins s σ H _ I h) fun u s1 ⟨x,H1,I1,r1,q1⟩=>?_)
  exact thn (hr pos pins s1 σ H1 _ I1 q1) fun us s2 ⟨xs,H2,I2,r2,q2⟩=>⟨x :: xs,H2,I2,.cons r1 r2,q2⟩
def tTup (t : TA) : TE:=fun σ H Q=>t σ H fun xs H1=>xs.length ≤ sizeLine∧∀ p,H1 p = none→Q (.ref p) (upd H1 p (.tup xs))
def tLst (t : TA) : TE:=fun σ H Q=>t σ H fun xs H1=>xs.length ≤ sizeLine∧∀ p,H1 p = none→Q (.ref p) (upd H1 p (.lst xs))
theorem pe_tup {x1} (h : PA X es t) : PE X (.Tuple es x1 pos) (tTup t):=by
  intro pins s σ H Q I hq
  refine wpAny_Tuple_spliced (thn (h pos pins s σ H _ I hq) fun us s1 ⟨xs,H1,I1,r,z,q⟩=>⟨by rw [← r.length]; exact z,?_⟩)
  have hf : H1 s1.heap.objs.size = none:=I1.hok.fresh (Nat.le_refl _)
  refine ⟨.ref s1.heap.objs.size,upd H1 s1.heap.objs.size (.tup xs),I1.laid (t':=s1.toks) (fun b u e=>Heap.get?_push_of_some _ e) (Nat.le_refl _) ?_,rfl,q _ hf⟩
  exact ⟨z,us,r,⟨_,Heap.get?_push_size _ rfl,rfl,_,rfl⟩⟩
theorem pe_lst (h : PA X es t) : PE X (.List es pos) (tLst t):=by
  intro pins s σ H Q I hq
  refine wpAny_List_spliced (thn (h pos pins s σ H _ I hq) fun us s1 ⟨xs,H1,I1,r,z,q⟩=>⟨by rw [← r.length]; exact z,?_⟩)
  have hf : H1 s1.heap.objs.size = none:=I1.hok.fresh (Nat.le_refl _)
  refine ⟨.ref s1.heap.objs.size,upd H1 s1.heap.objs.size (.lst xs),I1.laid (t':=s1.toks) (fun b u e=>Heap.get?_push_of_some _ e) (Nat.le_refl _) ?_,rfl,q _ hf⟩
  exact ⟨z,us,0,r,Heap.get?_push_size _ rfl⟩
end
abbrev Sp:=List V→Hp→VK→XK→Prop
abbrev CXT:=List Env→Hp→Shared→XK→Value→Shared→Prop
structure Env0 (P : Program) (w : World) (K : PySem.W.Frag) (mg : Str→Option Value) (base : Heap) (A : Around) (outer : List Env) (s : Shared) (H : Hp) : Prop where
  frames : A.frames = some outer
  mod : Mod K mg base
  bs : ∀ b o,base.get? b = some o→s.heap.get? b = some o∧H b = none
  bsz : base.objs.size ≤ s.heap.objs.size
  funs : s.heap.FunFrames base outer
  frf : ∀ b ∈ frs outer,H b = none
  hok : HOk P w H s.heap
  bare : AllBare s.gens
def CE (outer : List Env) (P : Program) (w : World) (H : Hp) (s : Shared) (Q : VK) (u : Value) (s' : Shared) : Prop :=
  ∃ v H',s'.os = s.os∧AllBare s'.gens∧Un (frs outer) [] H H' s.heap s'.heap∧HOk P w H' s'.heap∧RelV v u∧Q v H'
def CR (CX : CXT) (outer : List Env) (P : Program) (w : World) (H : Hp) (s : Shared) (Q : VK) (E : XK) (r : Result) (s' : Shared) : Prop :=
  match r with
  | .ok (.ret u)=>CE outer P w H s Q u s'
  | .ok _=>False
  | .error e=>CX outer H s E e s'
structure FnOk (P : Program) (w : World) (K : PySem.W.Frag) (mg : Str→Option Value) (base : Heap) (CX : CXT) (k : Nat) (f : Addr) (fd : FuncData) (ps : List Str) (sp : Sp) : Prop where
  len : ∀ vs H Q E,sp vs H Q E→vs.length = ps.length
  run : ∀ (A : Around) (outer : List Env) (s : Shared) (H : Hp) (args : Args) (us : List Value) (vs : List V) (Q : VK) (E : XK),Room k A→Env0 P w K mg base A outer s H→BindsTo s fd args (ps.zip us)→Vals vs us→sp vs H Q E →
    codeAny (model P w) A (.call (.ref f) args) (CR CX outer P w H s Q E) s
theorem FnOk.imp {P : Program} {w : World} {K : PySem.W.Frag} {mg : Str→Option Value} {base : Heap} {CX : CXT} {k : Nat} {f : Addr} {fd : FuncData} {ps : List Str} {sp sp' : Sp} (F : FnOk P w K mg base CX k f fd ps sp)
    (h : ∀ vs H Q E,sp' vs H Q E→sp vs H Q E) : FnOk P w K mg base CX k f fd ps sp' :=
  ⟨fun vs H Q E q=>F.len vs H Q E (h _ _ _ _ q),fun A outer s H args us vs Q E hr he hb hv hs=>F.run A outer s H args us vs Q E hr he hb hv (h _ _ _ _ hs)⟩
theorem Env0.make {P : Program} {w : World} {K : PySem.W.Frag} {mg : Str→Option Value} {base : Heap} {A : Around} {outer : List Env} {s : Shared} {H : Hp} (e : Env0 P w K mg base A outer s H) (C : Addr) (us : List Value) (kw : List (Str × Value)) :
    Env0 P w K mg base (A.under (.builtin "type.__call__" ⟨.ref C :: us,kw⟩)) outer s H:=⟨by first | exact e.frames | (simpa [Around.under,Code.envs,Code.isFrame,pushEnvs] using e.frames),e.mod,e.bs,e.bsz,e.funs,e.frf,e.hok,e.bare⟩
section
variable {X : Cx} {pins : List (Addr × Obj)} {σ : St} {H : Hp} {s s' : Shared}
theorem Inv.env0 (I : Inv X pins σ H s) : Env0 X.prog X.w X.K X.mg X.base X.A X.stack s H :=
  ⟨I.ok.frames,I.ok.mod,I.bs,Nat.le_trans I.ok.bsz I.sz,I.stack,I.stkFree,I.hok,I.bare⟩
theorem Inv.after {Q : VK} {u : Value} (I : Inv X pins σ H s) (h : CE X.stack X.prog X.w H s Q u s') : EP X pins σ Q u s':=by
  obtain ⟨v,H',os,bare,un,hok,r,q⟩:=h
  obtain ⟨hh,g,d,t,os'⟩:=s'
  obtain rfl : os' = s.os:=os
  exact ⟨v,H',I.call (h':=hh) (g':=g) (d':=d) (t':=t) (ch:=[]) un hok bare (fun b z=>absurd z (by simp)),r,q⟩
end
def tCall (sp : Sp) (dvs : List V) (E : XK) (t : TA) : TE:=fun σ H Q=>t σ H fun vs H1=>sp (vs ++ dvs) H1 Q E
def tMeth (C : Addr) (m : Str) (sp : Sp) (dvs : List V) (E : XK) (ta : TE) (t : TA) : TE:=fun σ H Q=>ta σ H fun x H1=>∃ a dx fs,x = .ref a∧H1 a = some (.ins C dx fs)∧fs.lookup m = none ∧
  t σ H1 fun vs H2=>sp (x :: (vs ++ dvs)) H2 Q E
def tMake (C : Addr) (sp : Sp) (dvs : List V) (E : XK) (t : TA) : TE:=fun σ H Q=>t σ H fun vs H1=>∀ x dx,H1 x = none→H1 dx = none→dx ≠ x →
  sp (.ref x :: (vs ++ dvs)) (upd (upd H1 dx (.own x)) x (.ins C dx [])) (fun v H2=>v = .non∧Q (.ref x) H2) E
def Binds (K : PySem.W.Frag) (fd : FuncData) (ps : List Str) (ds : List Value) : Prop :=
  ∀ (s : Shared) (us : List Value),K.In s.heap→(us ++ ds).length = ps.length→BindsTo s fd ⟨us,[]⟩ (ps.zip (us ++ ds))
theorem Binds.all {K : PySem.W.Frag} {fd : FuncData} {ps : List Str} (h : ∀ us : List Value,us.length = ps.length→bindArgs fd ⟨us,[]⟩ = pure (ps.zip us)) : Binds K fd ps []:=fun s us _ hl=>by
  rw [List.append_nil] at hl ⊢
  exact .of_eq (h us hl)
def Passes (CX : CXT) (X : Cx) (E : XK) : Prop:=∀ (pins : List (Addr × Obj)) (σ : St) (H : Hp) (s : Shared) (e : Value) (s' : Shared),Inv X pins σ H s→CX X.stack H s E e s'→X.xe e s'
section
variable {X : Cx} {CX : CXT} {k : Nat} {f C : Addr} {fd : FuncData} {ps : List Str} {sp : Sp} {dvs : List V} {ds : List Value} {E : XK} {x m : Str} {p pos apos : Pos} {e o : Expr} {es : List Expr} {ta : TE} {t : TA}
theorem run_fn {pins : List (Addr × Obj)} {σ : St} {H : Hp} {s : Shared} {Q : VK} {us : List Value} {vs : List V} (F : FnOk X.prog X.w X.K X.mg X.base CX k f fd ps sp) (hr : Room k X.A) (hb : Binds X.K fd ps ds) (hd : Vals dvs ds) (hx : Passes CX X E)
    (I : Inv X pins σ H s) (r : Vals vs us) (h : sp (vs ++ dvs) H Q E) : wpAny (model X.prog X.w) X.A (call (.ref f) us) (EP X pins σ Q) X.xe s:=by
  have r2 : Vals (vs ++ dvs) (us ++ ds):=r.append hd
  have hl : (us ++ ds).length = ps.length:=by rw [← r2.length]; exact F.len _ _ _ _ h
  refine wpAny_call (codeAny_mono (F.run X.A X.stack s H ⟨us,[]⟩ (us ++ ds) (vs ++ dvs) Q E hr I.env0 (hb s us I.kIn hl) r2 h) fun r s' hq=>?_)
  cases r with
  | error e=>exact hx pins σ H s e s' I hq
  | ok fl =>
    cases fl with
    | ret u=>exact I.after hq
    | next=>exact False.elim hq
    | brk=>exact False.elim hq
    | cont=>exact False.elim hq
theorem pe_call (F : FnOk X.prog X.w X.K X.mg X.base CX k f fd ps sp) (hr : Room k X.A) (hg : Gl X x) (hm : X.mg x = some (.ref f)) (hk : PySem.W.keepIn X.K (.ref f) = true) (hb : Binds X.K fd ps ds) (hd : Vals dvs ds) (hx : Passes CX X E)
    (ha : PA X (e :: es) t) (hdb : (x == ("__debug__" : Str)) = false:=by decide) (he : starEach (e :: es) X.env = (false,eval e X.env) :: starEach es X.env:=by rfl) (hpl : (backTo pos (starEach es X.env)).any (·.1) = false:=by rfl) :
    PE X (.Call (.Name x p) (e :: es) [] pos) (tCall sp dvs E t):=by
  intro pins s σ H Q I h
  refine wpAny_Call_Name_kw (ld_glob I hg hm ?_ hdb)
  refine PySem.W.callWith_K (h₀:=X.base) I.ok.mod.kin hk (thn (ha pos pins s σ H _ I h) fun us s1 ⟨vs,H1,I1,r,q⟩=>⟨I1.kIn,?_⟩) he hpl
  exact run_fn F hr hb hd hx I1 r q
theorem pe_meth {pl : Sem Bool} (he : PE X o ta) (c : Cls X.K C) (hm : Meth X.K C m f) (F : FnOk X.prog X.w X.K X.mg X.base CX k f fd ps sp) (hr : Room k X.A) (hb : Binds X.K fd ps ds) (hd : Vals dvs ds) (hx : Passes CX X E) (ha : PA X (e :: es) t)
    (hst : starEach (e :: es) X.env = (false,eval e X.env) :: starEach es X.env:=by rfl) (hpl : (backTo pos (starEach es X.env)).any (·.1) = false:=by rfl)
    (ht : eval (.Call (.Attribute o m apos) (e :: es) [] pos) X.env = (do
      let ov ← eval o X.env
      standAt apos.atName
      let (f,first) ← holding [ov] (getMethod ov m pl)
      callWith pos f first (backTo pos (starEach (e :: es) X.env)) (backToKw pos (keywordEach [] X.env))):=by rfl) :
    PE X (.Call (.Attribute o m apos) (e :: es) [] pos) (tMeth C m sp dvs E ta t):=by
  intro pins s σ H Q I h
  refine PySem.W.methodCall_KW (pl:=pl) (thn (he pins s σ H _ I h) fun u s1 ⟨x,H1,I1,rx,a,dx,fs,ex,ea,l,q⟩=>?_) ht
  subst ex
  obtain rfl : u = Value.ref a:=rx
  refine getmeth_ok I1 ea c hm l ?_
  refine PySem.W.callWith_K (first:=[.ref a]) (h₀:=X.base) I.ok.mod.kin hm.kp (thn (ha pos pins s1 σ H1 _ I1 q) fun us s2 ⟨vs,H2,I2,r,q2⟩=>⟨I2.kIn,?_⟩) hst hpl
  exact run_fn (us:=.ref a :: us) (vs:=.ref a :: vs) F hr hb hd hx I2 (.cons rfl r) q2
structure Mk (K : PySem.W.Frag) (C f : Addr) : Prop where
  makes : PySem.W.makesIn K C = true
  init : PySem.W.findIn K (.ref C) "__init__" = some (some (.ref f))
  fn : PySem.W.isFn K (.ref f) = true
  kp : PySem.W.keepIn K (.ref C) = true
theorem run_make {pins : List (Addr × Obj)} {σ : St} {H : Hp} {s : Shared} {Q : VK} {us : List Value} {vs : List V} (M : Mk X.K C f) (F : FnOk X.prog X.w X.K X.mg X.base CX k f fd ps sp) (hr : Room (k + 1) X.A) (hb : Binds X.K fd ps ds) (hd : Vals dvs ds)
    (hx : Passes CX X E) (I : Inv X pins σ H s) (r : Vals vs us)
    (h : ∀ x dx,H x = none→H dx = none→dx ≠ x→sp (.ref x :: (vs ++ dvs)) (upd (upd H dx (.own x)) x (.ins C dx [])) (fun v H2=>v = .non∧Q (.ref x) H2) E) :
    wpAny (model X.prog X.w) X.A (call (.ref C) us) (EP X pins σ Q) X.xe s:=by
  have hq:=h (s.heap.objs.size + 1) s.heap.objs.size (I.hok.fresh (Nat.le_succ _)) (I.hok.fresh (Nat.le_refl _)) (Nat.ne_of_lt (Nat.lt_succ_self _))
  have I2:=Inv.made (C:=C) I
  have r2 : Vals (V.ref (s.heap.objs.size + 1) :: (vs ++ dvs)) (Value.ref (s.heap.objs.size + 1) :: (us ++ ds)):=.cons rfl (r.append hd)
  have hl : (Value.ref (s.heap.objs.size + 1) :: us ++ ds).length = ps.length:=by
    have e:=r2.length
    rw [F.len _ _ _ _ hq] at e
    exact e.symm
  refine wpAny_call (make_map (f:=f) I.kIn M.makes M.init (beq_iff_eq.mp M.fn) (codeAny_mono (F.run _ X.stack _ _ ⟨Value.ref (s.heap.objs.size + 1) :: us,[]⟩ (Value.ref (s.heap.objs.size + 1) :: (us ++ ds)) _ _ E (hr.make C us [])
    (I2.env0.make C us []) (hb _ (Value.ref (s.heap.objs.size + 1) :: us) I2.kIn hl) r2 hq) fun r s' hq'=>?_))
  cases r with
  | error e=>exact hx pins σ _ _ e s' I2 hq'
  | ok fl =>
    cases fl with
    | ret u =>
      obtain ⟨v,H',I3,rv,ev,q3⟩:=I2.after hq'
      subst ev
      exact ⟨rv,⟨V.ref (s.heap.objs.size + 1),H',I3,rfl,q3⟩⟩
    | next=>exact False.elim hq'
    | brk=>exact False.elim hq'
    | cont=>exact False.elim hq'
theorem pe_make (M : Mk X.K C f) (F : FnOk X.prog X.w X.K X.mg X.base CX k f fd ps sp) (hr : Room (k + 1) X.A) (hg : Gl X x) (hm : X.mg x = some (.ref C)) (hb : Binds X.K fd ps ds) (hd : Vals dvs ds) (hx : Passes CX X E)
    (ha : PA X (e :: es) t) (hdb : (x == ("__debug__" : Str)) = false:=by decide) (he : starEach (e :: es) X.env = (false,eval e X.env) :: starEach es X.env:=by rfl) (hpl : (backTo pos (starEach es X.env)).any (·.1) = false:=by rfl) :
    PE X (.Call (.Name x p) (e :: es) [] pos) (tMake C sp dvs E t):=by
  intro pins s σ H Q I h
  refine wpAny_Call_Name_kw (ld_glob I hg hm ?_ hdb)
  refine PySem.W.callWith_K (h₀:=X.base) I.ok.mod.kin M.kp (thn (ha pos pins s σ H _ I h) fun us s1 ⟨vs,H1,I1,r,q⟩=>⟨I1.kIn,?_⟩) he hpl
  exact run_make M F hr hb hd hx I1 r q
end
section
variable {X : Cx} {CX : CXT} {k : Nat} {f C : Addr} {fd : FuncData} {ps ks : List Str} {sp : Sp} {E : XK} {x m : Str} {p pos apos kpos : Pos} {e o : Expr} {es : List Expr} {kws : List Keyword} {te ta : TE} {t tk : TA} {nm : Option Str}
variable {g : List Value→List Value→List Value} {gV : List V→List V→List V}
end
structure FnScope (N P : List Str) (sc : Scope) : Prop where
  kind : sc.kind = .function
  co : sc.isCoroutine = false
  gen : sc.isGenerator = false
  nd : N.Nodup
  pre : N.take P.length = P
  par : ∀ x ∈ P,sc.names.lookup x = some .local∨sc.names.lookup x = some .cell
  nofree : ∀ y ∈ sc.names,y.2 ≠ .free
theorem bindL_out {kindOf : Str→Option NameKind} {x : Str} : ∀ {binds : List (Str × Value)} {m : Str→Option Value},(∀ v,(x,v) ∉ binds)→bindL kindOf binds m x = m x
  | [],_,_=>rfl
  | (n,v) :: r,m,h=>by
    unfold bindL
    rw [bindL_out fun w hw=>h w (List.mem_cons_of_mem _ hw)]
    split
    · have : x ≠ n:=by rintro rfl; exact h v List.mem_cons_self
      simp [this]
    · rfl
theorem bindC_out {kindOf : Str→Option NameKind} {x : Str} : ∀ {binds : List (Str × Value)} {m : Str→Option Value},(∀ v,(x,v) ∉ binds)→bindC kindOf binds m x = m x
  | [],_,_=>rfl
  | (n,v) :: r,m,h=>by
    unfold bindC
    rw [bindC_out fun w hw=>h w (List.mem_cons_of_mem _ hw)]
    split
    · rfl
    · have : x ≠ n:=by rintro rfl; exact h v List.mem_cons_self
      simp [this]
theorem bindL_get {kindOf : Str→Option NameKind} {x : Str} {v : Value} : ∀ {P : List Str} {vs : List Value} {i : Nat} {m : Str→Option Value},P.Nodup→P[i]? = some x→vs[i]? = some v→kindOf x = some .local →
    bindL kindOf (P.zip vs) m x = some v
  | [],_,_,_,_,h,_,_=>by simp at h
  | _ :: _,[],_,_,_,_,h,_=>by simp at h
  | p :: P,w :: vs,0,m,nd,h1,h2,hk=>by
    simp at h1 h2; subst h1; subst h2
    show bindL kindOf ((p,w) :: P.zip vs) m p = _
    unfold bindL
    rw [bindL_out fun v hv=>(List.nodup_cons.mp nd).1 (List.of_mem_zip hv).1,if_pos hk]
    simp
  | p :: P,w :: vs,i + 1,m,nd,h1,h2,hk=>by
    show bindL kindOf ((p,w) :: P.zip vs) m x = _
    unfold bindL
    exact bindL_get (i:=i) (List.nodup_cons.mp nd).2 (by simpa using h1) (by simpa using h2) hk
theorem bindC_get {kindOf : Str→Option NameKind} {x : Str} {v : Value} : ∀ {P : List Str} {vs : List Value} {i : Nat} {m : Str→Option Value},P.Nodup→P[i]? = some x→vs[i]? = some v→kindOf x ≠ some .local →
    bindC kindOf (P.zip vs) m x = some v
  | [],_,_,_,_,h,_,_=>by simp at h
  | _ :: _,[],_,_,_,_,h,_=>by simp at h
  | p :: P,w :: vs,0,m,nd,h1,h2,hk=>by
    simp at h1 h2; subst h1; subst h2
    show bindC kindOf ((p,w) :: P.zip vs) m p = _
    unfold bindC
    rw [bindC_out fun v hv=>(List.nodup_cons.mp nd).1 (List.of_mem_zip hv).1,if_neg hk]
    simp
  | p :: P,w :: vs,i + 1,m,nd,h1,h2,hk=>by
    show bindC kindOf ((p,w) :: P.zip vs) m x = _
    unfold bindC
    exact bindC_get (i:=i) (List.nodup_cons.mp nd).2 (by simpa using h1) (by simpa using h2) hk
def start (N : List Str) (vs : List V) : St:=vs.map some ++ List.replicate (N.length - vs.length) none
def cxOf (CX : CXT) (P : Program) (w : World) (K : PySem.W.Frag) (mg : Str→Option Value) (base : Heap) (N : List Str) (qual : Str) (scope : Scope) (f : Addr) (cd : Value) (A : Around) (outer : List Env) (s : Shared) (H : Hp) (E : XK) : Cx where
  prog:=P
  w:=w
  K:=K
  mg:=mg
  base:=base
  A:=A.deeper (envOfC qual scope s.heap.objs.size f cd)
  N:=N
  s₀:=s
  H₀:=H
  env:=envOfC qual scope s.heap.objs.size f cd
  outer:=outer
  stack:=envOfC qual scope s.heap.objs.size f cd :: outer
  ex:=[]
  calm:=true
  fn:=fun _=>true
  pn:=[]
  xe:=fun e s'=>wpAny (model P w) (A.deeper (envOfC qual scope s.heap.objs.size f cd)) (leaving (envOfC qual scope s.heap.objs.size f cd) e) (fun _ s''=>CX outer H s E e s'') (fun e' s''=>CX outer H s E e' s'') s'
theorem cell_has {sc : Scope} {n : Nat} {x : Str} (h : sc.names.lookup x = some .cell) : ∃ c,(cellsFrom n sc.names []).lookup x = some c:=by
  have q:=PySem.W.cellsFrom_some sc.names n [] (.inl h)
  exact Option.isSome_iff_exists.mp q
theorem inv_start {CX : CXT} {P : Program} {w : World} {K : PySem.W.Frag} {mg : Str→Option Value} {base : Heap} {N ps : List Str} {qual : Str} {scope : Scope} {f : Addr} {cd : Value} {A : Around} {outer : List Env} {s s1 : Shared} {H : Hp} {E : XK} {us : List Value} {vs : List V}
    (S : FnScope N ps scope) (hd : A.handled = none) (e0 : Env0 P w K mg base A outer s H) (hl : vs.length = ps.length) (r : Vals vs us)
    (x : InCallC s s.heap.objs.size (bindL (envOfC qual scope s.heap.objs.size f cd).kindOf (ps.zip us) fun _=>none) (cellsFrom (s.heap.objs.size + 1) scope.names []) (bindC (envOfC qual scope s.heap.objs.size f cd).kindOf (ps.zip us) fun _=>none) s1) :
    Inv (cxOf CX P w K mg base N qual scope f cd A outer s H E) [] (start N vs) H s1:=by
  have hpl : ps.length ≤ N.length:=by have:=congrArg List.length S.pre; rw [List.length_take] at this; omega
  obtain ⟨h1,tk,rfl,hk⟩:=x.done
  have noA : ∀ b : Addr,b ∉ (cxOf CX P w K mg base N qual scope f cd A outer s H E).ex:=fun b z=>absurd (show b ∈ ([] : List Addr) from z) (by simp)
  refine ⟨⟨e0.mod,S.kind,rfl,rfl,Nat.le_refl _,fun y z c h1 h2=>?_,fun y hy=>?_,fun y c _ h=>?_,fun _=>hd,Around.frames_deeper e0.frames,.inr ⟨rfl,rfl⟩,fun b z=>absurd z (noA b),e0.bs,e0.bsz,fun b _ _=>noA b,fun b z=>absurd z (noA b),e0.funs,e0.frf⟩,
    rfl,e0.bare,Un.kept hk,⟨_,x.toInCall.ns,fun i y v h1 h2 h3=>?_⟩,fun y c h=>⟨_,x.cell y c h⟩,e0.hok.fresh (Nat.le_refl _),fun y c h=>?_,fun p hp=>absurd (show p ∈ ([] : List (Addr × Obj)) from hp) (by simp),e0.hok.kept hk,?_⟩
  · exact name_of_addr x.apart (PySem.mem_of_lookup h1) (PySem.mem_of_lookup h2)
  · have hy : scope.names.lookup y = some .cell∨scope.names.lookup y = some .free:=hy
    rcases hy with hy | hy
    · exact cell_has hy
    · exact absurd rfl (S.nofree _ (PySem.mem_of_lookup hy))
  · exact Nat.le_of_lt (x.above y c (PySem.mem_of_lookup h))
  · have hi : i < vs.length:=by
      unfold start at h2
      by_cases hi : i < vs.length
      · exact hi
      · rw [List.getElem?_append_right (by simpa using hi)] at h2
        rw [List.getElem?_replicate] at h2
        split at h2 <;> cases h2
    have ha : vs[i]? = some v:=by
      unfold start at h2
      rw [List.getElem?_append_left (by simpa using hi),List.getElem?_map] at h2
      cases e : vs[i]? with
      | none=>rw [e] at h2; cases h2
      | some a=>rw [e] at h2; cases h2; rfl
    obtain ⟨u,hu,rv⟩:=r.get ha
    have hp : ps[i]? = some y:=by
      rw [← S.pre,List.getElem?_take_of_lt (by omega)]; exact h1
    have ndP : ps.Nodup:=by rw [← S.pre]; exact S.nd.sublist (List.take_sublist _ _)
    refine ⟨u,rv,?_⟩
    rcases S.par y (List.mem_of_getElem? hp) with k | k
    · exact .inl ⟨k,bindL_get ndP hp hu k⟩
    · obtain ⟨c,e⟩:=cell_has (n:=s.heap.objs.size + 1) k
      refine .inr ⟨.inl k,c,e,?_⟩
      have q:=x.cell y c e
      rw [bindC_get ndP hp hu (by show scope.names.lookup y ≠ _; rw [k]; decide)] at q
      exact q
  · exact e0.hok.fresh (Nat.le_of_lt (x.above y c (PySem.mem_of_lookup h)))
  · unfold start
    show _ = N.length
    rw [List.length_append,List.length_map,List.length_replicate]
    omega
theorem fn_of {CX : CXT} {P : Program} {w : World} {K : PySem.W.Frag} {mg : Str→Option Value} {base : Heap} {k : Nat} {f : Addr} {name qual : Str} {params : Arguments} {body : List Stmt} {scope : Scope} {dV kV doc pm cdv ct oc : Value} {an od : Option Addr}
    {osl : Array (Option Value)} {N ps : List Str} {sp : Sp} (lk : K.lookup f = some ⟨oc,od,.func (PySem.W.fnOf name qual params body scope dV kV doc pm an cdv ct),osl⟩) (hcd : PySem.W.codeIn K cdv qual = true) (S : FnScope N ps scope)
    (len : ∀ vs H Q E,sp vs H Q E→vs.length = ps.length)
    (hbody : ∀ (A : Around) (outer : List Env) (s : Shared) (H : Hp) (vs : List V) (Q : VK) (E : XK),Room k (A.deeper (envOfC qual scope s.heap.objs.size f cdv))→sp vs H Q E →
      ∃ t,PSs (cxOf CX P w K mg base N qual scope f cdv A outer s H E) body t∧t { nx:=fun _ H'=>Q .non H',rt:=Q } (start N vs) H) :
    FnOk P w K mg base CX (k + 1) f (PySem.W.fnOf name qual params body scope dV kV doc pm an cdv ct) ps sp:=by
  refine ⟨len,fun A outer s H args us vs Q E hr e0 hb r hsp=>?_⟩
  have hl:=len _ _ _ _ hsp
  have KX : K.In s.heap:=e0.mod.kin.keeps fun b o e=>(e0.bs b o e).1
  have lim : s.heap.NoLimit:=e0.mod.nolimit.keeps fun b o e=>(e0.bs b o e).1
  have hkind : ∀ y ∈ ps.zip us,scope.names.lookup y.1 = some .local∨(scope.names.lookup y.1 = some .cell∧((cellsFrom (s.heap.objs.size + 1) scope.names []).lookup y.1).isSome = true):=fun ⟨n,v⟩ hy=>by
    rcases S.par n (List.of_mem_zip hy).1 with q | q
    · exact .inl q
    · exact .inr ⟨q,PySem.W.cellsFrom_some _ _ _ (.inl q)⟩
  refine codeAny_call_function hr.depth (KX _ _ lk) rfl S.co S.gen rfl (PySem.W.codeRec_of KX hcd) (hb _ _ _ _ ?_)
  refine wpAny_newFunctionEnv_cells S.kind hkind fun env he s1 x=>?_
  subst he
  refine ⟨lim.keeps x.toInCall.keep,codeAny_func ?_⟩
  obtain ⟨t,ht,hq⟩:=hbody A outer s H vs Q E (hr.deeper _) hsp
  have I : Inv (cxOf CX P w K mg base N qual scope f cdv A outer s H E) [] (start N vs) H s1:=inv_start S hr.hd e0 hl r x
  refine wpAny_mono (ht [] s1 (start N vs) H _ I hq) (fun fl s' hs=>?_) fun e s' hs=>hs
  have fin : ∀ {σ' : St} {H' : Hp} {v : V} {u : Value},Inv (cxOf CX P w K mg base N qual scope f cdv A outer s H E) [] σ' H' s'→RelV v u→Q v H'→CE outer P w H s Q u s' :=
    fun {σ' H' v u} J rv q=>⟨v,H',J.os,J.bare,J.base,J.hok,rv,q⟩
  cases fl with
  | ret u =>
    obtain ⟨v,σ',H',J,rv,q⟩:=hs
    exact fin J rv q
  | next =>
    obtain ⟨σ',H',J,q⟩:=hs
    exact fin (v:=V.non) (u:=Value.none) J rfl q
  | brk =>
    obtain ⟨_,_,_,q⟩:=hs
    exact False.elim q
  | cont =>
    obtain ⟨_,_,_,q⟩:=hs
    exact False.elim q
end L2
namespace L2
open PySem PySem.Spec PyProof.Rows
section
variable {X : Cx} {x : Str} {p pos : Pos} {e : Expr} {es : List Expr} {t : TA} {id T : String} {r : List V→Hp→VK→Prop}
def tCB (r : List V→Hp→VK→Prop) (t : TA) : TE:=fun σ H Q=>t σ H fun vs H1=>r vs H1 Q
theorem pe_callB (hc : CallR X (.builtin id) r) (hg : Gl X x) (hm : X.mg x = none) (hv : bootBuiltins x = some (.builtin id)) (ha : PA X (e :: es) t) (hn : x ≠ "__name__" := by decide) (hdb : (x == ("__debug__" : Str)) = false:=by decide)
    (he : starEach (e :: es) X.env = (false,eval e X.env) :: starEach es X.env:=by rfl) (hpl : (backTo pos (starEach es X.env)).any (·.1) = false:=by rfl) : PE X (.Call (.Name x p) (e :: es) [] pos) (tCB r t):=by
  intro pins s σ H Q I h
  refine wpAny_Call_Name_kw (ld_blt I hg hm hv ?_ hn hdb)
  exact PyProof.Rows.callWith_builtin1 (thn (ha pos pins s σ H _ I h) fun us s1 ⟨vs,H1,I1,r1,q1⟩=>hc pins s1 σ H1 vs us Q I1 r1 q1) he hpl
theorem pe_callTy (hc : CallR X (.type T) r) (hg : Gl X x) (hm : X.mg x = none) (hv : bootBuiltins x = some (.type T)) (ha : PA X (e :: es) t) (hn : x ≠ "__name__" := by decide) (hdb : (x == ("__debug__" : Str)) = false:=by decide)
    (he : starEach (e :: es) X.env = (false,eval e X.env) :: starEach es X.env:=by rfl) (hpl : (backTo pos (starEach es X.env)).any (·.1) = false:=by rfl) : PE X (.Call (.Name x p) (e :: es) [] pos) (tCB r t):=by
  intro pins s σ H Q I h
  refine wpAny_Call_Name_kw (ld_blt I hg hm hv ?_ hn hdb)
  exact PyProof.Rows.callWith_type1 (thn (ha pos pins s σ H _ I h) fun us s1 ⟨vs,H1,I1,r1,q1⟩=>hc pins s1 σ H1 vs us Q I1 r1 q1) he hpl
end
end L2
namespace HT
open PySem PyProof.Rows
section
open PySem.SeqAt
open PySem.AutoSeq1 (wpAny_loadPart')
open PySem.MeetsSeq PySem.MeetsSeq2 PySem.MeetsSeq3
end
section
variable {prog : Program} {w : World} {A : Around} {E : Value→Shared→Prop} {s : Shared}
def sIx (n d : Nat) : Option Int→Nat
  | none=>d
  | some v=>if v < 0 then (v + (n : Int)).toNat else min v.toNat n
theorem sIx_le (n d : Nat) (hd : d ≤ n) (o : Option Int) : sIx n d o ≤ n:=by
  cases o with
  | none=>exact hd
  | some v =>
    show (if v < 0 then (v + (n : Int)).toNat else min v.toNat n) ≤ n
    by_cases hv : v < 0
    · rw [if_pos hv]; omega
    · rw [if_neg hv]; exact Nat.min_le_right _ _
theorem clip_eq (v : Int) (n d : Nat) : (if v < 0 then max (v + (n : Int)) 0 else min v (n : Int)) = ((sIx n d (some v) : Nat) : Int):=by
  show (if v < 0 then max (v + (n : Int)) 0 else min v (n : Int)) = (((if v < 0 then (v + (n : Int)).toNat else min v.toNat n) : Nat) : Int)
  by_cases hv : v < 0
  · simp only [if_pos hv]; omega
  · simp only [if_neg hv]; omega
theorem adjust_gen (lo hi : Option Int) (n : Nat) : Builtin.Slice.sliceAdjust lo hi 1 (n : Int) = (((sIx n 0 lo : Nat) : Int),((sIx n n hi : Nat) : Int)):=by
  have h1 : ¬ ((1 : Int) < 0):=by omega
  unfold Builtin.Slice.sliceAdjust
  simp only [h1,if_false]
  refine Prod.ext ?_ ?_
  · cases lo with
    | none=>rfl
    | some v=>exact clip_eq v n 0
  · cases hi with
    | none=>rfl
    | some v=>exact clip_eq v n n
theorem places_gen (i j : Nat) : Builtin.Slice.slicePlaces (i : Int) (j : Int) 1 = j - i:=by
  unfold Builtin.Slice.slicePlaces
  have h1 : (1 : Int) > 0:=by omega
  simp only [h1,if_true,Int.ediv_one]
  split <;> omega
theorem slicePart_ {v : Value} {o : Option Int} {Q : Option Int→Shared→Prop} (p : IsPart v o) (h : Q o s) : wpAny (model prog w) A (Builtin.Slice.slicePartIndex v) Q E s:=by
  cases p with
  | none=>exact slicePart_none h
  | int i t=>exact slicePart_int h
theorem sliceApplied_gen {sl : Addr} {vl vu : Value} {lo hi : Option Int} {n : Nat} {Q : Int × Int × Nat→Shared→Prop} (hs : s.heap.IsSliceOf sl vl vu .none) (pl : IsPart vl lo) (pu : IsPart vu hi)
    (h : Q (((sIx n 0 lo : Nat) : Int),1,sIx n n hi - sIx n 0 lo) s) : wpAny (model prog w) A (Builtin.Slice.sliceApplied (.ref sl) (pure (n : Int))) Q E s:=by
  obtain ⟨os,hos,hcs,hds⟩:=id hs
  unfold Builtin.Slice.sliceApplied Builtin.Slice.sliceFields
  refine wpAny_bind (wpAny_bind (wpAny_field hos hds (x:=vl) rfl (wpAny_bind (wpAny_field hos hds (x:=vu) rfl (wpAny_bind (wpAny_field hos hds (x:=.none) rfl (wpAny_pure ?_)))))))
  refine wpAny_bind (slicePart_none ?_)
  show wpAny _ _ (if ((1 : Int) == 0) = true then _ else _) _ _ s
  rw [if_neg (by decide)]
  refine wpAny_bind (slicePart_ pl (wpAny_bind (slicePart_ pu (wpAny_bind (wpAny_pure ?_)))))
  show wpAny _ _ (match Builtin.Slice.sliceAdjust lo hi 1 (n : Int) with | (lo,hi)=>pure (lo,(1 : Int),Builtin.Slice.slicePlaces lo hi 1)) _ _ s
  rw [adjust_gen lo hi n]
  show wpAny _ _ (pure (((sIx n 0 lo : Nat) : Int),(1 : Int),Builtin.Slice.slicePlaces ((sIx n 0 lo : Nat) : Int) ((sIx n n hi : Nat) : Int) 1)) _ _ s
  rw [places_gen]
  exact wpAny_pure h
theorem pick_gen (xs : Array Value) (i k : Nat) : ((List.range k).filterMap fun (m : Nat)=>xs[((i : Int) + (m : Int) * 1).toNat]?).toArray = ((xs.toList.drop i).take k).toArray:=by
  have e : (fun (m : Nat)=>xs[((i : Int) + (m : Int) * 1).toNat]?) = fun m=>xs[i + m]?:=by
    funext m
    have : ((i : Int) + (m : Int) * 1).toNat = i + m:=by omega
    rw [this]
  rw [e]
  have:=pick_run xs i k
  rw [List.filterMap_map] at this
  have e2 : ((fun x=>xs[x]?) ∘ fun x=>i + x) = fun m=>xs[i + m]?:=rfl
  rw [e2] at this
  rw [this]
theorem getItem_tuple_cut {t sl : Addr} {items : Array Value} {vl vu : Value} {lo hi : Option Int} {Q : Value→Shared→Prop} (ht : IsTup s.heap t items) (hs : s.heap.IsSliceOf sl vl vu .none) (pl : IsPart vl lo) (pu : IsPart vu hi)
    (hw : ¬ (sIx items.size 0 lo = 0∧sIx items.size items.size hi = items.size))
    (h : Q (.ref s.heap.objs.size) { s with heap:=s.heap.push { cls:=.type "tuple",data:=.seq ((items.toList.drop (sIx items.size 0 lo)).take (sIx items.size items.size hi - sIx items.size 0 lo)).toArray } })
    (hsz : items.size ≤ sizeLine) : wpAny (model prog w) A (getItem (.ref t) (.ref sl)) Q E s:=by
  have htake : sizeOk (.seq ((items.toList.drop (sIx items.size 0 lo)).take (sIx items.size items.size hi - sIx items.size 0 lo)).toArray):=by
    show ((items.toList.drop (sIx items.size 0 lo)).take (sIx items.size items.size hi - sIx items.size 0 lo)).toArray.size ≤ sizeLine
    rw [List.size_toArray,List.length_take,List.length_drop,Array.length_toList]
    omega
  have hj : sIx items.size items.size hi ≤ items.size:=sIx_le _ _ (Nat.le_refl _) hi
  obtain ⟨os,hos,hcs,hds⟩:=id hs
  have hTs : s.TypeIs (.ref sl) "slice" := ⟨os,hos,hcs⟩
  unfold getItem
  try with_reducible refine wpAny_holding ?_
  first | refine wpAny_bind (wpAny_pure ?_) | skip
  refine wpAny_bind (wpAny_sequenceKey ht.typeIs (by decide) ?_)
  refine wpAny_bind (wpAny_callSpecial?_slot (name:=Str.ofString "__getitem__") ht.typeIs PyProof.Rows.slot_tuple_getitem
    (wpAny_call_entry PyProof.Rows.slot_tuple_getitem ht.typeIs entry_tuple_getitem ?_ (args_tuple_getitem _ _)))
  show wpAny _ _ (Builtin.Tuple.tupleItemsOf (.ref t) >>= _) _ _ s
  refine wpAny_bind (tupleItemsOf_ ht ?_)
  refine wpAny_bind (wpAny_typeOf hTs ?_)
  rw [if_pos (by decide)]
  refine wpAny_bind (sliceApplied_gen hs pl pu ?_)
  have hno : ¬ ((((sIx items.size 0 lo : Nat) : Int) == 0 && (1 : Int) == 1 && (sIx items.size items.size hi - sIx items.size 0 lo) == items.size) = true):=by
    intro q
    rw [Bool.and_eq_true,Bool.and_eq_true] at q
    have q1 : ((sIx items.size 0 lo : Nat) : Int) = 0:=eq_of_beq q.1.1
    have q2 : sIx items.size items.size hi - sIx items.size 0 lo = items.size:=eq_of_beq q.2
    exact hw ⟨by omega,by omega⟩
  show wpAny _ _ (if (((sIx items.size 0 lo : Nat) : Int) == 0 && (1 : Int) == 1 && (sIx items.size items.size hi - sIx items.size 0 lo) == items.size) = true then _ else _) _ _ s
  rw [if_neg hno,pick_gen]
  first
    | exact wpAny_bind (m:=Builtin.Tuple.tupleExact _) (wpAny_newObj_type (wpAny_pure ⟨_,rfl,wpAny_pure h⟩) htake)
    | exact wpAny_bind (m:=Builtin.Tuple.tupleExact _) (wpAny_newObj_type (wpAny_bind (wpAny_pure (wpAny_pure ⟨_,rfl,wpAny_pure h⟩))) htake)
    | exact wpAny_bind (wpAny_bind (m:=Builtin.Tuple.tupleExact _) (wpAny_newObj_type (wpAny_pure (wpAny_pure ⟨_,rfl,wpAny_pure h⟩)) htake))
    | exact wpAny_bind (wpAny_bind (m:=Builtin.Tuple.tupleExact _) (wpAny_newObj_type (wpAny_pure ⟨_,rfl,wpAny_pure h⟩) htake))
end
end HT
namespace L2
open PySem PySem.Spec PyProof.Rows
abbrev TO:=St→Hp→(Option Int→Hp→Prop)→Prop
def PO (X : Cx) (e : Option Expr) (t : TO) : Prop :=
  ∀ (pins : List (Addr × Obj)) (s : Shared) (σ : St) (H : Hp) (Q : Option Int→Hp→Prop),Inv X pins σ H s→t σ H Q →
    wpAny (model X.prog X.w) X.A (evalPart e X.env) (fun u s'=>∃ o H',Inv X pins σ H' s'∧IsPart u o∧Q o H') X.xe s
def tNoPart : TO:=fun _ H Q=>Q none H
def tPart (t : TE) : TO:=fun σ H Q=>t σ H fun x H1=>∃ i,x = .int i∧Q (some i) H1
section
variable {X : Cx} {e : Expr} {te : TE} {lo hi : Option Expr} {tl th : TO} {pos p2 : Pos}
theorem po_none : PO X none tNoPart:=by
  intro pins s σ H Q I h
  rw [evalPart_none]
  exact wpAny_pure ⟨none,H,I,.none,h⟩
theorem po_some (h : PE X e te) : PO X (some e) (tPart te):=by
  intro pins s σ H Q I hw
  rw [evalPart_some]
  refine thn (h pins s σ H _ I hw) fun u s1 ⟨x,H1,I1,r1,q1⟩=>?_
  obtain ⟨i,rfl,q⟩:=q1
  obtain ⟨t,rfl⟩:=r1
  exact ⟨some i,H1,I1,.int i t,q⟩
def SlR (X : Cx) (r : V→Option Int→Option Int→Hp→VK→Prop) : Prop :=
  ∀ (pins : List (Addr × Obj)) (s : Shared) (σ : St) (H : Hp) (x : V) (v vl vu : Value) (lo hi : Option Int) (sl : Addr) (Q : VK),Inv X pins σ H s→RelV x v→s.heap.IsSliceOf sl vl vu .none→IsPart vl lo→IsPart vu hi→r x lo hi H Q →
    ∃ T id,typeLookup (.type T) "__getitem__" = pure (some (.builtin id))∧s.TypeIs v T∧wpAny (model X.prog X.w) X.A (getItem v (.ref sl)) (EP X pins σ Q) X.xe s
def tSl (r : V→Option Int→Option Int→Hp→VK→Prop) (te : TE) (tl th : TO) : TE:=fun σ H Q=>te σ H fun x H1=>tl σ H1 fun l H2=>th σ H2 fun u H3=>r x l u H3 Q
theorem pe_slice {r : V→Option Int→Option Int→Hp→VK→Prop} (hr : SlR X r) (he : PE X e te) (hl : PO X lo tl) (hu : PO X hi th) : PE X (.Subscript e (.Slice lo hi none p2) pos) (tSl r te tl th):=by
  intro pins s σ H Q I h
  refine Subscript_ (thn (he pins s σ H _ I h) fun v s1 ⟨x,H1,I1,r1,q1⟩=>?_)
  refine wpAny_Slice (thn (hl pins s1 σ H1 _ I1 q1) fun vl s2 ⟨l,H2,I2,pl,q2⟩=>thn (hu pins s2 σ H2 _ I2 q2) fun vu s3 ⟨u,H3,I3,pu,q3⟩=>?_)
  rw [evalPart_none]
  refine wpAny_pure ?_
  have I4 : Inv X pins σ H3 { s3 with heap:=s3.heap.push { cls:=.type "slice",data:=.fields #[vl,vu,.none] } }:=I3.kept (t':=s3.toks) fun b ob q=>Heap.get?_push_of_some _ q
  obtain ⟨T,id,hT,ht,hg⟩:=hr pins { s3 with heap:=s3.heap.push { cls:=.type "slice",data:=.fields #[vl,vu,.none] } } σ H3 x v vl vu l u s3.heap.objs.size Q I4 r1 (Heap.IsSliceOf.new ..) pl pu q3
  show wpAny (model X.prog X.w) X.A (subscriptTail e (.Slice lo hi none p2) v (.ref s3.heap.objs.size)) (EP X pins σ Q) X.xe { s3 with heap:=s3.heap.push { cls:=.type "slice",data:=.fields #[vl,vu,.none] } }
  exact tail_any (ops:=[.ref s3.heap.objs.size,v]) ht hT hg (by with_unfolding_all rfl)
def cutV (xs : List V) (lo hi : Option Int) : List V:=(xs.drop (HT.sIx xs.length 0 lo)).take (HT.sIx xs.length xs.length hi - HT.sIx xs.length 0 lo)
theorem cutV_length (xs : List V) (lo hi : Option Int) : (cutV xs lo hi).length ≤ xs.length:=by
  unfold cutV
  rw [List.length_take,List.length_drop]
  omega
def rSlT (K : PySem.W.Frag) : V→Option Int→Option Int→Hp→VK→Prop:=fun x lo hi H Q=>∃ a xs,x = .ref a∧SqT K H a xs ∧
  ¬ (HT.sIx xs.length 0 lo = 0∧HT.sIx xs.length xs.length hi = xs.length)∧∀ p,H p = none→Q (.ref p) (upd H p (.tup (cutV xs lo hi)))
theorem sl_tup : SlR X (rSlT X.K):=by
  intro pins s σ H x v vl vu lo hi sl Q I rx hs pl pu h
  obtain ⟨a,xs,rfl,hx,hw,q⟩:=h
  cases rx
  obtain ⟨its,r,ht,hz⟩:=I.tuple hx
  have hlen : its.toArray.size = xs.length:=by rw [List.size_toArray]; exact r.length.symm
  refine ⟨"tuple",_,PyProof.Rows.slot_tuple_getitem.lookup,ht.typeIs,?_⟩
  refine HT.getItem_tuple_cut ht hs pl pu (by rw [hlen]; exact hw) ?_ (by rw [hlen]; exact hz)
  rw [hlen]
  refine ⟨.ref s.heap.objs.size,_,I.laid (t':=s.toks) (o:=.tup (cutV xs lo hi)) (fun b ob q=>Heap.get?_push_of_some _ q) (Nat.le_refl _) ?_,rfl,q _ (I.hok.fresh (Nat.le_refl _))⟩
  exact ⟨Nat.le_trans (cutV_length xs lo hi) hz,_,(r.drop (HT.sIx xs.length 0 lo)).take (HT.sIx xs.length xs.length hi - HT.sIx xs.length 0 lo),IsTup.new _ _⟩
end
end L2
namespace L2
open PySem PySem.Spec PyProof.Rows
def ixN (n : Nat) (i : Int) : Option Nat:=if 0 ≤ i then (if i < n then some i.toNat else none) else if -(n : Int) ≤ i then some (i + n).toNat else none
def atI {α : Type} (xs : List α) (i : Int) : Option α:=(ixN xs.length i).bind fun j=>xs[j]?
theorem ixN_seq {n : Nat} {i : Int} {j : Nat} (h : ixN n i = some j) : seqIndex? i n = some j∧j < n∧-(n : Int) ≤ i∧i < n:=by
  unfold ixN at h
  by_cases h0 : 0 ≤ i
  · rw [if_pos h0] at h
    by_cases h1 : i < n
    · rw [if_pos h1] at h
      have e : i.toNat = j:=Option.some.inj h
      exact ⟨by rw [seqIndex_of h0 h1,e],by omega,by omega,h1⟩
    · rw [if_neg h1] at h; cases h
  · rw [if_neg h0] at h
    by_cases h1 : -(n : Int) ≤ i
    · rw [if_pos h1] at h
      have e : (i + n).toNat = j:=Option.some.inj h
      exact ⟨by rw [seqIndex_neg (by omega) h1,e],by omega,h1,by omega⟩
    · rw [if_neg h1] at h; cases h
theorem atI_get {α : Type} {xs : List α} {i : Int} {v : α} (h : atI xs i = some v) : ∃ j,seqIndex? i xs.length = some j∧xs[j]? = some v∧j < xs.length∧-(xs.length : Int) ≤ i∧i < xs.length:=by
  unfold atI at h
  cases e : ixN xs.length i with
  | none=>rw [e] at h; cases h
  | some j =>
    rw [e] at h
    obtain ⟨h1,h2,h3,h4⟩:=ixN_seq e
    exact ⟨j,h1,h,h2,h3,h4⟩
theorem atI_nat {α : Type} {xs : List α} {j : Nat} {v : α} (h : xs[j]? = some v) : atI xs (j : Int) = some v:=by
  have hj : j < xs.length:=(List.getElem?_eq_some_iff.mp h).1
  have e : ixN xs.length (j : Int) = some j:=by
    unfold ixN
    rw [if_pos (by omega),if_pos (by omega)]; simp
  unfold atI; rw [e]; exact h
def PlainIx (b : Expr) : Prop:=∀ o i,subscripted b false o i = operate [o,i] (getItem o i)
def IxR (X : Cx) (r : R2) : Prop :=
  ∀ (value slice : Expr) (pins : List (Addr × Obj)) (s : Shared) (σ : St) (H : Hp) (x y : V) (v u : Value) (Q : VK),Inv X pins σ H s→RelV x v→RelV y u→r x y H Q →
    subscripted slice false v u = operate [v,u] (getItem v u)→wpAny (model X.prog X.w) X.A (subscriptTail value slice v u) (EP X pins σ Q) X.xe s
def MtR (X : Cx) (id : String) (r : V→List V→Hp→VK→Prop) : Prop :=
  ∀ (pins : List (Addr × Obj)) (s : Shared) (σ : St) (H : Hp) (x : V) (xs : List V) (v : Value) (us : List Value) (Q : VK),Inv X pins σ H s→RelV x v→Vals xs us→r x xs H Q →
    wpAny (model X.prog X.w) X.A (call (.builtin id) (v :: us)) (EP X pins σ Q) X.xe s
section
variable {X : Cx} {a b : Expr} {ta tb : TE} {pos : Pos}
theorem pe_ix {r : R2} (hr : IxR X r) (ha : PE X a ta) (hb : PE X b tb) (hs : PlainIx b) : PE X (.Subscript a b pos) (tOp r ta tb):=by
  intro pins s σ H Q I h
  exact Subscript_ (binT ha hb I h fun v u s2 x y H2 I2 rx ry q=>hr a b pins s2 σ H2 x y v u Q I2 rx ry q (hs _ _))
def rIxL (K : PySem.W.Frag) : R2:=fun x y H Q=>∃ p xs i v,x = .ref p∧y = .int i∧SqL K H p xs∧atI xs i = some v∧Q v H
def rIxT (K : PySem.W.Frag) : R2:=fun x y H Q=>∃ p xs i v,x = .ref p∧y = .int i∧SqT K H p xs∧atI xs i = some v∧Q v H
theorem ix_list : IxR X (rIxL X.K):=by
  intro value slice pins s σ H x y v u Q I rx ry h hs
  obtain ⟨p,xs,i,z,rfl,rfl,hq,he,q⟩:=h
  cases rx
  obtain ⟨t,rfl⟩:=ry
  obtain ⟨its,r,pl,hz⟩:=I.list hq
  obtain ⟨j,h1,h2,h3,h4,h5⟩:=atI_get he
  obtain ⟨w,ew,rw'⟩:=r.get h2
  have hl:=r.length
  have hn:=line63
  have fin : EP X pins σ Q w s:=⟨z,H,I,rw',q⟩
  by_cases h0 : 0 ≤ i
  · have hj : i.toNat = j:=by
      rw [seqIndex_of h0 h5] at h1
      exact Option.some.inj h1
    exact item_listR pl.isList h0 (by omega) (by rw [hj]; simpa using ew) fin hs
  · have hj : (i + (its.toArray.size : Int)).toNat = j:=by
      rw [seqIndex_neg (by omega) h4] at h1
      rw [List.size_toArray,← hl]
      exact Option.some.inj h1
    exact subscriptTail_builtinR (x:=w) pl.isList.typeIs slot_list_getitem.lookup
      (wpAny_getItem_list_neg (Q:=fun r s'=>r = w∧EP X pins σ Q r s') pl.isList (by omega) (by rw [List.size_toArray] <;> omega) (by omega) (by rw [hj]; simpa using ew) ⟨rfl,fin⟩) hs
theorem ix_tup : IxR X (rIxT X.K):=by
  intro value slice pins s σ H x y v u Q I rx ry h hs
  obtain ⟨p,xs,i,z,rfl,rfl,hq,he,q⟩:=h
  cases rx
  obtain ⟨t,rfl⟩:=ry
  obtain ⟨its,r,pl,hz⟩:=I.tuple hq
  obtain ⟨j,h1,h2,h3,h4,h5⟩:=atI_get he
  obtain ⟨w,ew,rw'⟩:=r.get h2
  have hl:=r.length
  have hn:=line63
  have fin : EP X pins σ Q w s:=⟨z,H,I,rw',q⟩
  exact subscriptTail_builtinR (x:=w) pl.typeIs slot_tuple_getitem.lookup
    (getItem_tuple (j:=j) (Q:=fun r s'=>r = w∧EP X pins σ Q r s') pl (by omega) (by omega) (by rw [List.size_toArray,← hl]; exact h1) (by simpa using ew) ⟨rfl,fin⟩) hs
theorem mapSeq_set (its : List Value) (n j : Nat) (u : Value) : Obj.mapSeq (·.setIfInBounds j u) { cls:=.type "list",data:=.seq its.toArray n } = { cls:=.type "list",data:=.seq (its.set j u).toArray n }:=by
  simp [Obj.mapSeq]
theorem Inv.lst {pins : List (Addr × Obj)} {σ : St} {H : Hp} {s : Shared} {p : Addr} {xs : List V} (I : Inv X pins σ H s) (h : H p = some (.lst xs)) :
    ∃ (its : List Value) (n : Nat),Vals xs its∧s.heap.get? p = some { cls:=.type "list",data:=.seq its.toArray n }∧xs.length ≤ sizeLine:=by
  obtain ⟨z,its,n,r,e⟩:=I.hok p _ h
  exact ⟨its,n,r,e,z⟩
theorem Inv.lstUpd {pins : List (Addr × Obj)} {σ : St} {H : Hp} {s : Shared} {p : Addr} {xs ys : List V} {its its' : List Value} {n n' : Nat} {f : Obj→Obj} (I : Inv X pins σ H s) (h : H p = some (.lst xs))
    (ho : s.heap.get? p = some { cls:=.type "list",data:=.seq its.toArray n }) (hf : f { cls:=.type "list",data:=.seq its.toArray n } = { cls:=.type "list",data:=.seq its'.toArray n' }) (r : Vals ys its') (hz : ys.length ≤ sizeLine) (t : Nat) :
    Inv X pins σ (upd H p (.lst ys)) { s with heap:=s.heap.update p f,toks:=t }:=by
  have e : (s.heap.update p f).get? p = some { cls:=.type "list",data:=.seq its'.toArray n' }:=by
    rw [Heap.get?_update_self f ho (by rw [hf] <;> rfl),hf]
  refine I.write (x:=p) (e:=p) (by rw [h]; trivial) (.inl rfl) (fun b u hb q=>(Heap.get?_update_other _ _ (Ne.symm hb)).trans q) ⟨_,e⟩ ?_
  exact ⟨hz,its',n',r,e⟩
def rSetL : V→V→V→Hp→(Hp→Prop)→Prop:=fun o i v H Q=>∃ p xs k j,o = .ref p∧i = .int k∧H p = some (.lst xs)∧ixN xs.length k = some j∧Q (upd H p (.lst (xs.set j v)))
theorem set_list : PSet X rSetL:=by
  intro pins s σ H o i v ov iv u Q I ro ri rv h
  obtain ⟨p,xs,k,j,rfl,rfl,hp,hj,q⟩:=h
  cases ro
  obtain ⟨t,rfl⟩:=ri
  obtain ⟨its,n,r,ho,hz⟩:=I.lst hp
  obtain ⟨h1,h2,h3,h4⟩:=ixN_seq hj
  have hl:=r.length
  have hn:=line63
  have I' : Inv X pins σ (upd H p (.lst (xs.set j v))) { s with heap:=s.heap.update p (Obj.mapSeq (·.setIfInBounds j u)) } :=
    I.lstUpd hp ho (mapSeq_set its n j u) (r.set rv j) (by rw [List.length_set]; exact hz) s.toks
  by_cases h0 : 0 ≤ k
  · have hk : k.toNat = j:=by
      rw [seqIndex_of h0 h4] at h1
      exact Option.some.inj h1
    exact PySem.W.ki_setAt ho h0 (by omega) (by rw [List.size_toArray,← hl]; exact h4) (by rw [hk]; exact ⟨_,I',q⟩)
  · have hk : (k + (its.toArray.size : Int)).toNat = j:=by
      rw [seqIndex_neg (by omega) h3] at h1
      rw [List.size_toArray,← hl]
      exact Option.some.inj h1
    exact PySem.W.ki_setBack ho (by omega) (by rw [List.size_toArray,← hl]; exact h3) (by omega) (by rw [hk]; exact ⟨_,I',q⟩)
theorem slice_bounds (lo hi : Option Int) (n : Nat) : (sliceBounds lo hi none n).1 = ((HT.sIx n 0 lo : Nat) : Int)∧(sliceBounds lo hi none n).2.1 = ((HT.sIx n n hi : Nat) : Int)∧(sliceBounds lo hi none n).2.2 = 1:=by
  refine ⟨?_,?_,rfl⟩
  · cases lo with
    | none=>simp [sliceBounds,HT.sIx]
    | some i =>
      simp only [sliceBounds,HT.sIx,Option.getD_none,show (1 : Int) > 0 by decide,if_true]
      by_cases h : i < 0
      · simp only [h,if_true] <;> omega
      · simp only [h,if_false] <;> omega
  · cases hi with
    | none=>simp [sliceBounds,HT.sIx]
    | some i =>
      simp only [sliceBounds,HT.sIx,Option.getD_none,show (1 : Int) > 0 by decide,if_true]
      by_cases h : i < 0
      · simp only [h,if_true] <;> omega
      · simp only [h,if_false] <;> omega
theorem slicePick_cut (its : List Value) (lo hi : Option Int) : slicePick its.toArray lo hi none = ((its.drop (HT.sIx its.length 0 lo)).take (HT.sIx its.length its.length hi - HT.sIx its.length 0 lo)).toArray:=by
  obtain ⟨h1,h2,h3⟩:=slice_bounds lo hi its.toArray.size
  unfold slicePick
  rw [h1,h2,h3]
  simp only [sliceRange_one,pick_run,List.size_toArray] <;> rfl
def rSlL (K : PySem.W.Frag) : V→Option Int→Option Int→Hp→VK→Prop:=fun x lo hi H Q=>∃ a xs,x = .ref a∧SqL K H a xs∧∀ p,H p = none→Q (.ref p) (upd H p (.lst (cutV xs lo hi)))
theorem sl_list : SlR X (rSlL X.K):=by
  intro pins s σ H x v vl vu lo hi sl Q I rx hs pl pu h
  obtain ⟨a,xs,rfl,hx,q⟩:=h
  cases rx
  obtain ⟨its,r,ht,hz⟩:=I.list hx
  have hlen:=r.length
  refine ⟨"list",_,slot_list_getitem.lookup,ht.isList.typeIs,?_⟩
  refine wpAny_getItem_list_slice ht.isList hs pl pu .none (by simp) ?_ (by rw [List.size_toArray] <;> omega)
  rw [slicePick_cut,← hlen]
  refine ⟨.ref s.heap.objs.size,_,I.laid (t':=s.toks) (o:=.lst (cutV xs lo hi)) (fun b ob q=>Heap.get?_push_of_some _ q) (Nat.le_refl _) ?_,rfl,q _ (I.hok.fresh (Nat.le_refl _))⟩
  exact ⟨Nat.le_trans (cutV_length xs lo hi) hz,_,0,(r.drop (HT.sIx xs.length 0 lo)).take (HT.sIx xs.length xs.length hi - HT.sIx xs.length 0 lo),Heap.get?_push_size _ rfl⟩
def flatV : V→Bool
  | .non=>true
  | .bl _=>true
  | .int _=>true
  | .str _=>true
  | _=>false
def eqV : V→V→Bool
  | .non,.non=>true
  | .bl a,.bl b=>a == b
  | .bl a,.int b=>(if a then 1 else 0) == b
  | .int a,.bl b=>a == (if b then 1 else 0)
  | .int a,.int b=>a == b
  | .str a,.str b=>a == b
  | _,_=>false
theorem eqAt_V {A : Around} {s : Shared} {y x : V} {u v : Value} (ry : RelV y u) (rx : RelV x v) (fy : flatV y = true) (fx : flatV x = true) : SeqAt.EqAt A s u v (eqV y x):=by
  cases y with
  | non =>
    cases ry
    cases x with
    | non=>cases rx; exact SeqAt.EqAt.same _
    | bl b=>cases rx; exact SeqAt.EqAt.none_bool b
    | int b=>obtain ⟨t,rfl⟩:=rx; exact SeqAt.EqAt.none_int b t
    | str b=>obtain ⟨t,rfl⟩:=rx; exact SeqAt.EqAt.none_str b t
    | _=>exact absurd (show false = true from fx) Bool.false_ne_true
  | bl a =>
    cases ry
    cases x with
    | non=>cases rx; exact SeqAt.EqAt.bool_none a
    | bl b=>cases rx; exact SeqAt.EqAt.bool_bool a b
    | int b=>obtain ⟨t,rfl⟩:=rx; exact SeqAt.EqAt.bool_int a b t
    | str b=>obtain ⟨t,rfl⟩:=rx; exact SeqAt.EqAt.bool_str a b t
    | _=>exact absurd (show false = true from fx) Bool.false_ne_true
  | int a =>
    obtain ⟨t',rfl⟩:=ry
    cases x with
    | non=>cases rx; exact SeqAt.EqAt.int_none a t'
    | bl b=>cases rx; exact SeqAt.EqAt.int_bool a t' b
    | int b=>obtain ⟨t,rfl⟩:=rx; exact SeqAt.EqAt.int_int a t' b t
    | str b=>obtain ⟨t,rfl⟩:=rx; exact SeqAt.EqAt.int_str a t' b t
    | _=>exact absurd (show false = true from fx) Bool.false_ne_true
  | str a =>
    obtain ⟨t',rfl⟩:=ry
    cases x with
    | non=>cases rx; exact SeqAt.EqAt.str_none a t'
    | bl b=>cases rx; exact SeqAt.EqAt.str_bool a t' b
    | int b=>obtain ⟨t,rfl⟩:=rx; exact SeqAt.EqAt.str_int a t' b t
    | str b=>obtain ⟨t,rfl⟩:=rx; exact SeqAt.EqAt.str_str a t' b t
    | _=>exact absurd (show false = true from fx) Bool.false_ne_true
  | _=>exact absurd (show false = true from fy) Bool.false_ne_true
def eqU (x : V) (u : Value) : Bool:=match u with
  | .none=>eqV .non x
  | .bool b=>eqV (.bl b) x
  | .int i _=>eqV (.int i) x
  | .str z _=>eqV (.str z) x
  | _=>false
theorem eqU_of {x y : V} {u : Value} (r : RelV y u) (f : flatV y = true) : eqU x u = eqV y x:=by
  cases y with
  | non=>cases r; rfl
  | bl b=>cases r; rfl
  | int i=>obtain ⟨t,rfl⟩:=r; rfl
  | str z=>obtain ⟨t,rfl⟩:=r; rfl
  | _=>exact absurd (show false = true from f) Bool.false_ne_true
theorem any_eqU {x : V} : ∀ {xs : List V} {us : List Value},Vals xs us→xs.all flatV = true→us.any (eqU x) = xs.any fun y=>eqV y x
  | _,_,.nil,_=>rfl
  | y :: xs,u :: us,.cons r t,f=>by
    rw [List.all_cons,Bool.and_eq_true] at f
    rw [List.any_cons,List.any_cons,eqU_of r f.1,any_eqU t f.2]
theorem mem_eqAt {A : Around} {s : Shared} {x : V} {v : Value} (rx : RelV x v) (fx : flatV x = true) : ∀ {xs : List V} {us : List Value},Vals xs us→xs.all flatV = true→∀ u ∈ us,SeqAt.EqAt A s u v (eqU x u)
  | _,_,.nil,_=>fun u hu=>by cases hu
  | y :: xs,u :: us,.cons r t,f=>fun u' hu=>by
    rw [List.all_cons,Bool.and_eq_true] at f
    rcases List.mem_cons.mp hu with rfl | hu
    · rw [eqU_of r f.1]; exact eqAt_V r rx f.1 fx
    · exact mem_eqAt rx fx t f.2 u' hu
def inV (x : V) (xs : List V) : Bool:=xs.any fun y=>eqV y x
def rIn (K : PySem.W.Frag) (neg : Bool) : R2:=fun x y H Q=>∃ p xs,y = .ref p∧(SqL K H p xs∨SqT K H p xs)∧flatV x = true∧xs.all flatV = true∧Q (.bl (if neg then !inV x xs else inV x xs)) H
theorem op_in_seq : OpR X (compareOp .In) (rIn X.K false):=by
  intro pins s σ H x y v u Q I rx ry h
  obtain ⟨p,xs,rfl,hq,fx,fs,q⟩:=h
  cases ry
  rcases hq with hq | hq
  · obtain ⟨its,r,pl,hz⟩:=I.list hq
    refine SeqAt.in_listAt (eqU x) pl.isList (fun w hw=>mem_eqAt rx fx r fs w (by simpa using hw)) ⟨.bl _,H,I,rfl,?_⟩
    rw [show its.toArray.any (eqU x) = its.any (eqU x) by simp,any_eqU r fs]
    exact q
  · obtain ⟨its,r,pl,hz⟩:=I.tuple hq
    refine SeqAt.in_tupleAt (eqU x) pl (fun w hw=>mem_eqAt rx fx r fs w (by simpa using hw)) ⟨.bl _,H,I,rfl,?_⟩
    rw [show its.toArray.any (eqU x) = its.any (eqU x) by simp,any_eqU r fs]
    exact q
theorem call_len_seq : CallR X (.builtin "len") (fun xs H Q=>∃ p ys,xs = [.ref p]∧(SqL X.K H p ys∨SqT X.K H p ys)∧Q (.int ys.length) H):=by
  intro pins s σ H xs us Q I r h
  obtain ⟨p,ys,rfl,hq,q⟩:=h
  obtain ⟨u,rfl,rx⟩:=vals1 r
  cases rx
  have hn:=line63
  rcases hq with hq | hq
  · obtain ⟨its,r',pl,hz⟩:=I.list hq
    have hlen:=r'.length
    exact Calls.call_len_list pl.isList (by simp only [List.size_toArray] <;> omega) ⟨.int ys.length,H,I.tok _,⟨s.toks + 1,by rw [List.size_toArray,hlen]⟩,q⟩
  · obtain ⟨its,r',pl,hz⟩:=I.tuple hq
    have hlen:=r'.length
    exact len_tuple pl (by simp only [List.size_toArray] <;> omega) ⟨.int ys.length,H,I.tok _,⟨s.toks + 1,by rw [List.size_toArray,hlen]⟩,q⟩
def tyV (K : PySem.W.Frag) (T : String) (x : V) (H : Hp) : Prop:=match x with
  | .str _=>T = "str"
  | .int _=>T = "int"
  | .ref p=>(T = "list" ∧ ∃ xs,SqL K H p xs)∨(T = "tuple" ∧ ∃ o,K.lookup p = some o∧o.cls = .type "tuple" ∧ o.dict = none) ∨
      (T = "dict" ∧ ((∃ kvs,H p = some (.dK kvs))∨∃ kvs,H p = some (.dT kvs)))∨(T = "set" ∧ ∃ S n,H p = some (.set S n))
  | _=>False
theorem tyV_is {pins : List (Addr × Obj)} {σ : St} {H : Hp} {s : Shared} {T : String} {x : V} {v : Value} (I : Inv X pins σ H s) (r : RelV x v) (ty : tyV X.K T x H) :
    s.TypeIs v T∧∀ a,v = .ref a→∃ ob,s.heap.get? a = some ob∧ob.dict = none:=by
  cases x with
  | str z =>
    obtain ⟨t,rfl⟩:=r
    cases (show T = "str" from ty)
    exact ⟨typeIs_str s z t,fun _ e=>nomatch e⟩
  | int i =>
    obtain ⟨t,rfl⟩:=r
    cases (show T = "int" from ty)
    exact ⟨typeIs_int s i t,fun _ e=>nomatch e⟩
  | ref p =>
    cases r
    rcases ty with ⟨rfl,xs,hq⟩ | ⟨rfl,o,hk,hc,hd⟩ | ⟨rfl,hk⟩ | ⟨rfl,S,n,hk⟩
    · obtain ⟨its,_,pl,_⟩:=I.list hq
      refine ⟨pl.isList.typeIs,fun a e=>?_⟩
      cases e
      obtain ⟨o,n,e,c,hd,_⟩:=pl
      exact ⟨o,e,hd⟩
    · refine ⟨⟨o,I.kIn p o hk,hc⟩,fun a e=>?_⟩
      cases e
      exact ⟨o,I.kIn _ o hk,hd⟩
    · have z : ∃ o,s.heap.get? p = some o∧o.ExactDict:=by
        rcases hk with ⟨kvs,hk⟩ | ⟨kvs,hk⟩
        · obtain ⟨_,_,_,_,o,_,_,e,ex,_⟩:=I.hok p _ hk
          exact ⟨o,e,ex⟩
        · obtain ⟨_,_,_,_,o,_,_,e,ex,_⟩:=I.hok p _ hk
          exact ⟨o,e,ex⟩
      obtain ⟨o,e,ex⟩:=z
      refine ⟨⟨o,e,ex.1⟩,fun a e2=>?_⟩
      cases e2
      exact ⟨o,e,ex.2.1⟩
    · obtain ⟨o,_,_,_,e,ex,_⟩:=I.hok p _ hk
      refine ⟨⟨o,e,ex.1⟩,fun a e2=>?_⟩
      cases e2
      exact ⟨o,e,ex.2.1⟩
  | _=>exact False.elim ty
def tBM (K : PySem.W.Frag) (T : String) (r : V→List V→Hp→VK→Prop) (to : TE) (t : TA) : TE:=fun σ H Q=>to σ H fun x H1=>tyV K T x H1∧t σ H1 fun xs H2=>r x xs H2 Q
variable {o e : Expr} {es : List Expr} {to : TE} {t : TA} {name : Str} {apos cpos : Pos} {T id : String} {r : V→List V→Hp→VK→Prop}
theorem pe_bm (pa : PlainAttrs T) (slot : Slot T name id) (hty : typeOf (.builtin id) = pure (.type "method_descriptor")) (hm : MtR X id r) (ho : PE X o to) (ha : PA X (e :: es) t)
    (hbase : attributeBase o name X.env (eval o X.env) = eval o X.env:=by rfl)
    (hfew : ((backTo cpos (starEach (e :: es) X.env)).all (fun x=>!x.1) && (backToKw cpos (keywordEach [] X.env)).all (fun x=>x.1.isSome)
      && decide ((e :: es).length + ([] : List Keyword).length + (if ([] : List Keyword).isEmpty then 0 else 1) < 30)) = true:=by rfl)
    (hline : (apos.endLine == cpos.line) = true:=by rfl) (hs : starEach (e :: es) X.env = (false,eval e X.env) :: starEach es X.env:=by rfl) (hplain : (backTo cpos (starEach es X.env)).any (·.1) = false:=by rfl) :
    PE X (.Call (.Attribute o name apos) (e :: es) [] cpos) (tBM X.K T r to t):=by
  intro pins s σ H Q I h
  refine wpAny_Call_method_late hbase hfew hline rfl (thn (ho pins s σ H _ I h) fun v s1 ⟨x,H1,I1,r1,ty,q1⟩=>?_)
  obtain ⟨h1,h2⟩:=tyV_is I1 r1 ty
  refine ⟨T,id,pa,slot,hty,h1,h2,?_⟩
  have hA:=ha cpos pins s1 σ H1 _ I1 q1
  rw [hs] at hA ⊢
  refine Calls.callWith_builtin (by show (false || (backTo cpos (starEach es X.env)).any (·.1)) = false; rw [hplain] <;> rfl) (Calls.evalArgs_plain ?_)
  exact thn hA fun us s2 ⟨vs,H2,I2,r2,q2⟩=>hm pins s2 σ H2 x vs v us Q I2 r1 r2 q2
end
end L2
namespace L2
open PySem PySem.Spec PyProof.Rows
def MtM (X : Cx) (id : String) (r : V→List V→Hp→VK→Prop) : Prop :=
  ∀ (pins : List (Addr × Obj)) (s : Shared) (σ : St) (H : Hp) (x : V) (xs : List V) (v : Value) (us : List Value) (Q : VK),Inv X pins σ H s→RelV x v→Vals xs us→r x xs H Q →
    wpAny (model X.prog X.w) X.A (call (.builtin id) (v :: us)) (EP X pins σ Q) X.xe s
theorem Vals.one : ∀ {x : V} {us : List Value},Vals [x] us→∃ u,us = [u]∧RelV x u
  | _,_,.cons r .nil=>⟨_,rfl,r⟩
theorem Vals.two : ∀ {x y : V} {us : List Value},Vals [x,y] us→∃ u v,us = [u,v]∧RelV x u∧RelV y v
  | _,_,_,.cons r (.cons q .nil)=>⟨_,_,rfl,r,q⟩
section
variable {X : Cx} {pins : List (Addr × Obj)} {σ : St} {H : Hp} {s : Shared} {l b : Addr} {xs ys zs : List V}
theorem Inv.lset {its its' : List Value} {n : Nat} {f : Array Value→Array Value} {t' : Nat} (I : Inv X pins σ H s) (hH : H l = some (.lst xs))
    (e : s.heap.get? l = some { cls:=.type "list",data:=.seq its.toArray n }) (hf : f its.toArray = its'.toArray) (hv : Vals ys its') (hz : ys.length ≤ sizeLine) :
    Inv X pins σ (upd H l (.lst ys)) { s with heap:=s.heap.update l (Obj.mapSeq f),toks:=t' }:=by
  have q:=PySem.IsL.update e f
  rw [hf] at q
  refine I.write (x:=l) (e:=l) (by rw [hH]; exact trivial) (.inl rfl) (fun b' u hb hu=>(Heap.get?_update_other s.heap (Obj.mapSeq f) (Ne.symm hb)).trans hu) ⟨_,q⟩ ?_
  exact ⟨hz,its',_,hv,q⟩
theorem Inv.lnew {its : List Value} {t' : Nat} (I : Inv X pins σ H s) (hv : Vals ys its) (hz : ys.length ≤ sizeLine) :
    Inv X pins σ (upd H s.heap.objs.size (.lst ys)) { s with heap:=s.heap.push { cls:=.type "list",data:=.seq its.toArray },toks:=t' } :=
  I.laid (fun _ _ q=>Heap.get?_push_of_some _ q) (Nat.le_refl _) ⟨hz,its,0,hv,Heap.get?_push_size _ rfl⟩
theorem Inv.fresh (I : Inv X pins σ H s) : H s.heap.objs.size = none:=I.hok.fresh (Nat.le_refl _)
theorem Inv.lstM (I : Inv X pins σ H s) (hH : H l = some (.lst xs)) : xs.length ≤ sizeLine∧∃ (its : List Value) (n : Nat),Vals xs its∧xs.length = its.length∧s.heap.get? l = some { cls:=.type "list",data:=.seq its.toArray n }:=by
  obtain ⟨z,its,n,r,e⟩:=I.hok l _ hH
  exact ⟨z,its,n,r,r.length,e⟩
theorem notLongL {n : Nat} (h : n ≤ sizeLine) : Builtin.List.listTooLong n = false:=by
  unfold Builtin.List.listTooLong
  exact decide_eq_false (by omega)
end
section
variable {X : Cx}
def rAppend : V→List V→Hp→VK→Prop:=fun x vs H Q=>∃ l xs y,x = .ref l∧vs = [y]∧H l = some (.lst xs)∧xs.length < sizeLine∧Q .non (upd H l (.lst (xs ++ [y])))
theorem mt_append : MtM X "list.append" rAppend:=by
  intro pins s σ H x vs v us Q I rx rv h
  obtain ⟨l,xs,y,rfl,rfl,hH,hz,q⟩:=h
  cases rx
  obtain ⟨u,rfl,ru⟩:=rv.one
  obtain ⟨z,its,n,r,hl,e⟩:=I.lstM hH
  refine call_meets F.slot_list_append ⟨_,e,rfl⟩ F.entry_list_append (F.args_list_append_2 _ _) (PySem.list_append l its.toArray n u (by rw [List.size_toArray]; omega)) ⟨e,?_⟩
  refine ⟨.non,_,I.lset (its':=its ++ [u]) hH e (by simp) (r.append (.cons ru .nil)) ?_,rfl,q⟩
  rw [List.length_append,List.length_singleton]
  omega
def rExtend : V→List V→Hp→VK→Prop:=fun x vs H Q=>∃ l b xs zs,x = .ref l∧vs = [.ref b]∧H l = some (.lst xs)∧H b = some (.lst zs)∧xs.length + zs.length ≤ sizeLine∧Q .non (upd H l (.lst (xs ++ zs)))
theorem mt_extend : MtM X "list.extend" rExtend:=by
  intro pins s σ H x vs v us Q I rx rv h
  obtain ⟨l,b,xs,zs,rfl,rfl,hH,hB,hz,q⟩:=h
  cases rx
  obtain ⟨u,rfl,ru⟩:=rv.one
  cases ru
  obtain ⟨z,its,n,r,hl,e⟩:=I.lstM hH
  obtain ⟨z2,its2,n2,r2,hl2,e2⟩:=I.lstM hB
  have hsz : its.toArray.size + its2.toArray.size ≤ sizeLine:=by rw [List.size_toArray,List.size_toArray]; omega
  have hlong : ¬ (!its.toArray.isEmpty && Builtin.List.listTooLong (its.toArray.size + its2.toArray.size)) = true:=by
    rw [notLongL hsz,Bool.and_false]
    exact Bool.false_ne_true
  refine call_meets F.slot_list_extend ⟨_,e,rfl⟩ F.entry_list_extend (F.args_list_extend_2 _ _)
    (AutoSeq1.list_extend_list_list_0 l its.toArray n b its2.toArray n2 hlong (by rw [List.size_toArray]; omega) (by omega)) ⟨e,e2,?_⟩
  refine ⟨.non,_,I.lset (its':=its ++ its2) hH e (by simp) (r.append r2) ?_,rfl,q⟩
  rw [List.length_append]
  omega
def rCat : R2:=fun x y H Q=>∃ l b xs zs,x = .ref l∧y = .ref b∧H l = some (.lst xs)∧H b = some (.lst zs)∧xs.length + zs.length ≤ sizeLine∧∀ p,H p = none→Q (.ref p) (upd H p (.lst (xs ++ zs)))
theorem op_cat : OpR X (binaryOp .Add) rCat:=by
  intro pins s σ H x y v u Q I rx ry h
  obtain ⟨l,b,xs,zs,rfl,rfl,hH,hB,hz,q⟩:=h
  cases rx
  cases ry
  obtain ⟨z,its,n,r,hl,e⟩:=I.lstM hH
  obtain ⟨z2,its2,n2,r2,hl2,e2⟩:=I.lstM hB
  refine PySem.P.add_list e e2 ?_ (by rw [List.size_toArray,List.size_toArray]; omega)
  have ea : its.toArray ++ its2.toArray = (its ++ its2).toArray:=by simp
  rw [ea]
  exact ⟨.ref _,_,I.lnew (t':=s.toks) (r.append r2) (by rw [List.length_append]; omega),rfl,q _ I.fresh⟩
end
section
variable {prog : Program} {w : World} {A : Around} {E : Value→Shared→Prop} {s : Shared}
end
section
variable {X : Cx}
end
end L2
namespace L2
open PySem PySem.Spec PyProof.Rows
section
variable {κ : Type} [DecidableEq κ]
end
section
variable {P : Program} {w : World} {H : Hp} {h : Heap} {a : Addr}
end
section
variable {X : Cx} {pins : List (Addr × Obj)} {σ : St} {H : Hp} {s : Shared} {a : Addr} {y v : V} {u r : Value} {o : Option V} {A : Around} {E : Value→Shared→Prop}
end
section
variable {X : Cx} {pins : List (Addr × Obj)} {σ : St} {H : Hp} {s : Shared} {a : Addr} {kvs : List (Key × V)} {k : Key} {u : Value} {A : Around} {E : Value→Shared→Prop}
end
section
variable {X : Cx} {o i e value : Expr} {pos pos' tpos : Pos} {td ty tv : TE}
end
section
variable {X : Cx} {pos : Pos}
end
structure M2 (X : Cx) (o : Expr) (m : Str) (apos : Pos) (e f : Expr) (cpos : Pos) : Prop where
  base : attributeBase o m X.env (eval o X.env) = eval o X.env
  few : ((backTo cpos (starEach [e,f] X.env)).all (fun x=>!x.1) && (backToKw cpos (keywordEach [] X.env)).all (fun x=>x.1.isSome)
    && decide (([e,f] : List Expr).length + ([] : List Keyword).length + (if ([] : List Keyword).isEmpty then 0 else 1) < 30)) = true
  line : (apos.endLine == cpos.line) = true
  trees : backTo cpos (starEach [e,f] X.env) = [(false,eval e X.env),(false,eval f X.env)]
section
variable {X : Cx} {pins : List (Addr × Obj)} {σ : St} {H : Hp} {s : Shared} {a : Addr} {y d : V} {u r : Value} {o : Option V} {A : Around} {E : Value→Shared→Prop}
end
section
variable {X : Cx} {o e f : Expr} {apos cpos : Pos} {td ty tx : TE}
end
section
variable {X : Cx} {pins : List (Addr × Obj)} {σ : St} {H : Hp} {s : Shared} {a : Addr} {kvs : List (Key × V)} {A : Around} {E : Value→Shared→Prop}
end
section
variable {X : Cx} {pins : List (Addr × Obj)} {σ : St} {H : Hp} {s : Shared} {a : Addr} {y : V} {u : Value} {A : Around} {E : Value→Shared→Prop}
end
end L2
namespace Att
open PySem PySem.W PySem.Calls PyProof.Rows
theorem ints_of_wellAll {P : Params} {h : Heap} : ∀ (ns : List Int) (vs : List Value),WellAll P h vs (ns.map WData.int)→IntsAre vs ns:=by
  intro ns
  induction ns with
  | nil =>
    intro vs w
    rw [List.map_nil] at w
    cases w
    exact .nil
  | cons n ns ih =>
    intro vs w
    rw [List.map_cons] at w
    cases w with
    | cons a b =>
      cases a
      exact .cons _ _ (ih _ b)
theorem script_of {l : OpenLaw} {n : Nat} (hn : l.most = some n) {P : Params} {h : Heap} {args : List WData} {vals : List Value}
    (hpre : l.row.toRowW.claim.pre args = true) (hwl : WellAll P h vals args) :
    ∃ a vs ns,vals = [Value.ref a]∧args = [WData.list (ns.map WData.int)]∧h.get? a = some { cls:=.type "list",data:=.seq vs.toArray }∧IntsAre vs ns∧ns.length ≤ n:=by
  have hsh : WShape.hasAll [] args [.list .int] = true:=(pre_splitW hpre).1
  have hc : l.pre.holds [] { args:=args } = true:=(pre_splitW hpre).2
  obtain ⟨d,r,rfl,h1,h2⟩:=hasAllW_cons hsh
  obtain rfl:=hasAllW_nil h2
  obtain ⟨xs,rfl,h3⟩:=hasW_list h1
  obtain ⟨ns,rfl⟩:=items_int h3
  have hlen : ns.length ≤ n:=by
    unfold OpenLaw.pre at hc
    have h4 : (WTm.not (.lt (.lit (.int (n : Int))) (.len (.arg 0)))).holds [] { args:=[.list (ns.map .int)] } = true:=by
      have h4:=(holds_andW hc).1
      rw [hn] at h4
      exact h4
    have h5:=condW_of h4 (w_not (w_lt w_lit (w_len_list (w_arg rfl))))
    rw [List.length_map] at h5
    refine Nat.le_of_not_lt fun q=>?_
    have q' : (n : Int) < ((ns.length : Nat) : Int):=by omega
    first
      | (rw [decide_eq_true q'] at h5; exact absurd h5 (by decide))
      | (simp at h5; omega)
  cases hwl with
  | cons w1 w2 =>
    cases w2
    cases w1 with
    | list ho hall=>exact ⟨_,_,ns,rfl,rfl,ho,ints_of_wellAll ns _ hall,hlen⟩
theorem post_true (l : OpenLaw) (args : List WData) : l.row.toRowW.claim.post args (.bool true) args = true :=
  postW_of (r:=l.row.toRowW) (X:=(true == true))
    (show WShape.has [] (.bool true) .bool = true by first | rfl | decide | simp [WShape.has,WShape.arms,WShape.armsAll])
    (show (WTm.eq .res (.lit (.bool true))).value [] { args:=args,res:=some (.bool true),after:=args } = some (.bool (true == true)) from w_eq_bool (w_res rfl) w_lit) rfl
theorem attach_call {l : OpenLaw} {n : Nat} {q : Program} {loose : List Str} {XP : (Str→Option Value)→Heap→Prop} {YP : World→Heap→Prop} {d : DefRec}
    (hn : l.most = some n) (hdf : d.params.defaults = [])
    (call : ∀ (w : World) (s₀ s₁ : Shared) (mg mb : Str→Option Value) (fa : Addr) (o : Obj) (pm cd doc : Value) (a : Addr) (vs : List Value) (ns : List Int),
      Ground q loose [] XP w s₀ mg mb s₁.heap→YP w s₁.heap →
      s₁.heap.get? fa = some o→o.data = .func (docDef d.name d.params d.body d.scope pm cd doc)→s₁.heap.CodeRec cd d.name→mg d.name = some (.ref fa) →
      s₁.heap.get? a = some { cls:=.type "list",data:=.seq vs.toArray }→IntsAre vs ns→ns.length ≤ n→s₁.gens = #[] →
      codeAny (model l.prog w) callerA (.call (.ref fa) ⟨[.ref a],[]⟩) (fun r s'=>r = .ok (.ret (.bool true))∧OldK s₁.heap s'.heap∧s'.os = s₁.os∧AllBare s'.gens) s₁) :
    WalkO q loose XP YP l.row.toRowW d [] (fun f vs=>PySem.call f vs):=by
  intro w s₀ s₁ mg mb G Y fa o pm cd doc dV kV ho hd hcd hD hmg hg args vals as hpre hlay hrd hwl hlo
  obtain rfl : dV = .none:=Dflts.none hD hdf
  obtain rfl : kV = .none:=Dflts.noKw hD
  obtain ⟨a,vs,ns,rfl,rfl,hobj,hints,hlen⟩:=script_of hn hpre hwl
  refine enter_call (codeAny_mono (call w s₀ s₁ mg mb fa o pm cd doc a vs ns G Y ho (fd_plain hd) hcd hmg hobj hints hlen hg) fun r s' hq=>?_)
  obtain ⟨rfl,h2,h3,h4⟩:=hq
  exact ⟨.inl ⟨.bool true,.bool true,[],rfl,fun _=>rfl,.bool true,post_true l _,fun _=>⟨List.Pairwise.nil,fun _ hm=>(nomatch hm)⟩⟩,h2,h3,h4⟩
section
variable {prog : Program} {w : World} {A : Around} {E : Value→Shared→Prop} {s : Shared} {K : Frag}
end
end Att
namespace L2
open PySem PySem.Spec PyProof.Rows
theorem vals_ints : ∀ {vs : List Value} {ns : List Int},IntsAre vs ns→Vals (ns.map V.int) vs
  | _,_,.nil=>.nil
  | _,_,.cons n t h=>.cons ⟨t,rfl⟩ (vals_ints h)
def Only (H : Hp) : Prop:=∀ b,H b = none∨∃ o xs,H b = some (.frz o (.lst xs))
theorem law_call {P : Program} {w : World} {K : PySem.W.Frag} {mg mb : Str→Option Value} {CX : CXT} {k : Nat} {fa a : Addr} {fd : FuncData} {x : Str} {sp : Sp} {s₁ : Shared} {vs : List Value} {ns : List Int}
    (KX : K.In s₁.heap) (hns : s₁.heap.Ns mainGlobals mg) (hb : s₁.heap.Ns builtinsNs mb) (hbb : ∀ x : Str,x ≠ "__name__" → mb x = bootBuiltins x) (hlim : s₁.heap.NoLimit) (hg : s₁.gens = #[])
    (ha : s₁.heap.get? a = some { cls:=.type "list",data:=.seq vs.toArray }) (hi : IntsAre vs ns) (hl : ns.length ≤ sizeLine) (hr : Room k callerA)
    (F : ∀ base : Heap,K.In base→base.Ns mainGlobals mg→FnOk P w K mg base CX k fa fd [x] sp) (hbind : ∀ (s : Shared) (u : Value),BindsTo s fd ⟨[u],[]⟩ [(x,u)])
    (hsp : ∀ H : Hp,Only H→SqL K H a (ns.map V.int)→sp [.ref a] H (fun v _=>v = .bl true) fun _ _ _=>False)
    (hCX : ∀ H e s',CX [] H s₁ (fun _ _ _=>False) e s'→False) :
    codeAny (model P w) callerA (.call (.ref fa) ⟨[.ref a],[]⟩) (fun r s'=>r = .ok (.ret (.bool true))∧OldK s₁.heap s'.heap∧s'.os = s₁.os∧AllBare s'.gens) s₁:=by
  have rv:=vals_ints hi
  have lenV:=hi.length
  -- from an abstract heap in which nothing but the script may be tracked
  have core : ∀ H : Hp,Only H→SqL K H a (ns.map V.int)→HOk P w H s₁.heap→(∀ b,H b ≠ none→b = a)→(H a ≠ none→K.lookup a = none) →
      codeAny (model P w) callerA (.call (.ref fa) ⟨[.ref a],[]⟩) (fun r s'=>r = .ok (.ret (.bool true))∧OldK s₁.heap s'.heap∧s'.os = s₁.os∧AllBare s'.gens) s₁:=by
    intro H hO hS hok hA hK
    have base_of : ∀ {b : Addr} {o : Obj},s₁.heap.get? b = some o→H b = none→(hidT s₁.heap H).get? b = some o:=fun e n=>hidT_get e n
    have noA : ∀ {b : Addr} {o : Obj} {es : Array DictEntry} {ep : Nat},s₁.heap.get? b = some o→o.data = .dict es ep→H b = none:=fun {b o es ep} e d=>by
      cases q : H b with
      | none=>rfl
      | some u =>
        have e' : b = a:=hA b (by rw [q]; simp)
        subst e'
        rw [ha] at e; cases e
        have d' : Data.seq vs.toArray _ = Data.dict es ep:=d
        cases d'
    have nsK : ∀ {b : Addr} {m : Str→Option Value},s₁.heap.Ns b m→(hidT s₁.heap H).Ns b m:=fun {b m} ⟨o,es,ep,e,d,r⟩=>⟨o,es,ep,base_of e (noA e d),d,r⟩
    have hKb : K.In (hidT s₁.heap H):=fun b o e=>base_of (KX b o e) (by
      cases q : H b with
      | none=>rfl
      | some u =>
        have e' : b = a:=hA b (by rw [q]; simp)
        subst e'
        rw [hK (by rw [q]; simp)] at e; cases e)
    have hM : Mod K mg (hidT s₁.heap H):=⟨hKb,nsK hns,⟨mb,nsK hb,hbb⟩,let ⟨mc,h1,h2⟩:=hlim; ⟨mc,nsK h1,h2⟩⟩
    have e0 : Env0 P w K mg (hidT s₁.heap H) callerA [] s₁ H:=⟨rfl,hM,fun b o e=>of_hidT e,Nat.le_of_eq (hidT_size _ _),trivial,fun b hb=>absurd (show b ∈ ([] : List Addr) from hb) (by simp),hok,.of_eq hg⟩
    refine codeAny_mono ((F _ hKb (nsK hns)).run callerA [] s₁ H ⟨[.ref a],[]⟩ [.ref a] [.ref a] _ _ hr e0 (hbind s₁ (.ref a)) (.cons rfl .nil) (hsp H hO hS)) fun r s' h=>?_
    cases r with
    | error e=>exact (hCX H e s' h).elim
    | ok fl =>
      cases fl with
      | next=>exact False.elim h
      | brk=>exact False.elim h
      | cont=>exact False.elim h
      | ret u =>
        obtain ⟨v,H',os,bare,un,hok',r',q⟩:=h
        have q' : v = .bl true:=q
        subst q'
        obtain rfl : u = Value.bool true:=r'
        refine ⟨rfl,OldK.of_keep fun b o e=>?_,os,bare⟩
        cases q : H b with
        | none=>exact un.keep b o e q (by intro z; exact absurd (show b ∈ ([] : List Addr) from z) (by simp)) (by simp)
        | some u =>
          rcases hO b with z | ⟨ob,xs,z⟩
          · rw [q] at z; cases z
          · have z2:=un.frzs b ob _ z
            obtain ⟨e1,_⟩:=hok b _ z
            obtain ⟨e2,_⟩:=hok' b _ z2
            rw [e] at e1; cases e1
            exact e2
  cases hk : K.lookup a with
  | some o =>
    -- the script is one of the module's own objects
    have e:=KX a o hk
    rw [ha] at e
    cases e
    refine core (fun _=>none) (fun _=>.inl rfl) (.inr ⟨_,vs.toArray,_,hk,rfl,rfl,rfl,by rw [List.size_toArray,lenV]; exact hl,by simpa using rv⟩) (fun b u z=>by have z' : (none : Option HO) = some u:=z; cases z') (fun b z=>absurd rfl z) fun z=>absurd rfl z
  | none =>
    refine core (fun b=>if b = a then some (.frz { cls:=.type "list",data:=.seq vs.toArray } (.lst (ns.map V.int))) else none) (fun b=>?_) (.inl (.inr ⟨{ cls:=.type "list",data:=.seq vs.toArray },if_pos rfl⟩)) (fun b u z=>?_) (fun b z=>?_) fun _=>hk
    · by_cases hb : b = a
      · exact .inr ⟨_,_,if_pos hb⟩
      · exact .inl (if_neg hb)
    · by_cases hb : b = a
      · have z':=(if_pos hb).symm.trans z
        cases z'
        subst hb
        exact ⟨ha,by rw [List.length_map]; exact hl,vs,_,rv,ha⟩
      · have z':=(if_neg hb).symm.trans z
        cases z'
    · by_cases hb : b = a
      · exact hb
      · exact absurd (if_neg hb) z
end L2
namespace L2
open PySem PySem.Spec PyProof.Rows
abbrev KOf {K : PySem.W.Frag} {h : Heap} (_ : K.In h) : PySem.W.Frag:=K
theorem walk_of {l : PySem.W.OpenLaw} {n k : Nat} {q : Program} {loose : List Str} {XP : (Str→Option Value)→Heap→Prop} {YP : World→Heap→Prop} {d : DefRec} {K : Params→PySem.W.Frag} {CX : World→CXT} {sp : World→Sp} {x : Str}
    (hn : l.most = some n) (hn2 : n ≤ sizeLine) (hdf : d.params.defaults = []) (hr : Room k callerA)
    (hY : ∀ (w : World) (h : Heap),YP w h→(K w.params).In h)
    (F : ∀ (w : World) (mg : Str→Option Value) (fa : Addr) (h : Heap),(K w.params).In h→h.Ns mainGlobals mg→mg d.name = some (.ref fa) →
      ∃ fd : FuncData,(∀ (s : Shared) (u : Value),BindsTo s fd ⟨[u],[]⟩ [(x,u)]) ∧
        ∀ base : Heap,(K w.params).In base→base.Ns mainGlobals mg→FnOk l.prog w (K w.params) mg base (CX w) k fa fd [x] (sp w))
    (hsp : ∀ (w : World) (H : Hp) (a : Addr) (ns : List Int),ns.length ≤ n→Only H→SqL (K w.params) H a (ns.map V.int)→sp w [.ref a] H (fun v _=>v = .bl true) fun _ _ _=>False)
    (hCX : ∀ (w : World) (H : Hp) (s : Shared) (e : Value) (s' : Shared),CX w [] H s (fun _ _ _=>False) e s'→False) :
    PySem.W.WalkO q loose XP YP l.row.toRowW d [] (fun f vs=>PySem.call f vs):=by
  refine Att.attach_call hn hdf fun w s₀ s₁ mg mb fa o pm cd doc a vs ns G Y ho hd hcd hmg hobj hints hlen hg=>?_
  have KX:=hY w _ Y
  obtain ⟨fd,hb,hF⟩:=F w mg fa _ KX G.T.g hmg
  exact law_call KX G.T.g G.T.b G.T.builtins G.T.nolimit hg hobj hints (Nat.le_trans hlen hn2) hr hF hb (fun H hO hS=>hsp w H a ns hlen hO hS) fun H e s'=>hCX w H s₁ e s'
theorem walk_ofK {l : PySem.W.OpenLaw} {n k : Nat} {q : Program} {loose : List Str} {XP : (Str→Option Value)→Heap→Prop} {YP : World→Heap→Prop} {d : DefRec} {K : Params→PySem.W.Frag} {CX : CXT} {sp : PySem.W.Frag→Sp} {x : Str}
    (hn : l.most = some n) (hn2 : n ≤ sizeLine) (hdf : d.params.defaults = []) (hr : Room k callerA)
    (hY : ∀ (w : World) (h : Heap),YP w h→(K w.params).In h)
    (F : ∀ (w : World) (mg : Str→Option Value) (fa : Addr) (h : Heap),(K w.params).In h→h.Ns mainGlobals mg→mg d.name = some (.ref fa) →
      ∃ fd : FuncData,(∀ (s : Shared) (u : Value),BindsTo s fd ⟨[u],[]⟩ [(x,u)]) ∧
        ∀ base : Heap,(K w.params).In base→base.Ns mainGlobals mg→FnOk l.prog w (K w.params) mg base CX k fa fd [x] (sp (K w.params)))
    (hsp : ∀ (K : PySem.W.Frag) (H : Hp) (a : Addr) (ns : List Int),ns.length ≤ n→Only H→SqL K H a (ns.map V.int)→sp K [.ref a] H (fun v _=>v = .bl true) fun _ _ _=>False)
    (hCX : ∀ (H : Hp) (s : Shared) (e : Value) (s' : Shared),CX [] H s (fun _ _ _=>False) e s'→False) :
    PySem.W.WalkO q loose XP YP l.row.toRowW d [] (fun f vs=>PySem.call f vs) :=
  walk_of (K:=K) (CX:=fun _=>CX) (sp:=fun w=>sp (K w.params)) hn hn2 hdf hr hY F (fun w H a ns h1 h2 h3=>hsp (K w.params) H a ns h1 h2 h3) fun _ H s e s'=>hCX H s e s'
end L2
namespace L2
open PySem PySem.Spec PyProof.Rows
def inClass (s : Stmt) (j : Nat) : Stmt:=match s with
  | .ClassDef _ _ _ body _ _ _ _ _ _ _=>body.getD j (.Pass ⟨0,0,0,0⟩)
  | _=>.Pass ⟨0,0,0,0⟩
def defArgs (s : Stmt) : Arguments:=match s with
  | .FunctionDef _ a _ _ _ _ _ _ _ _=>a
  | _=>{ posonlyargs:=[],args:=[],vararg:=none,kwonlyargs:=[],kw_defaults:=[],kwarg:=none,defaults:=[] }
def defBody (s : Stmt) : List Stmt:=match s with
  | .FunctionDef _ _ b _ _ _ _ _ _ _=>b
  | _=>[]
def defScope (s : Stmt) : Scope:=match s with
  | .FunctionDef _ _ _ _ _ _ sc _ _ _=>sc
  | _=>{ kind:=.function,names:=[],isGenerator:=false,isCoroutine:=false }
abbrev CX0 : CXT:=fun _ _ _ _ _ _=>False
abbrev E0 : XK:=fun _ _ _=>False
theorem pass0 {X : Cx} : Passes CX0 X E0:=fun _ _ _ _ _ _ _ h=>h.elim
structure Fun (K : PySem.W.Frag) (x qual : Str) (st : Stmt) (f : Addr) (fd : FuncData) : Prop where
  ex : ∃ (oc : Value) (od : Option Addr) (kV doc pm : Value) (an : Option Addr) (cdv ct : Value) (osl : Array (Option Value)),
    fd = PySem.W.fnOf x qual (defArgs st) (defBody st) (defScope st) .none kV doc pm an cdv ct∧K.lookup f = some ⟨oc,od,.func fd,osl⟩∧PySem.W.codeIn K cdv qual = true
  kp : PySem.W.keepIn K (.ref f) = true
section
variable {P : Program} {w : World} {K : PySem.W.Frag} {mg : Str→Option Value} {base : Heap}
theorem Fun.ok {x qual : Str} {st : Stmt} {f : Addr} {fd : FuncData} {N ps : List Str} {k : Nat} {sp : Sp} (F : Fun K x qual st f fd) (S : FnScope N ps (defScope st)) (len : ∀ vs H Q E,sp vs H Q E→vs.length = ps.length)
    (hbody : ∀ (cdv : Value) (A : Around) (outer : List Env) (s : Shared) (H : Hp) (vs : List V) (Q : VK) (E : XK),Room k (A.deeper (envOfC qual (defScope st) s.heap.objs.size f cdv))→sp vs H Q E →
      ∃ t,PSs (cxOf CX0 P w K mg base N qual (defScope st) f cdv A outer s H E).nox (defBody st) t∧t { nx:=fun _ H'=>Q .non H',rt:=Q } (start N vs) H) : FnOk P w K mg base CX0 (k + 1) f fd ps sp:=by
  obtain ⟨oc,od,kV,doc,pm,an,cdv,ct,osl,rfl,lk,hcd⟩:=F.ex
  refine fn_of lk hcd S len fun A outer s H vs Q E hr hsp=>?_
  obtain ⟨t,h,q⟩:=hbody cdv A outer s H vs Q E hr hsp
  exact ⟨t,h.nox,q⟩
theorem Fun.binds {x qual : Str} {st : Stmt} {f : Addr} {fd : FuncData} {ps : List Str} (F : Fun K x qual st f fd)
    (h : ∀ (kV doc pm : Value) (an : Option Addr) (cdv ct : Value) (us : List Value),us.length = ps.length→bindArgs (PySem.W.fnOf x qual (defArgs st) (defBody st) (defScope st) .none kV doc pm an cdv ct) ⟨us,[]⟩ = pure (ps.zip us)) : Binds K fd ps []:=by
  obtain ⟨oc,od,kV,doc,pm,an,cdv,ct,osl,rfl,lk,hcd⟩:=F.ex
  exact .all (h kV doc pm an cdv ct)
theorem fun_mk {x qual : Str} {st : Stmt} {f : Addr} {oc : Value} {od an : Option Addr} {osl : Array (Option Value)} {kV doc pm cdv ct : Value} (l : K.lookup f = some ⟨oc,od,.func (PySem.W.fnOf x qual (defArgs st) (defBody st) (defScope st) .none kV doc pm an cdv ct),osl⟩)
    (c : PySem.W.codeIn K cdv qual = true) (k : PySem.W.keepIn K (.ref f) = true) : Fun K x qual st f (PySem.W.fnOf x qual (defArgs st) (defBody st) (defScope st) .none kV doc pm an cdv ct):=⟨⟨oc,od,kV,doc,pm,an,cdv,ct,osl,rfl,l,c⟩,k⟩
end
theorem small1000 {n : Nat} (h : n ≤ 1000) : n < sizeLine:=Nat.lt_of_le_of_lt h (by decide)
section
variable {X : Cx}
theorem pv (i : Nat) {x : Str} {pos : Pos} (hN : X.N[i]? = some x:=by rfl) (hv : Vis X.env.scope x:=by first | exact Or.inl rfl | exact Or.inr (Or.inl rfl) | exact Or.inr (Or.inr rfl)) (hd : (x == ("__debug__" : Str)) = false:=by decide)
    (hcd : (x == ("__classdict__" : Str)) = false:=by decide) : PE X (.Name x pos) (tVar i):=pe_var hN hv hd hcd
end
theorem iteF {A B : Prop} (h : B) : if false = true then A else B:=by
  rw [if_neg Bool.false_ne_true]
  exact h
theorem iteT {A B : Prop} (h : A) : if true = true then A else B:=by
  rw [if_pos rfl]
  exact h
theorem ite2 {c A B : Prop} [Decidable c] (h1 : c→A) (h2 : ¬ c→B) : if c then A else B:=by
  by_cases h : c
  · rw [if_pos h]
    exact h1 h
  · rw [if_neg h]
    exact h2 h
def Same (H H' : Hp) : Prop:=∀ b o,H b = some o→H' b = some o
theorem Same.refl (H : Hp) : Same H H:=fun _ _ h=>h
theorem Same.trans {H H1 H2 : Hp} (a : Same H H1) (b : Same H1 H2) : Same H H2:=fun c o h=>b c o (a c o h)
theorem Same.free {H H' : Hp} (e : Same H H') {l : Addr} (h : H' l = Option.none) : H l = Option.none:=by
  cases q : H l with
  | none=>rfl
  | some o =>
    rw [e l o q] at h
    cases h
section
variable {κ : Type} [DecidableEq κ]
end
end L2

set_option maxHeartbeats 4000000
namespace L2
open PySem PySem.Spec PyProof.Rows
def tSeqM (t u : TS) : TS:=fun D σ H=>∃ M : St→Hp→Prop,t { D with nx:=M } σ H∧∀ σ' H',M σ' H'→u D σ' H'
theorem pss_cut {X : Cx} {st : Stmt} {rest : List Stmt} {t u : TS} (h1 : PS X st t) (h2 : PSs X rest u) : PSs X (st :: rest) (tSeqM t u):=by
  intro pins s σ H D I h
  obtain ⟨M,h,hM⟩:=h
  refine wpAny_execs_cons (thn (h1 pins s σ H { D with nx:=M } I h) fun f s1 q=>?_)
  cases f with
  | next =>
    obtain ⟨σ',H',I',q⟩:=q
    exact h2 pins s1 σ' H' D I' (hM σ' H' q)
  | brk=>exact q
  | cont=>exact q
  | ret u=>exact q
theorem iteB {c : Bool} {A B : Prop} (hc : c = true) (h : A) : if c = true then A else B:=by rw [if_pos hc]; exact h
theorem iteN {c : Bool} {A B : Prop} (hc : c = false) (h : B) : if c = true then A else B:=by rw [hc]; exact iteF h
def PTs (X : Cx) (ifs : List Expr) (t : TT) : Prop :=
  ∀ (pins : List (Addr × Obj)) (s : Shared) (σ : St) (H : Hp) (Q : Bool→Hp→Prop),Inv X pins σ H s→t σ H Q →
    wpAny (model X.prog X.w) X.A (forIn ifs true fun c r=>if r = true then do let ok ← isTrue c X.env (eval c X.env); pure (ForInStep.yield ok) else pure (ForInStep.yield r)) (TP X pins σ Q) X.xe s
def tYes : TT:=fun _ H Q=>Q true H
theorem yes_if {τ : St} {H : Hp} {A B : Hp→Prop} (h : A H) : tYes τ H (fun b H5=>if b = true then A H5 else B H5):=by
  show if true = true then A H else B H
  exact iteT h
theorem pts_nil {X : Cx} : PTs X [] tYes:=fun _ _ _ H _ I h=>wpAny_tests_nil ⟨H,I,h⟩
theorem pts_one {X : Cx} {c : Expr} {t : TT} (h : PT X c t) : PTs X [c] t:=fun pins s σ H Q I hw=>wpAny_tests_one (h pins s σ H Q I hw)
section
variable {prog : Program} {w : World} {A : Around} {R : Result→Shared→Prop} {s : Shared}
abbrev NoE : Value→Shared→Prop:=fun _ _=>False
theorem ofNoE {α : Type} {m : Sem α} {Q : α→Shared→Prop} {E : Value→Shared→Prop} {s : Shared} (h : wpAny (model prog w) A m Q NoE s) : wpAny (model prog w) A m Q E s :=
  wpAny_mono h (fun _ _ q=>q) fun _ _ z=>z.elim
def afterItem (prog : Program) (w : World) (A : Around) (env : Env) (tg : Expr) (ifs : List Expr) (elt : Expr) (it acc : Value) (again : Shared→Prop) (v : Value) (s1 : Shared) : Prop :=
  wpAny (model prog w) A (letOwnedTupleGo tg it v) (fun _ s2=>wpAny (model prog w) A (assign tg env v) (fun _ s3 =>
    wpAny (model prog w) A (forIn ifs true fun c r=>if r = true then do let ok ← isTrue c env (eval c env); pure (ForInStep.yield ok) else pure (ForInStep.yield r)) (fun ok s4 =>
      if ok = true then wpAny (model prog w) A (eval elt env) (fun x s5=>wpAny (model prog w) A (call (.builtin "list.append") [acc,x]) (fun _ s6=>again s6) NoE s5) NoE s4
      else again s4) NoE s3) NoE s2) NoE s1
theorem block_loop {elt tg iter : Expr} {ifs : List Expr} {scope : Scope} {pos : Pos} {it acc : Value} {env : Env} (J : Nat→Shared→Prop)
    (turn : ∀ n s,J n s→wpAny (model prog w) A (pyNext it) (fun r s1=>match r with
      | none=>R (.ok .next) s1
      | some v=>afterItem prog w A env tg ifs elt it acc (fun s6=>∃ m,m < n∧J m s6) v s1) NoE s)
    (n : Nat) (h : J n s) : codeAny (model prog w) A (.compLoop (.ListComp elt [⟨tg,iter,ifs,0⟩] scope pos) 0 it acc env) R s:=by
  refine codeAny_loop rfl J (fun n s hJ=>?_) n h
  show wpAny _ A ((compTurn (.ListComp elt [⟨tg,iter,ifs,0⟩] scope pos) 0 it acc env).onRaise (fun x=>do noteFrame x env; theTreesLotGoes x)) _ _ s
  refine wpAny_noted (ofNoE ?_)
  rw [compTurn_list]
  refine wpAny_bind (wpAny_standAt (wpAny_bind (thn (turn n s hJ) fun r s1 h1=>?_)))
  cases r with
  | none=>exact wpAny_pure h1
  | some v =>
    refine wpAny_bind (thn h1 fun _ s2 h2=>wpAny_bind (thn h2 fun _ s3 h3=>wpAny_bind (thn h3 fun ok s4 h4=>?_)))
    cases ok with
    | false=>exact wpAny_pure ⟨rfl,h4⟩
    | true=>exact wpAny_bind (wpAny_bind (thn h4 fun x s5 h5=>wpAny_bind (thn h5 fun _ s6 h6=>wpAny_pure (wpAny_pure ⟨rfl,h6⟩))))
end
theorem clos_go {env : Env} : ∀ (names : List (Str × NameKind)) (acc : List (Str × Addr)),(∀ y ∈ names,y.2 = .free→∃ c,env.cells.lookup y.1 = some c)→(∀ x c,acc.lookup x = some c→env.cells.lookup x = some c) →
    ∃ cl,(forIn names acc (fun (y : Str × NameKind) (cs : List (Str × Addr))=>(if (y.2 == NameKind.free) = true then (do let c ← cellOf env y.1; pure (ForInStep.yield ((y.1,c) :: cs))) else pure (ForInStep.yield cs) : Sem (ForInStep (List (Str × Addr)))))) = (pure cl : Sem (List (Str × Addr))) ∧
      (∀ x c,cl.lookup x = some c→env.cells.lookup x = some c)∧(∀ x,(acc.lookup x).isSome = true→(cl.lookup x).isSome = true)∧(∀ y ∈ names,y.2 = .free→(cl.lookup y.1).isSome = true)
  | [],acc,_,h2=>⟨acc,rfl,h2,fun _ h=>h,fun y hy=>by cases hy⟩
  | (n,k) :: r,acc,h1,h2=>by
    have h1' : ∀ y ∈ r,y.2 = .free→∃ c,env.cells.lookup y.1 = some c:=fun y hy=>h1 y (List.mem_cons_of_mem _ hy)
    by_cases hk : k = .free
    · subst hk
      obtain ⟨c,hc⟩:=h1 (n,.free) List.mem_cons_self rfl
      have h2' : ∀ x c',(((n,c) :: acc : List (Str × Addr)).lookup x) = some c'→env.cells.lookup x = some c':=fun x c' e=>by
        rw [List.lookup_cons] at e
        by_cases hx : (x == n) = true
        · rw [hx] at e
          cases e
          rw [beq_iff_eq.mp hx]
          exact hc
        · rw [Bool.not_eq_true] at hx
          rw [hx] at e
          exact h2 x c' e
      obtain ⟨cl,e,p1,p2,p3⟩:=clos_go r ((n,c) :: acc) h1' h2'
      refine ⟨cl,?_,p1,fun x hx=>p2 x ?_,fun y hy hf=>?_⟩
      · rw [List.forIn_cons]
        have q : cellOf env n = pure c:=by unfold cellOf; rw [hc]
        simp only [beq_self_eq_true,if_true,q,pure_bind]
        exact e
      · rw [List.lookup_cons]
        cases q : x == n with
        | true=>rfl
        | false=>exact hx
      · rcases List.mem_cons.mp hy with rfl | hy
        · exact p2 n (by rw [List.lookup_cons,beq_self_eq_true]; rfl)
        · exact p3 y hy hf
    · obtain ⟨cl,e,p1,p2,p3⟩:=clos_go r acc h1' h2
      have hb : (k == NameKind.free) = false:=by simpa using hk
      refine ⟨cl,?_,p1,p2,fun y hy hf=>?_⟩
      · rw [List.forIn_cons]
        simp only [hb,Bool.false_eq_true,if_false,pure_bind]
        exact e
      · rcases List.mem_cons.mp hy with rfl | hy
        · exact absurd hf hk
        · exact p3 y hy hf
structure Clos (env : Env) (scope : Scope) (cl : List (Str × Addr)) : Prop where
  eq : closureFor scope env = pure cl
  sub : ∀ x c,cl.lookup x = some c→env.cells.lookup x = some c
  all : ∀ y ∈ scope.names,y.2 = .free→(cl.lookup y.1).isSome = true
theorem clos_of {env : Env} {scope : Scope} (h : ∀ y ∈ scope.names,y.2 = .free→∃ c,env.cells.lookup y.1 = some c) : ∃ cl,Clos env scope cl:=by
  obtain ⟨cl,e,p1,p2,p3⟩:=clos_go (env:=env) scope.names [] h (fun x c z=>by simp at z)
  refine ⟨cl,⟨?_,p1,p3⟩⟩
  have q : closureFor scope env = (forIn scope.names [] (fun (y : Str × NameKind) (cs : List (Str × Addr))=>(if (y.2 == NameKind.free) = true then (do let c ← cellOf env y.1; pure (ForInStep.yield ((y.1,c) :: cs))) else pure (ForInStep.yield cs) : Sem (ForInStep (List (Str × Addr))))) >>= fun s=>pure s):=rfl
  rw [q,e,pure_bind]
abbrev cxComp (X : Cx) (scope : Scope) (N' : List Str) (cl : List (Str × Addr)) (C : Addr) (s₀ : Shared) (H₀ : Hp) (fp : List Addr) : Cx :=
  { X with N:=N',s₀:=s₀,H₀:=H₀,env:=compEnvC scope cl C X.env,outer:=X.stack,ex:=fp,fn:=fun _=>false,pn:=[],xe:=NoE }
structure Blk where
  cl : List (Str × Addr)
  C : Addr
  s₀ : Shared
  H₀ : Hp
  fp : List Addr
abbrev cxB (X : Cx) (scope : Scope) (N' : List Str) (b : Blk) : Cx:=cxComp X scope N' b.cl b.C b.s₀ b.H₀ b.fp
def isCF : Option NameKind→Bool
  | some .cell=>true
  | some .free=>true
  | _=>false
theorem isCF_iff {k : Option NameKind} (h : isCF k = true) : k = some .cell∨k = some .free:=by
  cases k with
  | none=>cases h
  | some k=>cases k <;> first | exact .inl rfl | exact .inr rfl | cases h
def capOk (N : List Str) (kd kd' : Str→Option NameKind) (N' : List Str) (t : Nat) : List Nat→Nat→Bool
  | [],k=>N'.length == t + k
  | j :: r,k=>(match N[j]?,N'[t + k]? with
    | some x,some y=>(x == y) && isCF (kd x) && isCF (kd' x)
    | _,_=>false) && capOk N kd kd' N' t r (k + 1)
theorem capOk_len {N : List Str} {kd kd' : Str→Option NameKind} {N' : List Str} {t : Nat} : ∀ {caps : List Nat} {k : Nat},capOk N kd kd' N' t caps k = true→N'.length = t + k + caps.length
  | [],k,h=>by
    have:=beq_iff_eq.mp h
    simpa using this
  | j :: r,k,h=>by
    have:=capOk_len (Bool.and_eq_true_iff.mp h).2
    rw [List.length_cons]
    omega
theorem capOk_at {N : List Str} {kd kd' : Str→Option NameKind} {N' : List Str} {t : Nat} : ∀ {caps : List Nat} {k i j : Nat},capOk N kd kd' N' t caps k = true→caps[i]? = some j →
    ∃ x,N[j]? = some x∧N'[t + k + i]? = some x∧isCF (kd x) = true∧isCF (kd' x) = true
  | [],_,_,_,_,e=>by simp at e
  | j :: r,k,0,j',h,e=>by
    simp at e
    subst e
    have h1:=(Bool.and_eq_true_iff.mp h).1
    cases q : N[j]? with
    | none=>rw [q] at h1; cases h1
    | some x =>
      cases q' : N'[t + k]? with
      | none=>rw [q,q'] at h1; cases h1
      | some y =>
        rw [q,q'] at h1
        obtain ⟨h2,h3⟩:=Bool.and_eq_true_iff.mp h1
        obtain ⟨h4,h5⟩:=Bool.and_eq_true_iff.mp h2
        obtain rfl : x = y:=beq_iff_eq.mp h4
        exact ⟨x,rfl,rfl,h5,h3⟩
  | j :: r,k,i + 1,j',h,e=>by
    obtain ⟨x,a,b,c,d⟩:=capOk_at (i:=i) (Bool.and_eq_true_iff.mp h).2 (by simpa using e)
    refine ⟨x,a,?_,c,d⟩
    have q : t + (k + 1) + i = t + k + (i + 1):=by omega
    rw [← q]
    exact b
structure CompOk (X : Cx) (scope : Scope) (N' : List Str) (t : Nat) (caps : List Nat) : Prop where
  kind : scope.kind = .function
  shape : (scope.names.all fun y=>(y.2 == .local && scope.names.lookup y.1 == some .local) || (y.2 == .free && isCF (X.env.kindOf y.1)) || (y.2 == .globalImplicit)) = true
  cap : capOk X.N X.env.kindOf (compEnvC scope [] 0 X.env).kindOf N' t caps 0 = true
theorem CompOk.at {X : Cx} {scope : Scope} {N' : List Str} {t : Nat} {caps : List Nat} (S : CompOk X scope N' t caps) {y : Str × NameKind} (hy : y ∈ scope.names) :
    y.2 ≠ .cell∧(y.2 = .local→scope.names.lookup y.1 = some .local)∧(y.2 = .free→isCF (X.env.kindOf y.1) = true):=by
  have h:=List.all_eq_true.mp S.shape y hy
  obtain ⟨n,k⟩:=y
  cases k <;> simp at h <;> simp [h]
def capS (t : Nat) (caps : List Nat) (σ : St) : St:=List.replicate t none ++ caps.map fun j=>(σ[j]?).join
theorem relabel_cf {scope : Scope} {env : Env} {x : Str} : ∀ {names : List (Str × NameKind)},(∀ y ∈ names,y.2 ≠ .cell)→isCF ((names.map fun (y : Str × NameKind)=>if (y.2 == NameKind.free && env.scope.kind == .function && env.kindOf y.1 == some .cell) = true then (y.1,NameKind.cell) else (y.1,y.2)).lookup x) = true →
    (x,NameKind.free) ∈ names
  | [],_,h=>by simp [isCF] at h
  | (n,k) :: r,hn,h=>by
    have hr : ∀ y ∈ r,y.2 ≠ .cell:=fun y hy=>hn y (List.mem_cons_of_mem _ hy)
    have hk : k ≠ .cell:=hn (n,k) List.mem_cons_self
    rw [List.map_cons] at h
    by_cases hx : (x == n) = true
    · obtain rfl : x = n:=beq_iff_eq.mp hx
      have q : k = .free:=by
        by_cases hf : k = .free
        · exact hf
        · exfalso
          have hb : (k == NameKind.free) = false:=by simpa using hf
          simp only [hb,Bool.false_and,Bool.false_eq_true,if_false,List.lookup_cons,beq_self_eq_true] at h
          cases k <;> simp [isCF] at h hk hf
      subst q
      exact List.mem_cons_self
    · rw [Bool.not_eq_true] at hx
      refine List.mem_cons_of_mem _ (relabel_cf (scope:=scope) (env:=env) hr ?_)
      by_cases hc : (k == NameKind.free && env.scope.kind == .function && env.kindOf n == some .cell) = true
      · simp only [hc,if_true,List.lookup_cons,hx] at h
        exact h
      · rw [Bool.not_eq_true] at hc
        simp only [hc,Bool.false_eq_true,if_false,List.lookup_cons,hx] at h
        exact h
def CompR (J : It) (g : TG) (tc : TT) (te : TE) (Q : VK) (D : Addr) (τ0 : St) (H0 : Hp) : Prop :=
  ∃ W : Nat→Nat→List V→St→Hp→Prop,(∃ m,W 0 m [] τ0 H0)∧∀ i m ys τ H,W i m ys τ H →
    (J.stop i H∧Q (.ref D) H)∨(J.go i H∧∃ N : List V→St→Hp→Prop,(∀ zs τ' H',N zs τ' H'→∃ m',m' < m∧W (i + 1) m' zs τ' H')∧∀ x H3,J.yld i H x H3→g x τ H3 fun τ2 H4=>tc τ2 H4 fun b H5 =>
      if b = true then te τ2 H5 fun y H6=>H6 D = some (.lst ys)∧ys.length < sizeLine∧N (ys ++ [y]) τ2 (upd H6 D (.lst (ys ++ [y]))) else N ys τ2 H5)
def tComp (wi : TI) (g : Blk→TG) (tc : Blk→TT) (te : Blk→TE) (t : Nat) (caps : List Nat) : TE:=fun σ H Q =>
  wi σ H fun J H1=>∀ D,H1 D = none→∀ b : Blk,CompR J (g b) (tc b) (te b) Q D (capS t caps σ) (upd H1 D (.lst []))
theorem comp_by {J : It} {g : TG} {tc : TT} {te : TE} {Q : VK} {D : Addr} {τ0 : St} {H0 : Hp} (n : Nat) (Pv : Nat→List V→St→Hp→Prop) (h0 : Pv 0 [] τ0 H0)
    (hst : ∀ zs τ H,Pv n zs τ H→J.stop n H∧Q (.ref D) H)
    (hgo : ∀ i zs τ H,i < n→Pv i zs τ H→J.go i H∧∀ x H3,J.yld i H x H3→g x τ H3 fun τ2 H4=>tc τ2 H4 fun b H5 =>
      if b = true then te τ2 H5 fun y H6=>H6 D = some (.lst zs)∧zs.length < sizeLine∧Pv (i + 1) (zs ++ [y]) τ2 (upd H6 D (.lst (zs ++ [y]))) else Pv (i + 1) zs τ2 H5) : CompR J g tc te Q D τ0 H0:=by
  refine ⟨fun i m zs τ H=>m = n - i∧i ≤ n∧Pv i zs τ H,⟨n,by simp,Nat.zero_le _,h0⟩,?_⟩
  rintro i m zs τ H ⟨rfl,hi,p⟩
  by_cases hlt : i < n
  · obtain ⟨go,step⟩:=hgo i zs τ H hlt p
    exact .inr ⟨go,Pv (i + 1),fun zs' τ' H' p'=>⟨n - (i + 1),by omega,rfl,hlt,p'⟩,step⟩
  · have e : i = n:=by omega
    subst e
    exact .inl (hst zs τ H p)
theorem comp_list {K : PySem.W.Frag} {a : Addr} {xs : List V} {g : TG} {tc : TT} {te : TE} {Q : VK} {D : Addr} {τ0 : St} {H0 : Hp} (Pv : Nat→List V→St→Hp→Prop) (h0 : Pv 0 [] τ0 H0) (hl : ∀ i zs τ H,Pv i zs τ H→SqL K H a xs)
    (hs : ∀ i x zs τ H,xs[i]? = some x→Pv i zs τ H→g x τ H fun τ2 H4=>tc τ2 H4 fun b H5 =>
      if b = true then te τ2 H5 fun y H6=>H6 D = some (.lst zs)∧zs.length < sizeLine∧Pv (i + 1) (zs ++ [y]) τ2 (upd H6 D (.lst (zs ++ [y]))) else Pv (i + 1) zs τ2 H5)
    (hd : ∀ zs τ H,Pv xs.length zs τ H→Q (.ref D) H) : CompR (Itl K a) g tc te Q D τ0 H0 :=
  comp_by xs.length Pv h0 (fun zs τ H p=>⟨⟨xs,hl _ _ _ _ p,Nat.le_refl _⟩,hd zs τ H p⟩) fun i zs τ H hi p=>⟨⟨xs,xs[i],hl _ _ _ _ p,by simp [hi]⟩,fun x H3 y=>by
    obtain ⟨e,y⟩:=y
    subst e
    exact hs i x zs τ _ (y xs (hl _ _ _ _ p)) p⟩
theorem comp_tup {K : PySem.W.Frag} {a : Addr} {xs : List V} {g : TG} {tc : TT} {te : TE} {Q : VK} {D : Addr} {τ0 : St} {H0 : Hp} (Pv : Nat→List V→St→Hp→Prop) (h0 : Pv 0 [] τ0 H0) (hl : ∀ i zs τ H,Pv i zs τ H→SqT K H a xs)
    (hs : ∀ i x zs τ H,xs[i]? = some x→Pv i zs τ H→g x τ H fun τ2 H4=>tc τ2 H4 fun b H5 =>
      if b = true then te τ2 H5 fun y H6=>H6 D = some (.lst zs)∧zs.length < sizeLine∧Pv (i + 1) (zs ++ [y]) τ2 (upd H6 D (.lst (zs ++ [y]))) else Pv (i + 1) zs τ2 H5)
    (hd : ∀ zs τ H,Pv xs.length zs τ H→Q (.ref D) H) : CompR (Itt K a) g tc te Q D τ0 H0 :=
  comp_by xs.length Pv h0 (fun zs τ H p=>⟨⟨xs,hl _ _ _ _ p,Nat.le_refl _⟩,hd zs τ H p⟩) fun i zs τ H hi p=>⟨⟨xs,xs[i],hl _ _ _ _ p,by simp [hi]⟩,fun x H3 y=>by
    obtain ⟨e,y⟩:=y
    subst e
    exact hs i x zs τ _ (y xs (hl _ _ _ _ p)) p⟩
theorem comp_range {lo : Int} {n : Nat} {g : TG} {tc : TT} {te : TE} {Q : VK} {D : Addr} {τ0 : St} {H0 : Hp} (Pv : Nat→List V→St→Hp→Prop) (h0 : Pv 0 [] τ0 H0)
    (hs : ∀ i zs τ H,i < n→Pv i zs τ H→g (.int (lo + i)) τ H fun τ2 H4=>tc τ2 H4 fun b H5 =>
      if b = true then te τ2 H5 fun y H6=>H6 D = some (.lst zs)∧zs.length < sizeLine∧Pv (i + 1) (zs ++ [y]) τ2 (upd H6 D (.lst (zs ++ [y]))) else Pv (i + 1) zs τ2 H5)
    (hd : ∀ zs τ H,Pv n zs τ H→Q (.ref D) H) : CompR (Itr lo n) g tc te Q D τ0 H0 :=
  comp_by n Pv h0 (fun zs τ H p=>⟨Nat.le_refl _,hd zs τ H p⟩) fun i zs τ H hi p=>⟨hi,fun x H3 y=>by
    obtain ⟨e,y⟩:=y
    subst e y
    exact hs i zs τ _ hi p⟩
section
variable {X : Cx} {tg iter elt : Expr} {ifs : List Expr} {scope : Scope} {pos : Pos} {N' : List Str} {t : Nat} {caps : List Nat} {g : Blk→TG} {tc : Blk→TT} {te : Blk→TE} {wi : TI}
theorem FpOk.heap {pins : List (Addr × Obj)} {H H' : Hp} {b : Addr} (f : FpOk X pins H b) (h : H' b = none) : FpOk X pins H' b:=⟨h,f.2⟩
theorem comp_core {cl : List (Str × Addr)} {J : It} {fp : List Addr} {it : Addr} {tn : Nat→Heap→Prop} {pins : List (Addr × Obj)} {σ : St} {H2 : Hp} {s2 : Shared} {Q : VK} {E : Value→Shared→Prop}
    (hc : X.calm = true) (S : CompOk X scope N' t caps) (L : Clos X.env scope cl)
    (hg : ∀ b,PG (cxB X scope N' b) tg (g b)) (ht : ∀ b,PTs (cxB X scope N' b) ifs (tc b)) (he : ∀ b,PE (cxB X scope N' b) elt (te b))
    (I2 : Inv X pins σ H2 s2) (T : Turn X.prog X.w X.K tg J fp it tn) (st2 : tn 0 s2.heap) (f2 : ∀ b ∈ fp,FpOk X pins H2 b)
    (R : ∀ D,H2 D = none→∀ b,CompR J (g b) (tc b) (te b) Q D (capS t caps σ) (upd H2 D (.lst []))) :
    wpAny (model X.prog X.w) X.A (newList []) (fun acc s3=>wpAny (model X.prog X.w) X.A (newFunctionEnv scope X.env.globals cl [] X.env.qual none .none (some X.env)) (fun cenv s4 =>
      codeAny (model X.prog X.w) X.A (.compStart (.ListComp elt [⟨tg,iter,ifs,0⟩] scope pos) 0 (.ref it) acc { cenv with scope:=relabel scope X.env })
        (fun r s'=>∃ (D : Addr) (H' : Hp) (m : Str→Option Value),acc = .ref D∧r = .ok .next∧Inv X pins σ H' s'∧s'.heap.Ns cenv.locals m∧FpOk X pins H' cenv.locals∧Q (.ref D) H') s4) E s3) E s2:=by
  refine wpAny_newObj_type ?_
  have I3 : Inv X pins σ (upd H2 s2.heap.objs.size (.lst [])) { s2 with heap:=s2.heap.push { cls:=.type "list",data:=.seq ([] : List Value).toArray } }:=I2.lnew (t':=s2.toks) .nil (Nat.zero_le _)
  have hD : H2 s2.heap.objs.size = none:=I2.fresh
  have R:=R _ hD
  generalize hs3 : ({ s2 with heap:=s2.heap.push { cls:=.type "list",data:=.seq ([] : List Value).toArray } } : Shared) = s3 at I3 ⊢
  generalize hH3 : upd H2 s2.heap.objs.size (.lst []) = H3 at I3 R
  generalize hDD : s2.heap.objs.size = D at R ⊢
  have k3 : ∀ b o,s2.heap.get? b = some o→s3.heap.get? b = some o:=fun b o e=>by rw [← hs3]; exact Heap.get?_push_of_some _ e
  have st3 : tn 0 s3.heap:=T.keep 0 _ _ st2 fun b _ o e=>k3 b o e
  have fpn : ∀ b ∈ fp,H3 b = none:=fun b hb=>by
    obtain ⟨o,e,_⟩:=T.obj 0 _ st2 b hb
    rw [← hH3,upd_ne (Nat.ne_of_lt (Heap.lt_size e))]
    exact (f2 b hb).1
  have f3 : ∀ b ∈ fp,FpOk X pins H3 b:=fun b hb=>(f2 b hb).heap (fpn b hb)
  refine wpAny_newFunctionEnv (fun y hy=>(S.at hy).1) (by intro y hy; simp at hy) (fun h4 hns hsb=>?_) S.kind
  generalize hC : s3.heap.objs.size = C at hns hsb ⊢
  have k4 : ∀ b o,s3.heap.get? b = some o→h4.get? b = some o:=fun b o e=>hsb.extBut b o (by rw [← hC]; exact Nat.ne_of_lt (Heap.lt_size e)) (Heap.get?_push_of_some _ e)
  have cellsub : ∀ x c,(cxComp X scope N' cl C s3 H3 fp).env.cells.lookup x = some c→X.env.cells.lookup x = some c:=L.sub
  have hnc : ∀ y ∈ scope.names,y.2 ≠ .cell:=fun y hy=>(S.at hy).1
  have fC : ∀ {H' : Hp},H' C = none→FpOk X pins H' C:=fun h=>by rw [← hC] at h ⊢; exact I3.fpOk (Nat.le_refl _) h
  have I4 : Inv (cxComp X scope N' cl C s3 H3 fp) [] (capS t caps σ) H3 { s3 with heap:=h4,toks:=s3.toks + ([] : List (Str × Value)).length }:=by
    refine ⟨⟨I3.ok.mod,S.kind,I3.ok.glob,I3.ok.blt,Nat.le_of_eq hC,fun x y c h1 h2=>I3.ok.inj x y c (L.sub _ _ h1) (L.sub _ _ h2),fun x hx=>?_,fun x c h _=>absurd (show false = true from h) Bool.false_ne_true,I3.ok.hd,I3.ok.frames,.inl rfl,fun b hb=>⟨?_,fun x c e=>(f3 b hb).2.2.2.2.1 x c (L.sub x c e)⟩,
        I3.bs,Nat.le_trans I3.ok.bsz I3.sz,fun b o e hb=>?_,fun b hb z=>?_,I3.stack,I3.stkFree⟩,
      rfl,I3.bare,Un.kept k4,⟨_,hns,fun i x v e1 e2 e3=>?_⟩,fun x c e=>?_,(by rw [← hC]; exact I3.fresh),fun x c e=>I3.freeC x c (L.sub x c e),fun p hp=>?_,I3.hok.kept k4,?_⟩
    · have hx' : isCF ((relabel scope X.env).names.lookup x) = true:=by
        rcases hx with q | q
        · rw [show (relabel scope X.env).names.lookup x = some .cell from q]; rfl
        · rw [show (relabel scope X.env).names.lookup x = some .free from q]; rfl
      exact Option.isSome_iff_exists.mp (L.all _ (relabel_cf (scope:=scope) hnc hx') rfl)
    · obtain ⟨o,e,_⟩:=T.obj 0 _ st3 b hb
      rw [← hC]
      exact Nat.ne_of_lt (Heap.lt_size e)
    · rcases (f3 b hb).2.2.2.1 with z | z
      · exact I3.ok.noex b o e z
      · exact absurd (Nat.lt_of_lt_of_le (Nat.lt_of_lt_of_le (Heap.lt_size e) I3.ok.bsz) z) (Nat.lt_irrefl _)
    · rcases List.mem_cons.mp (I3.stkSub b z) with q | q
      · exact (f3 b hb).2.1 q
      · exact (f3 b hb).2.2.1 q
    · -- a name that was taken over
      unfold capS at e2
      by_cases hi : i < t
      · rw [List.getElem?_append_left (by simpa using hi),List.getElem?_replicate] at e2
        simp [hi] at e2
      · rw [List.getElem?_append_right (by simpa using hi),List.length_replicate,List.getElem?_map] at e2
        cases q : caps[i - t]? with
        | none=>rw [q] at e2; simp at e2
        | some j =>
          rw [q] at e2
          obtain ⟨y,c1,c2,c3,c4⟩:=capOk_at S.cap q
          have ei : t + 0 + (i - t) = i:=by omega
          rw [ei] at c2
          have exy : x = y:=Option.some.inj ((show N'[i]? = some x from e1).symm.trans c2)
          subst exy
          have e2' : σ[j]? = some (some v):=by
            have e2 : (σ[j]?).join = some v:=Option.some.inj e2
            cases r : σ[j]? with
            | none=>rw [r] at e2; cases e2
            | some z =>
              rw [r] at e2
              have e2 : z = some v:=e2
              rw [e2]
          obtain ⟨m,hn,hl⟩:=I3.loc
          have cf:=isCF_iff c3
          obtain ⟨u,ru,lk⟩:=hl j x v c1 e2' (.inr (by
            rcases cf with z | z
            · exact .inl z
            · exact .inr z))
          refine ⟨u,ru,.inr ⟨isCF_iff c4,?_⟩⟩
          rcases lk with ⟨z,_⟩ | ⟨_,c,ec,zc⟩
          · rcases cf with w | w <;> (rw [z] at w; cases w)
          · have hfree:=relabel_cf (scope:=scope) (env:=X.env) (x:=x) hnc c4
            obtain ⟨c',ec'⟩:=Option.isSome_iff_exists.mp (L.all _ hfree rfl)
            have:=L.sub _ _ ec'
            rw [show X.env.cells.lookup x = some c from ec] at this
            cases this
            obtain ⟨o,ho,hd⟩:=zc
            exact ⟨c,ec',o,k4 _ _ ho,hd⟩
    · obtain ⟨v,o,ho,hd⟩:=I3.cell x c (L.sub x c e)
      exact ⟨v,o,k4 _ _ ho,hd⟩
    · exact absurd (show p ∈ ([] : List (Addr × Obj)) from hp) (by simp)
    · unfold capS
      rw [List.length_append,List.length_replicate,List.length_map,capOk_len S.cap]
      omega
  obtain ⟨W,⟨m0,w0⟩,turn⟩:=R ⟨cl,C,s3,H3,fp⟩
  -- back to the frame outside
  have back : ∀ {τ : St} {H' : Hp} {s' : Shared},Inv (cxComp X scope N' cl C s3 H3 fp) [] τ H' s'→Inv X pins σ H' s':=fun {τ H' s'} J=>by
    refine I3.call' (ch:=fp) (J.os.trans ?_) J.base J.hok J.bare fun b hb=>⟨(f3 b hb).2.2.2.1,(f3 b hb).2.1,(f3 b hb).2.2.2.2.1,(f3 b hb).2.2.2.2.2⟩
    rfl
  have stat : ∀ {H' : Hp},(∀ b ∈ fp,H' b = none)→∀ b ∈ fp,FpOk (cxComp X scope N' cl C s3 H3 fp) [] H' b:=fun {H'} hn b hb=>by
    refine ⟨hn b hb,(I4.ok.exf b hb).1,I4.ok.exfs b hb,.inl hb,(I4.ok.exf b hb).2,fun p hp=>?_⟩
    exact absurd (show p ∈ ([] : List (Addr × Obj)) from hp) (by simp)
  have loop : codeAny (model X.prog X.w) X.A (.compLoop (.ListComp elt [⟨tg,iter,ifs,0⟩] scope pos) 0 (.ref it) (.ref D) (compEnvC scope cl C X.env))
      (fun r s'=>∃ (D' : Addr) (H' : Hp) (m : Str→Option Value),Value.ref D = .ref D'∧r = .ok .next∧Inv X pins σ H' s'∧s'.heap.Ns C m∧FpOk X pins H' C∧Q (.ref D') H') { s3 with heap:=h4,toks:=s3.toks + ([] : List (Str × Value)).length }:=by
    refine block_loop (fun n s'=>∃ i ys τ H',Inv (cxComp X scope N' cl C s3 H3 fp) [] τ H' s'∧tn i s'.heap∧(∀ b ∈ fp,H' b = none)∧W i n ys τ H') ?_ m0 ⟨0,[],_,H3,I4,T.keep 0 _ _ st3 fun b _ o e=>k4 b o e,fpn,w0⟩
    rintro n s5 ⟨i,ys,τ,H5,I5,st5,fr5,w5⟩
    rcases turn i n ys τ H5 w5 with ⟨stop,q⟩ | ⟨go,N,hN,step⟩
    · refine thn (T.done (cxComp X scope N' cl C s3 H3 fp) rfl rfl rfl hc i [] s5 τ H5 NoE I5 (stat fr5) st5 stop) fun r s6 ⟨hr,I6⟩=>?_
      subst hr
      obtain ⟨m,hm,_⟩:=id I6.loc
      exact ⟨D,H5,m,rfl,rfl,back I6,hm,fC I6.free,q⟩
    · refine thn (T.item (cxComp X scope N' cl C s3 H3 fp) rfl rfl rfl hc i [] s5 τ H5 NoE I5 (stat fr5) st5 go) fun r s6 ⟨u,hr,h6⟩=>?_
      subst hr
      refine thn h6 fun _ s7 ⟨x,H7,I7,r7,y7,st7,fr7⟩=>?_
      have I7':=I7.pinned (stat fr7) (T.obj _ _ st7)
      have again : ∀ {τ9 : St} {H9 : Hp} {s9 : Shared} {ys9 : List V} {m' : Nat},Inv (cxComp X scope N' cl C s3 H3 fp) ([] ++ pinsAt fp s7.heap) τ9 H9 s9→m' < n→W (i + 1) m' ys9 τ9 H9 →
          ∃ m,m < n∧∃ i ys τ H',Inv (cxComp X scope N' cl C s3 H3 fp) [] τ H' s9∧tn i s9.heap∧(∀ b ∈ fp,H' b = none)∧W i m ys τ H':=fun {τ9 H9 s9 ys9 m'} I9 hm w9=>by
        refine ⟨m',hm,i + 1,ys9,τ9,H9,I9.unpinned,T.keep _ _ _ st7 fun b hb o e=>(I9.pin (b,o) (List.mem_append_right _ (List.mem_append_right _ (mem_pinsAt hb e)))).1,fun b hb=>?_,w9⟩
        obtain ⟨o,e,_⟩:=T.obj _ _ st7 b hb
        exact (I9.pin (b,o) (List.mem_append_right _ (List.mem_append_right _ (mem_pinsAt hb e)))).2.1
      refine thn (hg ⟨cl,C,s3,H3,fp⟩ _ s7 τ H7 x u _ I7' r7 (step x H7 y7)) fun _ s8 ⟨τ8,H8,I8,q8⟩=>?_
      refine thn (ht ⟨cl,C,s3,H3,fp⟩ _ s8 τ8 H8 _ I8 q8) fun ok s9 ⟨H9,I9,q9⟩=>?_
      cases ok with
      | false =>
        obtain ⟨m',hm,w9⟩:=hN _ _ _ (show N ys τ8 H9 from q9)
        exact again I9 hm w9
      | true =>
        refine thn (he ⟨cl,C,s3,H3,fp⟩ _ s9 τ8 H9 _ I9 q9) fun y s10 ⟨z,H10,I10,r10,hl,hz,q10⟩=>?_
        refine thn (mt_append _ s10 τ8 H10 (.ref D) [z] (.ref D) [y] (fun v H11=>v = .non∧H11 = upd H10 D (.lst (ys ++ [z]))) I10 rfl (.cons r10 .nil) ⟨D,ys,z,rfl,rfl,hl,hz,rfl,rfl⟩) fun _ s11 ⟨v,H11,I11,_,_,e11⟩=>?_
        subst e11
        obtain ⟨m',hm,w10⟩:=hN _ _ _ q10
        exact again I11 hm w10
  exact codeAny_compStart_list loop (T.self _ 0 _ _ _ (T.keep 0 _ _ st3 fun b _ o e=>k4 b o e) loop)
theorem pe_comp (hc : X.calm = true) (S : CompOk X scope N' t caps) (hi : PI X tg iter wi)
    (hg : ∀ b,PG (cxB X scope N' b) tg (g b)) (ht : ∀ b,PTs (cxB X scope N' b) ifs (tc b)) (he : ∀ b,PE (cxB X scope N' b) elt (te b))
    (hs : ∀ x,foldedSetIterable iter X.env x = pure x:=by intro _; rfl) : PE X (.ListComp elt [⟨tg,iter,ifs,0⟩] scope pos) (tComp wi g tc te t caps):=by
  intro pins s σ H Q I h
  obtain ⟨cl,L⟩:=clos_of (env:=X.env) (scope:=scope) fun y hy hf=>I.ok.has y.1 (isCF_iff ((S.at hy).2.2 hf))
  rw [eval_ListComp]
  refine wpAny_comprehension_free (use:=none) rfl hs L.eq S.kind (fun y hy=>(S.at hy).2.1) (thn (hi pins s σ H _ I h) fun x s1 h1=>thn h1 fun itv s2 h2=>?_)
  obtain ⟨it,fp,tn,J,H2,rfl,I2,T,st2,f2,R⟩:=h2
  refine thn (comp_core hc S L hg ht he I2 T st2 f2 R) fun acc s3 h3=>thn h3 fun cenv s4 h4=>codeAny_mono h4 fun r s' hr=>?_
  obtain ⟨D,H',m,rfl,rfl,I',hm,fC,q⟩:=hr
  obtain ⟨c0,c1,c2,c3,c4,c5⟩:=fC
  exact ⟨m,hm,fun h' sb=>⟨.ref D,H',I'.turned (t':=s'.toks) (fun b o hb e=>sb.extBut b o hb e) c0 c1 c3 c4 c5,rfl,q⟩⟩
theorem ps_setComp {i : Nat} {y : Str} {py spos : Pos} (hc : X.calm = true) (hN : X.N.Nodup) (hiy : X.N[i]? = some y) (hy : Loc X.env.scope y) (S : CompOk X scope N' t caps) (hi : PI X tg iter wi)
    (hg : ∀ b,PG (cxB X scope N' b) tg (g b)) (ht : ∀ b,PTs (cxB X scope N' b) ifs (tc b)) (he : ∀ b,PE (cxB X scope N' b) elt (te b))
    (hsw : swapsWith (.ListComp elt [⟨tg,iter,ifs,0⟩] scope pos) (some (.Name y py)) spos.line X.env = pure true:=by rfl)
    (hs : ∀ x,foldedSetIterable iter X.env x = pure x:=by intro _; rfl) (hf : X.fn y = true∨X.env.scope.names.lookup y = some .local:=by first | exact .inl rfl | exact .inr rfl | assumption) :
    PS X (.Assign [.Name y py] (.ListComp elt [⟨tg,iter,ifs,0⟩] scope pos) spos) (tAsg (tComp wi g tc te t caps) (gName i)):=by
  intro pins s σ H D' I h
  obtain ⟨cl,L⟩:=clos_of (env:=X.env) (scope:=scope) fun y hy hf=>I.ok.has y.1 (isCF_iff ((S.at hy).2.2 hf))
  rw [exec_Assign_Name_used _ _ _ _ hsw]
  refine wpAny_bind (wpAny_standAt (wpAny_bind ?_))
  show wpAny _ X.A (comprehension (.ListComp elt [⟨tg,iter,ifs,0⟩] scope pos) scope X.env _ (newList []) false (eval iter X.env) (some (assign (.Name y py) X.env)) >>= fun _=>pure ()) _ _ s
  refine wpAny_bind (thn (Q:=fun _ s'=>SP X pins D' .next s') ?_ fun _ s' hq=>wpAny_pure (wpAny_pure hq))
  refine wpAny_comprehension_free (use:=some (assign (.Name y py) X.env)) rfl hs L.eq S.kind (fun y hy=>(S.at hy).2.1) (thn (hi pins s σ H _ I h) fun x s1 h1=>thn h1 fun itv s2 h2=>?_)
  obtain ⟨it,fp,tn,J,H2,rfl,I2,T,st2,f2,R⟩:=h2
  refine thn (comp_core hc S L hg ht he I2 T st2 f2 R) fun acc s3 h3=>thn h3 fun cenv s4 h4=>codeAny_mono h4 fun r s' hr=>?_
  obtain ⟨D,H',m,rfl,rfl,I',hm,fC,q⟩:=hr
  obtain ⟨c0,c1,c2,c3,c4,c5⟩:=fC
  show wpAny _ X.A (assign (.Name y py) X.env (.ref D)) _ _ _
  refine wpAny_assign_Name (store_ok2 I' hN hiy hy (show RelV (.ref D) (.ref D) from rfl) (fun s'' I'' ⟨a,sb,ha⟩=>?_) hf)
  have hne : cenv.locals ≠ a:=by
    rcases ha with z | z
    · rw [z]; exact c1
    · exact fun z'=>c4 y a z z'.symm
  refine ⟨m,hm.sameBut sb hne,fun h' sb'=>?_⟩
  exact ⟨_,H',I''.turned (t':=s''.toks) (fun b o hb e=>sb'.extBut b o hb e) c0 c1 c3 c4 c5,q⟩
end
end L2

namespace L2
open PySem PySem.Spec PyProof.Rows
def CDivG (i j : Int) : Prop:=0 < j∧j.natAbs.log2 < 9000
section
variable {X : Cx}
theorem op_fdivG : OpR X (binaryOp .FloorDiv) (rI CDivG fun i j=>.int (i / j)):=opI fun i j _ _ _ _ _ hc q=>by
  have e : i.fdiv j = i / j:=Int.fdiv_eq_ediv_of_nonneg i (Int.le_of_lt hc.1)
  exact floordiv_int (Ne.symm (Int.ne_of_lt hc.1)) (by rw [e]; exact q) (.inl (PyProof.noPylong_of_log2 hc.2))
def clsV : V→Option Value
  | .ty n=>some (.type n)
  | .ref a=>some (.ref a)
  | _=>none
theorem clsV_rel {c : V} {cv u : Value} (h : clsV c = some cv) (r : RelV c u) : u = cv:=by
  cases c <;> simp [clsV] at h
  · exact (show u = Value.ref _ from r).trans h
  · exact (show u = Value.type _ from r).trans h
def rIsi (K : PySem.W.Frag) : List V→Hp→VK→Prop:=fun xs H Q=>∃ x c t cv b,xs = [x,c]∧clsV c = some cv∧TyOf K H x t∧PySem.W.kitOne K t cv = some b∧Q (.bl b) H
theorem call_isi : CallR X (.builtin "isinstance") (rIsi X.K):=by
  intro pins s σ H xs us Q I r h
  obtain ⟨x,c,t,cv,b,rfl,hc,ty,e,q⟩:=h
  obtain ⟨u,v,rfl,r1,r2⟩:=r.two
  obtain rfl:=clsV_rel hc r2
  exact isinst_ok I r1 ty e fun tk=>⟨.bl b,H,I.tok tk,rfl,q⟩
end
structure Callee (P : Program) (w : World) (K : PySem.W.Frag) (mg : Str→Option Value) (base : Heap) (x : Str) (f : Addr) (fd : FuncData) (ps : List Str) (k : Nat) (sp : Sp) : Prop where
  ok : FnOk P w K mg base CX0 k f fd ps sp
  g : mg x = some (.ref f)
  kp : PySem.W.keepIn K (.ref f) = true
  b : Binds K fd ps []
structure Maker (P : Program) (w : World) (K : PySem.W.Frag) (mg : Str→Option Value) (base : Heap) (x : Str) (C f : Addr) (fd : FuncData) (ps : List Str) (k : Nat) (sp : Sp) : Prop where
  ok : FnOk P w K mg base CX0 k f fd ps sp
  g : mg x = some (.ref C)
  mm : Mk K C f
  b : Binds K fd ps []
section
variable {X : Cx} {k : Nat} {f C : Addr} {fd : FuncData} {ps : List Str} {sp : Sp} {x m : Str} {p pos apos : Pos} {e o : Expr} {es : List Expr} {ta : TE} {t : TA}
theorem pe_c (c : Callee X.prog X.w X.K X.mg X.base x f fd ps k sp) (hr : Room k X.A) (ha : PA X (e :: es) t) (hg : Gl X x:=by rfl) (hdb : (x == ("__debug__" : Str)) = false:=by decide)
    (he : starEach (e :: es) X.env = (false,eval e X.env) :: starEach es X.env:=by rfl) (hpl : (backTo pos (starEach es X.env)).any (·.1) = false:=by rfl) : PE X (.Call (.Name x p) (e :: es) [] pos) (tCall sp [] E0 t) :=
  pe_call c.ok hr hg c.g c.kp c.b .nil pass0 ha hdb he hpl
theorem pe_m (c : Maker X.prog X.w X.K X.mg X.base x C f fd ps k sp) (hr : Room (k + 1) X.A) (ha : PA X (e :: es) t) (hg : Gl X x:=by rfl) (hdb : (x == ("__debug__" : Str)) = false:=by decide)
    (he : starEach (e :: es) X.env = (false,eval e X.env) :: starEach es X.env:=by rfl) (hpl : (backTo pos (starEach es X.env)).any (·.1) = false:=by rfl) : PE X (.Call (.Name x p) (e :: es) [] pos) (tMake C sp [] E0 t) :=
  pe_make c.mm c.ok hr hg c.g c.b .nil pass0 ha hdb he hpl
def tMethD (X : Cx) (m : Str) (ta : TE) (t : TA) : TE:=fun σ H Q=>ta σ H fun x H1=>∃ (a C dx : Addr) (fs : List (Str × V)) (f : Addr) (fd : FuncData) (ps : List Str) (k : Nat) (sp : Sp),x = .ref a∧H1 a = some (.ins C dx fs)∧fs.lookup m = none∧Cls X.K C∧Meth X.K C m f ∧
  FnOk X.prog X.w X.K X.mg X.base CX0 k f fd ps sp∧Room k X.A∧Binds X.K fd ps []∧t σ H1 fun vs H2=>sp (x :: (vs ++ [])) H2 Q E0
theorem pe_methD {pl : Sem Bool} (he : PE X o ta) (ha : PA X (e :: es) t)
    (hst : starEach (e :: es) X.env = (false,eval e X.env) :: starEach es X.env:=by rfl) (hpl : (backTo pos (starEach es X.env)).any (·.1) = false:=by rfl)
    (ht : eval (.Call (.Attribute o m apos) (e :: es) [] pos) X.env = (do
      let ov ← eval o X.env
      standAt apos.atName
      let (f,first) ← holding [ov] (getMethod ov m pl)
      callWith pos f first (backTo pos (starEach (e :: es) X.env)) (backToKw pos (keywordEach [] X.env))):=by rfl) :
    PE X (.Call (.Attribute o m apos) (e :: es) [] pos) (tMethD X m ta t):=by
  intro pins s σ H Q I h
  refine PySem.W.methodCall_KW (pl:=pl) (thn (he pins s σ H _ I h) fun u s1 ⟨x,H1,I1,rx,a,C,dx,fs,f,fd,ps,k,sp,ex,ea,l,cl,hm,F,hr,hb,q⟩=>?_) ht
  subst ex
  obtain rfl : u = Value.ref a:=rx
  refine getmeth_ok I1 ea cl hm l ?_
  refine PySem.W.callWith_K (first:=[.ref a]) (h₀:=X.base) I.ok.mod.kin hm.kp (thn (ha pos pins s1 σ H1 _ I1 q) fun us s2 ⟨vs,H2,I2,r,q2⟩=>⟨I2.kIn,?_⟩) hst hpl
  exact run_fn (us:=.ref a :: us) (vs:=.ref a :: vs) F hr hb .nil pass0 I2 (.cons rfl r) q2
theorem pe_meth0D {pl : Sem Bool} (he : PE X o ta)
    (ht : eval (.Call (.Attribute o m apos) [] [] pos) X.env = (do
      let ov ← eval o X.env
      standAt apos.atName
      let (f,first) ← holding [ov] (getMethod ov m pl)
      callWith pos f first (backTo pos (starEach [] X.env)) (backToKw pos (keywordEach [] X.env))):=by rfl) :
    PE X (.Call (.Attribute o m apos) [] [] pos) (tMethD X m ta tNil):=by
  intro pins s σ H Q I h
  refine PySem.W.methodCall_KW (pl:=pl) (thn (he pins s σ H _ I h) fun u s1 ⟨x,H1,I1,rx,a,C,dx,fs,f,fd,ps,k,sp,ex,ea,l,cl,hm,F,hr,hb,q⟩=>?_) ht
  subst ex
  obtain rfl : u = Value.ref a:=rx
  refine getmeth_ok I1 ea cl hm l ?_
  exact PySem.W.callWith_K0 (first:=[.ref a]) I1.kIn hm.kp (run_fn (us:=[.ref a]) (vs:=[.ref a]) F hr hb .nil pass0 I1 (.cons rfl .nil) q)
end
end L2

namespace PySem
namespace Zt
inductive SK where
  | l
  | t
def ItAt (k : SK) (h : Heap) (it a : Addr) (i : Nat) : Prop:=match k with
  | .l=>h.IsListIter it a i
  | .t=>h.IsTupleIter it a i
def SqAt (k : SK) (h : Heap) (a : Addr) (xs : Array Value) : Prop:=match k with
  | .l=>h.IsList a xs
  | .t=>h.IsTuple a xs
theorem ItAt.obj {k : SK} {h : Heap} {it a : Addr} {i : Nat} (x : ItAt k h it a i) : ∃ o,h.get? it = some o∧(∀ v,o.data ≠ .cell v):=by
  cases k <;> (obtain ⟨o,e,c,d⟩:=x; exact ⟨o,e,fun v z=>by rw [d] at z; cases z⟩)
theorem ItAt.at {k : SK} {h h' : Heap} {it a : Addr} {i : Nat} (x : ItAt k h it a i) (e : ∀ o,h.get? it = some o→h'.get? it = some o) : ItAt k h' it a i:=by
  cases k
  · exact Heap.IsListIter.at x e
  · exact Heap.IsTupleIter.at x e
theorem SqAt.at {k : SK} {h h' : Heap} {a : Addr} {xs : Array Value} (x : SqAt k h a xs) (e : ∀ o,h.get? a = some o→h'.get? a = some o) : SqAt k h' a xs:=by
  cases k
  · obtain ⟨o,ho,r⟩:=x; exact ⟨o,e o ho,r⟩
  · obtain ⟨o,ho,r⟩:=x; exact ⟨o,e o ho,r⟩
section
variable {prog : Program} {w : World} {A : Around} {E : Value→Shared→Prop} {s : Shared}
theorem next_tup_item {it l : Addr} {i : Nat} {items : Array Value} {x : Value} {Q : Value→Shared→Prop} (hit : s.heap.IsTupleIter it l i) (ht : s.heap.IsTuple l items) (hx : items[i]? = some x)
    (hQ : ∀ h',h'.IsTupleIter it l (i + 1)→Heap.SameBut it s.heap h'→Q x { s with heap:=h' }) : wpAny (model prog w) A (Builtin.SmallTypes.nextOf (.ref it)) Q E s:=by
  obtain ⟨o,ho,hc,hd⟩:=id hit
  obtain ⟨o2,ho2,_,n2,hd2⟩:=ht
  unfold Builtin.SmallTypes.nextOf
  refine wpAny_bind (wpAny_callSpecial?_slot (name:=Str.ofString "__next__") hit.typeIs F.slot_tuple_iterator_next (wpAny_call_entry F.slot_tuple_iterator_next hit.typeIs F.entry_tuple_iterator_next ?_ (F.args_tuple_iterator_next_1 _)))
  show wpAny _ _ (field (.ref it) 0 >>= _) _ _ s; refine wpAny_bind (wpAny_field ho hd (x:=.ref l) rfl ?_)
  show wpAny _ _ (if (Value.ref l == Value.none) = true then _ else _) _ _ s; rw [if_neg (show ¬ ((Value.ref l == Value.none) = true) from Bool.false_ne_true)]
  show wpAny _ _ (field (.ref it) 1 >>= _) _ _ s; refine wpAny_bind (wpAny_field ho hd (x:=.int i 0) rfl ?_)
  show wpAny _ _ (seqItems? (.ref l) >>= _) _ _ s; refine wpAny_bind (wpAny_seqItems ho2 hd2 ?_)
  simp only [Int.toNat_natCast,hx]
  refine wpAny_bind (wpAny_setField ho hd (by simp) (wpAny_pure ⟨x,rfl,wpAny_pure (hQ _ ⟨_,Heap.get?_update_self _ ho (Obj.isFreed_of_fields (Obj.data_mapFields hd _)),(Obj.cls_mapFields ..).trans hc,?_⟩ (Heap.SameBut.update ..))⟩))
  rw [Obj.data_mapFields hd]
  simp [rawInt]
theorem next_tup_end {it l : Addr} {i : Nat} {items : Array Value} {Q : Value→Shared→Prop} (hh : A.handled = none) (hit : s.heap.IsTupleIter it l i) (ht : s.heap.IsTuple l items) (hx : items[i]? = none)
    (hE : ∀ h' e,Heap.ExtBut it s.heap h'→(∃ o,h'.get? e = some o∧o.cls = .type "StopIteration")→E (.ref e) { s with heap:=h' }) : wpAny (model prog w) A (Builtin.SmallTypes.nextOf (.ref it)) Q E s:=by
  obtain ⟨o,ho,hc,hd⟩:=id hit
  obtain ⟨o2,ho2,_,n2,hd2⟩:=ht
  unfold Builtin.SmallTypes.nextOf
  refine wpAny_bind (wpAny_callSpecial?_slot (name:=Str.ofString "__next__") hit.typeIs F.slot_tuple_iterator_next (wpAny_call_entry F.slot_tuple_iterator_next hit.typeIs F.entry_tuple_iterator_next ?_ (F.args_tuple_iterator_next_1 _)))
  show wpAny _ _ (field (.ref it) 0 >>= _) _ _ s; refine wpAny_bind (wpAny_field ho hd (x:=.ref l) rfl ?_)
  show wpAny _ _ (if (Value.ref l == Value.none) = true then _ else _) _ _ s; rw [if_neg (show ¬ ((Value.ref l == Value.none) = true) from Bool.false_ne_true)]
  show wpAny _ _ (field (.ref it) 1 >>= _) _ _ s; refine wpAny_bind (wpAny_field ho hd (x:=.int i 0) rfl ?_)
  show wpAny _ _ (seqItems? (.ref l) >>= _) _ _ s; refine wpAny_bind (wpAny_seqItems ho2 hd2 ?_)
  simp only [Int.toNat_natCast,hx]
  refine wpAny_bind (wpAny_rule (wpAny_bind (wpAny_setField ho hd (by simp) ?_)))
  show wpAny _ _ (newExc (.type "StopIteration") [] >>= _) _ _ _; refine wpAny_bind ?_
  simp only [newExc,newTuple]
  refine wpAny_bind (wpAny_newObj_type ?_ (by size_fits)); refine wpAny_bind (m:=firstArgMember _ _) (wpAny_of_eq (a:=Value.none) (by first | rfl | (simp only [firstArgMember]; rfl)) ?_)
  refine wpAny_newObj_type ?_ (by size_fits); simp only [raiseNew]
  refine wpAny_bind (wpAny_handled ?_); first | rw [show A.in1.handled = none from hh] | rw [hh]
  refine wpAny_bind (wpAny_pure (wpAny_throw ?_))
  exact hE _ _ (((Heap.SameBut.update ..).extBut.push _).push _) ⟨_,Heap.get?_push_size _ rfl,rfl⟩
theorem next_item {k : SK} {it a : Addr} {i : Nat} {xs : Array Value} {x : Value} {Q : Value→Shared→Prop} (hit : ItAt k s.heap it a i) (hs : SqAt k s.heap a xs) (hx : xs[i]? = some x)
    (hQ : ∀ h',ItAt k h' it a (i + 1)→Heap.SameBut it s.heap h'→Q x { s with heap:=h' }) : wpAny (model prog w) A (Builtin.SmallTypes.nextOf (.ref it)) Q E s:=by
  cases k
  · exact wpAny_nextOf_list_item hit hs hx hQ
  · exact next_tup_item hit hs hx hQ
theorem next_end {k : SK} {it a : Addr} {i : Nat} {xs : Array Value} {Q : Value→Shared→Prop} (hh : A.handled = none) (hit : ItAt k s.heap it a i) (hs : SqAt k s.heap a xs) (hx : xs[i]? = none)
    (hE : ∀ h' e,Heap.ExtBut it s.heap h'→(∃ o,h'.get? e = some o∧o.cls = .type "StopIteration")→E (.ref e) { s with heap:=h' }) : wpAny (model prog w) A (Builtin.SmallTypes.nextOf (.ref it)) Q E s:=by
  cases k
  · exact wpAny_nextOf_list_end hh hit hs hx hE
  · exact next_tup_end hh hit hs hx hE
structure Ap (z TI TO i1 i2 : Addr) : Prop where
  a1 : TI ≠ z
  a2 : TO ≠ z
  a3 : i1 ≠ z
  a4 : i2 ≠ z
  a5 : TI ≠ TO
  a6 : TI ≠ i1
  a7 : TI ≠ i2
  a8 : TO ≠ i1
  a9 : TO ≠ i2
  a10 : i1 ≠ i2
structure Off (l z TO i1 i2 : Addr) : Prop where
  b1 : l ≠ z
  b2 : l ≠ TO
  b3 : l ≠ i1
  b4 : l ≠ i2
structure ZAt (k1 k2 : SK) (z TI TO i1 i2 l1 l2 : Addr) (f0 : Value) (i : Nat) (h : Heap) : Prop where
  zz : IsZip h z TI TO f0
  ti : IsPair h TI (.ref i1) (.ref i2)
  to : ∃ a b,IsPair h TO a b
  j1 : ItAt k1 h i1 l1 i
  j2 : ItAt k2 h i2 l2 i
theorem ZAt.keep {k1 k2 : SK} {z TI TO i1 i2 l1 l2 : Addr} {f0 : Value} {i : Nat} {h h' : Heap} (x : ZAt k1 k2 z TI TO i1 i2 l1 l2 f0 i h) (k : ∀ b ∈ [z,TI,TO,i1,i2],∀ o,h.get? b = some o→h'.get? b = some o) : ZAt k1 k2 z TI TO i1 i2 l1 l2 f0 i h':=by
  obtain ⟨p1,p2,⟨a,b,p3⟩,p4,p5⟩:=x
  exact ⟨k z (by simp) _ p1,k TI (by simp) _ p2,⟨a,b,k TO (by simp) _ p3⟩,p4.at fun o e=>k i1 (by simp) o e,p5.at fun o e=>k i2 (by simp) o e⟩
theorem zip_item {k1 k2 : SK} {z TI TO i1 i2 l1 l2 : Addr} {i : Nat} {xs ys : Array Value} {x y : Value} {Q : Value→Shared→Prop} (D : Ap z TI TO i1 i2) (O1 : Off l1 z TO i1 i2) (O2 : Off l2 z TO i1 i2)
    (Z : ZAt k1 k2 z TI TO i1 i2 l1 l2 .none i s.heap) (hl1 : SqAt k1 s.heap l1 xs) (hl2 : SqAt k2 s.heap l2 ys) (hx : xs[i]? = some x) (hy : ys[i]? = some y)
    (hQ : ∀ h',ZAt k1 k2 z TI TO i1 i2 l1 l2 (rawInt s.heap.objs.size) (i + 1) h'→IsPair h' s.heap.objs.size x y→(∀ c o,c ≠ z→c ≠ TO→c ≠ i1→c ≠ i2→s.heap.get? c = some o→h'.get? c = some o)→Q (.ref s.heap.objs.size) { s with heap:=h' }) :
    wpAny (model prog w) A (Builtin.«zip.__next__» ⟨[.ref z],[]⟩) (fun fin s'=>∃ v,fin = .done (.ret v)∧Q v s') E s:=by
  obtain ⟨hz,hTI,⟨a,b,hTO⟩,h1,h2⟩:=Z
  show wpAny _ _ (field (.ref z) 2 >>= _) _ _ _; refine wpAny_bind (wpAny_field hz rfl (x:=.bool false) rfl ?_)
  show wpAny _ _ (field (.ref z) 3 >>= _) _ _ _; refine wpAny_bind (wpAny_field hz rfl (x:=.ref TI) rfl ?_)
  refine wpAny_bind (wpAny_seqItems hTI rfl ?_); show wpAny _ _ (Builtin.SmallTypes.ownedTupleIsFree (.ref z) >>= _) _ _ _
  refine wpAny_bind ?_; unfold Builtin.SmallTypes.ownedTupleIsFree
  refine wpAny_bind (wpAny_field hz rfl (x:=.none) rfl (wpAny_pure ?_)); simp only [if_true]
  refine wpAny_bind (wpAny_rule ?_); refine wpAny_bind (wpAny_field hz rfl (x:=.ref TO) rfl ?_)
  refine wpAny_bind (wpAny_setField_rec hz (by simp) fun g1 y1 s1=>?_); replace y1 : IsZip g1 z TI TO .ellipsis:=y1
  refine wpAny_bind ?_; simp only [List.zipIdx_cons,List.zipIdx_nil,List.forIn_cons,List.forIn_nil]
  refine wpAny_bind (wpAny_bind (wpAny_onRaise ?_)); show wpAny _ _ (Builtin.SmallTypes.nextOf (.ref i1) >>= _) _ _ _
  refine wpAny_bind (next_item (h1.at fun o e=>s1.extBut _ _ D.a3 e) (hl1.at fun o e=>s1.extBut _ _ O1.b1 e) hx fun g2 q1 s2=>wpAny_pure ?_)
  have to2 : IsPair g2 TO a b:=s2.extBut _ _ D.a8 (s1.extBut _ _ D.a2 hTO)
  refine wpAny_bind (wpAny_seqItems to2 rfl ?_); refine wpAny_bind (wpAny_updateSeq_pair to2 fun g3 to3 s3=>?_)
  replace to3 : IsPair g3 TO x b:=to3
  refine wpAny_bind (wpAny_letGo (wpAny_pure ?_)); refine wpAny_bind (wpAny_bind (wpAny_onRaise ?_))
  show wpAny _ _ (Builtin.SmallTypes.nextOf (.ref i2) >>= _) _ _ _
  refine wpAny_bind (next_item (h2.at fun o e=>s3.extBut _ _ D.a9.symm (s2.extBut _ _ D.a10.symm (s1.extBut _ _ D.a4 e))) (hl2.at fun o e=>s3.extBut _ _ O2.b2 (s2.extBut _ _ O2.b3 (s1.extBut _ _ O2.b1 e))) hy fun g4 q2 s4=>wpAny_pure ?_)
  have to4 : IsPair g4 TO x b:=s4.extBut _ _ D.a9 to3
  refine wpAny_bind (wpAny_seqItems to4 rfl ?_); refine wpAny_bind (wpAny_updateSeq_pair to4 fun g5 to5 s5=>?_)
  replace to5 : IsPair g5 TO x y:=to5
  refine wpAny_bind (wpAny_letGo (wpAny_pure (wpAny_pure ?_))); refine wpAny_bind (wpAny_seqItems to5 rfl ?_); refine wpAny_bind (wpAny_newTuple ?_)
  have sz : g5.objs.size = s.heap.objs.size:=by rw [s5.1,s4.1,s3.1,s2.1,s1.1]
  have y5 : IsZip g5 z TI TO .ellipsis:=s5.extBut _ _ D.a2.symm (s4.extBut _ _ D.a4.symm (s3.extBut _ _ D.a2.symm (s2.extBut _ _ D.a3.symm y1)))
  have kk : ∀ c o,c ≠ z→c ≠ TO→c ≠ i1→c ≠ i2→s.heap.get? c = some o→g5.get? c = some o:=fun c o c1 c2 c3 c4 e=>s5.extBut _ _ c2 (s4.extBut _ _ c4 (s3.extBut _ _ c2 (s2.extBut _ _ c3 (s1.extBut _ _ c1 e))))
  have q1' : ItAt k1 g5 i1 l1 (i + 1):=q1.at fun o e=>s5.extBut _ _ D.a8.symm (s4.extBut _ _ D.a10 (s3.extBut _ _ D.a8.symm e))
  have q2' : ItAt k2 g5 i2 l2 (i + 1):=q2.at fun o e=>s5.extBut _ _ D.a9.symm e
  have zlt : z < g5.objs.size:=Heap.lt_size y5
  show wpAny _ _ (Builtin.SmallTypes.ownedTupleHandOut (.ref z) (.ref g5.objs.size) >>= _) _ _ _
  refine wpAny_bind ?_; unfold Builtin.SmallTypes.ownedTupleHandOut
  have y6 : IsZip (g5.push { cls:=.type "tuple",data:=.seq #[x,y] }) z TI TO .ellipsis:=Heap.get?_push_of_some _ y5
  refine wpAny_bind (wpAny_setField_rec y6 (by simp) fun g7 y7 s7=>?_); replace y7 : IsZip g7 z TI TO (rawInt g5.objs.size):=y7
  refine wpAny_setField_rec y7 (by simp) fun g8 y8 s8=>?_; replace y8 : IsZip g8 z TI TO (rawInt g5.objs.size):=y8
  have up : ∀ c o,c ≠ z→g5.get? c = some o→g8.get? c = some o:=fun c o c1 e=>s8.extBut _ _ c1 (s7.extBut _ _ c1 (Heap.get?_push_of_some _ e))
  have tt : IsPair g8 g5.objs.size x y:=s8.extBut _ _ (Nat.ne_of_gt zlt) (s7.extBut _ _ (Nat.ne_of_gt zlt) (Heap.get?_push_size _ rfl))
  rw [sz] at y8 tt
  refine wpAny_pure ⟨_,rfl,?_⟩
  show Q (.ref g5.objs.size) _
  rw [sz]
  exact hQ g8 ⟨y8,up _ _ D.a1 (kk _ _ D.a1 D.a5 D.a6 D.a7 hTI),⟨_,_,up _ _ D.a2 to5⟩,q1'.at fun o e=>up _ o D.a3 e,q2'.at fun o e=>up _ o D.a4 e⟩ tt fun c o c1 c2 c3 c4 e=>up c o c1 (kk c o c1 c2 c3 c4 e)
theorem zip_end {k1 k2 : SK} {z TI TO i1 i2 l1 l2 : Addr} {i : Nat} {xs ys : Array Value} {Q : Fin→Shared→Prop} (hh : A.handled = none) (D : Ap z TI TO i1 i2) (O1 : Off l1 z TO i1 i2) (O2 : Off l2 z TO i1 i2)
    (Z : ZAt k1 k2 z TI TO i1 i2 l1 l2 .none i s.heap) (hl1 : SqAt k1 s.heap l1 xs) (hl2 : SqAt k2 s.heap l2 ys) (hend : xs[i]? = none∨ys[i]? = none)
    (hE : ∀ h' e,(∀ c o,c ≠ z→c ≠ TO→c ≠ i1→c ≠ i2→s.heap.get? c = some o→h'.get? c = some o)→(∃ o,h'.get? e = some o∧o.cls = .type "StopIteration")→E (.ref e) { s with heap:=h' }) :
    wpAny (model prog w) A (Builtin.«zip.__next__» ⟨[.ref z],[]⟩) Q E s:=by
  obtain ⟨hz,hTI,⟨a,b,hTO⟩,h1,h2⟩:=Z
  show wpAny _ _ (field (.ref z) 2 >>= _) _ _ _; refine wpAny_bind (wpAny_field hz rfl (x:=.bool false) rfl ?_)
  show wpAny _ _ (field (.ref z) 3 >>= _) _ _ _; refine wpAny_bind (wpAny_field hz rfl (x:=.ref TI) rfl ?_)
  refine wpAny_bind (wpAny_seqItems hTI rfl ?_); show wpAny _ _ (Builtin.SmallTypes.ownedTupleIsFree (.ref z) >>= _) _ _ _
  refine wpAny_bind ?_; unfold Builtin.SmallTypes.ownedTupleIsFree
  refine wpAny_bind (wpAny_field hz rfl (x:=.none) rfl (wpAny_pure ?_)); simp only [if_true]
  refine wpAny_bind (wpAny_rule ?_); refine wpAny_bind (wpAny_field hz rfl (x:=.ref TO) rfl ?_)
  refine wpAny_bind (wpAny_setField_rec hz (by simp) fun g1 y1 s1=>?_); replace y1 : IsZip g1 z TI TO .ellipsis:=y1
  refine wpAny_bind ?_; simp only [List.zipIdx_cons,List.zipIdx_nil,List.forIn_cons,List.forIn_nil]
  refine wpAny_bind (wpAny_bind (wpAny_onRaise ?_)); show wpAny _ _ (Builtin.SmallTypes.nextOf (.ref i1) >>= _) _ _ _
  have m1:=h1.at (h':=g1) fun o e=>s1.extBut _ _ D.a3 e
  have n1:=hl1.at (h':=g1) fun o e=>s1.extBut _ _ O1.b1 e
  cases hx : xs[i]? with
  | none =>
    refine wpAny_bind (next_end hh m1 n1 hx fun g2 e s2 he=>?_)
    obtain ⟨oe,hoe,hce⟩:=he
    have y2 : IsZip g2 z TI TO .ellipsis:=s2 _ _ D.a3.symm y1
    have hez : e ≠ z:=fun x=>by subst x; rw [y2] at hoe; cases hoe; simp at hce
    exact wpAny_setField_rec y2 (by simp) fun g3 _ s3=>hE g3 e (fun c o c1 _ c3 _ x=>s3.extBut _ _ c1 (s2 _ _ c3 (s1.extBut _ _ c1 x))) ⟨oe,s3.extBut _ _ hez hoe,hce⟩
  | some x =>
    have hy : ys[i]? = none:=by
      rcases hend with h | h
      · rw [hx] at h; cases h
      · exact h
    refine wpAny_bind (next_item m1 n1 hx fun g2 q1 s2=>wpAny_pure ?_)
    have to2 : IsPair g2 TO a b:=s2.extBut _ _ D.a8 (s1.extBut _ _ D.a2 hTO)
    refine wpAny_bind (wpAny_seqItems to2 rfl ?_); refine wpAny_bind (wpAny_updateSeq_pair to2 fun g3 to3 s3=>?_)
    refine wpAny_bind (wpAny_letGo (wpAny_pure ?_)); refine wpAny_bind (wpAny_bind (wpAny_onRaise ?_))
    show wpAny _ _ (Builtin.SmallTypes.nextOf (.ref i2) >>= _) _ _ _
    refine wpAny_bind (next_end hh (h2.at fun o e=>s3.extBut _ _ D.a9.symm (s2.extBut _ _ D.a10.symm (s1.extBut _ _ D.a4 e))) (hl2.at fun o e=>s3.extBut _ _ O2.b2 (s2.extBut _ _ O2.b3 (s1.extBut _ _ O2.b1 e))) hy fun g4 e s4 he=>?_)
    obtain ⟨oe,hoe,hce⟩:=he
    have y4 : IsZip g4 z TI TO .ellipsis:=s4 _ _ D.a4.symm (s3.extBut _ _ D.a2.symm (s2.extBut _ _ D.a3.symm y1))
    have hez : e ≠ z:=fun x=>by subst x; rw [y4] at hoe; cases hoe; simp at hce
    exact wpAny_setField_rec y4 (by simp) fun g5 _ s5=>hE g5 e (fun c o c1 c2 c3 c4 x=>s5.extBut _ _ c1 (s4 _ _ c4 (s3.extBut _ _ c2 (s2.extBut _ _ c3 (s1.extBut _ _ c1 x))))) ⟨oe,s5.extBut _ _ hez hoe,hce⟩
theorem pyNext_item {k1 k2 : SK} {z TI TO i1 i2 l1 l2 : Addr} {i : Nat} {xs ys : Array Value} {x y : Value} {Q : Option Value→Shared→Prop} (D : Ap z TI TO i1 i2) (O1 : Off l1 z TO i1 i2) (O2 : Off l2 z TO i1 i2)
    (Z : ZAt k1 k2 z TI TO i1 i2 l1 l2 .none i s.heap) (hl1 : SqAt k1 s.heap l1 xs) (hl2 : SqAt k2 s.heap l2 ys) (hx : xs[i]? = some x) (hy : ys[i]? = some y)
    (hQ : ∀ h',ZAt k1 k2 z TI TO i1 i2 l1 l2 (rawInt s.heap.objs.size) (i + 1) h'→IsPair h' s.heap.objs.size x y→(∀ c o,c ≠ z→c ≠ TO→c ≠ i1→c ≠ i2→s.heap.get? c = some o→h'.get? c = some o)→Q (some (.ref s.heap.objs.size)) { s with heap:=h' }) :
    wpAny (model prog w) A (pyNext (.ref z)) Q E s:=by
  have hT : s.TypeIs (.ref z) "zip" := ⟨_,Z.zz,rfl⟩
  unfold pyNext
  exact wpAny_bind (wpAny_attempt (wpAny_callSpecial?_slot (name:=Str.ofString "__next__") hT F.slot_zip_next (wpAny_call_entry F.slot_zip_next hT F.entry_zip_next (zip_item D O1 O2 Z hl1 hl2 hx hy fun h' a1 a2 a3=>wpAny_pure (hQ h' a1 a2 a3)) (F.args_zip_next_1 _))))
theorem pyNext_end {k1 k2 : SK} {z TI TO i1 i2 l1 l2 : Addr} {i : Nat} {xs ys : Array Value} {Q : Option Value→Shared→Prop} (hh : A.handled = none) (D : Ap z TI TO i1 i2) (O1 : Off l1 z TO i1 i2) (O2 : Off l2 z TO i1 i2)
    (Z : ZAt k1 k2 z TI TO i1 i2 l1 l2 .none i s.heap) (hl1 : SqAt k1 s.heap l1 xs) (hl2 : SqAt k2 s.heap l2 ys) (hend : xs[i]? = none∨ys[i]? = none)
    (hQ : ∀ h',(∀ c o,c ≠ z→c ≠ TO→c ≠ i1→c ≠ i2→s.heap.get? c = some o→h'.get? c = some o)→Q none { s with heap:=h' }) : wpAny (model prog w) A (pyNext (.ref z)) Q E s:=by
  have hT : s.TypeIs (.ref z) "zip" := ⟨_,Z.zz,rfl⟩
  unfold pyNext
  refine wpAny_bind (wpAny_attempt (wpAny_callSpecial?_slot (name:=Str.ofString "__next__") hT F.slot_zip_next (wpAny_call_entry F.slot_zip_next hT F.entry_zip_next (zip_end hh D O1 O2 Z hl1 hl2 hend fun h' e hk he=>?_) (F.args_zip_next_1 _))))
  obtain ⟨o,ho,hc⟩:=he
  exact wpAny_bind (wpAny_isInstance (T := "StopIteration") (b:=true) ⟨o,ho,hc⟩ isSubtype_stop (wpAny_pure (hQ _ hk)))
end
end Zt
end PySem

namespace PySem
namespace Zt
def itObj (k : SK) (a : Addr) : Obj:=match k with
  | .l=>{ cls:=.type "list_iterator",data:=.fields #[.ref a,.int 0 0] }
  | .t=>{ cls:=.type "tuple_iterator",data:=.fields #[.ref a,.int 0 0] }
theorem itObj_at {k : SK} {h : Heap} {it a : Addr} (e : h.get? it = some (itObj k a)) : ItAt k h it a 0:=by
  cases k <;> exact ⟨_,e,rfl,rfl⟩
theorem pyIter_sq {prog : Program} {w : World} {A : Around} {E : Value→Shared→Prop} {s : Shared} {k : SK} {a : Addr} {xs : Array Value} {Q : Value→Shared→Prop} (h : SqAt k s.heap a xs)
    (hQ : Q (.ref s.heap.objs.size) { s with heap:=s.heap.push (itObj k a) }) : wpAny (model prog w) A (pyIter (.ref a)) Q E s:=by
  cases k
  · exact wpAny_pyIter_list h hQ
  · exact wpAny_pyIter_tuple h hQ
abbrev g1 (k1 : SK) (h : Heap) (l1 : Addr) : Heap:=h.push (itObj k1 l1)
abbrev g2 (k1 k2 : SK) (h : Heap) (l1 l2 : Addr) : Heap:=(g1 k1 h l1).push (itObj k2 l2)
abbrev g3 (k1 k2 : SK) (h : Heap) (l1 l2 : Addr) : Heap:=(g2 k1 k2 h l1 l2).push { cls:=.type "tuple",data:=.seq #[.ref h.objs.size,.ref (g1 k1 h l1).objs.size] }
abbrev g4 (k1 k2 : SK) (h : Heap) (l1 l2 : Addr) : Heap:=(g3 k1 k2 h l1 l2).push { cls:=.type "tuple",data:=.seq #[.none,.none] }
abbrev g5 (k1 k2 : SK) (h : Heap) (l1 l2 : Addr) : Heap:=(g4 k1 k2 h l1 l2).push { cls:=.type "zip",data:=.fields #[.none,.bool false,.bool false,.ref (g2 k1 k2 h l1 l2).objs.size,.ref (g3 k1 k2 h l1 l2).objs.size] }
theorem meets_new (k1 k2 : SK) (l1 l2 : Addr) (xs ys : Array Value) :
    Meets (Builtin.«zip.__new__» ⟨[.type "zip",.ref l1,.ref l2],[]⟩) (fun _ R s=>SqAt k1 s.heap l1 xs∧SqAt k2 s.heap l2 ys∧R (.ok (.ret (.ref (g4 k1 k2 s.heap l1 l2).objs.size))) { s with heap:=g5 k1 k2 s.heap l1 l2 }) :=
  .of_wp fun prog w A R s h=>by
    obtain ⟨hp,g,d,tk,os⟩:=s; obtain ⟨hl1,hl2,h⟩:=h
    have hsub:=sub_zip
    have L1 : SqAt k1 (Shared.heap ⟨hp,g,d,tk,os⟩) l1 xs:=hl1
    have L2 : SqAt k2 (Shared.heap ⟨hp.push (itObj k1 l1),g,d,tk,os⟩) l2 ys:=hl2.at fun o e=>Heap.get?_push_of_some _ e
    wp_walk using pyIter_sq L1,pyIter_sq L2
    exact ⟨_,rfl,h⟩
section
variable {prog : Program} {w : World} {A : Around} {E : Value→Shared→Prop} {s : Shared}
theorem call_zip {k1 k2 : SK} {l1 l2 : Addr} {xs ys : Array Value} {Q : Value→Shared→Prop} (hl1 : SqAt k1 s.heap l1 xs) (hl2 : SqAt k2 s.heap l2 ys)
    (h : ∀ h',ZAt k1 k2 (s.heap.objs.size + 4) (s.heap.objs.size + 2) (s.heap.objs.size + 3) s.heap.objs.size (s.heap.objs.size + 1) l1 l2 .none 0 h'→(∀ c o,s.heap.get? c = some o→h'.get? c = some o)→Q (.ref (s.heap.objs.size + 4)) { s with heap:=h' }) :
    wpAny (model prog w) A (call (.type "zip") [.ref l1,.ref l2]) Q E s:=by
  refine callType_new F.called_zip (by decide) (F.typeCall_zip_2 _ _) (F.newCall_zip_2 _ _) (fun obj=>F.args_object_init_3 obj _ _) F.entry_zip_new (meets_new k1 k2 l1 l2 xs ys) ⟨hl1,hl2,?_⟩
  have z1 : (g1 k1 s.heap l1).objs.size = s.heap.objs.size + 1:=Heap.size_push ..
  have z2 : (g2 k1 k2 s.heap l1 l2).objs.size = s.heap.objs.size + 2:=by rw [Heap.size_push,z1]
  have z3 : (g3 k1 k2 s.heap l1 l2).objs.size = s.heap.objs.size + 3:=by rw [Heap.size_push,z2]
  have z4 : (g4 k1 k2 s.heap l1 l2).objs.size = s.heap.objs.size + 4:=by rw [Heap.size_push,z3]
  have p : ∀ {h : Heap} {o o' : Obj} {b : Addr},h.get? b = some o→(h.push o').get? b = some o:=fun e=>Heap.get?_push_of_some _ e
  have e5 : (g5 k1 k2 s.heap l1 l2).get? (g4 k1 k2 s.heap l1 l2).objs.size = some _:=Heap.get?_push_size _ rfl
  have e4 : (g5 k1 k2 s.heap l1 l2).get? (g3 k1 k2 s.heap l1 l2).objs.size = some _:=p (Heap.get?_push_size _ rfl)
  have e3 : (g5 k1 k2 s.heap l1 l2).get? (g2 k1 k2 s.heap l1 l2).objs.size = some _:=p (p (Heap.get?_push_size _ rfl))
  have e2 : (g5 k1 k2 s.heap l1 l2).get? (g1 k1 s.heap l1).objs.size = some (itObj k2 l2):=p (p (p (Heap.get?_push_size _ (by cases k2 <;> rfl))))
  have e1 : (g5 k1 k2 s.heap l1 l2).get? s.heap.objs.size = some (itObj k1 l1):=p (p (p (p (Heap.get?_push_size _ (by cases k1 <;> rfl)))))
  show _∧_
  rw [z2,z3,z4] at e5
  rw [z1,z2] at e3
  rw [z3] at e4
  rw [z1] at e2
  rw [z4]
  exact ⟨⟨_,e5,rfl⟩,h _ ⟨e5,e3,⟨_,_,e4⟩,itObj_at e1,itObj_at e2⟩ fun c o x=>p (p (p (p (p x))))⟩
end
end Zt
end PySem

namespace L2
open PySem PySem.Spec PyProof.Rows PySem.Zt
def SqK (k : SK) (K : PySem.W.Frag) (H : Hp) (a : Addr) (xs : List V) : Prop:=match k with
  | .l=>SqL K H a xs
  | .t=>SqT K H a xs
section
variable {X : Cx} {pins : List (Addr × Obj)} {σ : St} {H : Hp} {s : Shared} {a b : Addr} {xs ys : List V}
theorem Inv.seqK {k : SK} (I : Inv X pins σ H s) (h : SqK k X.K H a xs) : ∃ its : List Value,Vals xs its∧SqAt k s.heap a its.toArray∧xs.length ≤ sizeLine:=by
  cases k
  · obtain ⟨its,r,p,z⟩:=I.list h
    exact ⟨its,r,p.isList,z⟩
  · obtain ⟨its,r,p,z⟩:=I.tuple h
    exact ⟨its,r,p,z⟩
theorem Inv.seqK_inj {k : SK} (I : Inv X pins σ H s) (h : SqK k X.K H a xs) (h' : SqK k X.K H a ys) : xs = ys:=by
  cases k
  · exact I.list_inj h h'
  · exact I.tuple_inj h h'
theorem Inv.off {k : SK} (I : Inv X pins σ H s) (h : SqK k X.K H a xs) (f : FpOk X pins H b) : a ≠ b:=by
  rintro rfl
  have own : ∀ o,X.K.lookup a = some o→False:=fun o e=>by
    have e':=I.ok.mod.kin a o e
    rcases f.2.2.2.1 with z | z
    · exact I.ok.noex a o e' z
    · exact absurd (Nat.lt_of_lt_of_le (Nat.lt_of_lt_of_le (Heap.lt_size e') I.ok.bsz) z) (Nat.lt_irrefl _)
  cases k
  · rcases h with (h | ⟨o,h⟩) | ⟨o,_,_,h,_⟩
    · rw [f.1] at h; cases h
    · rw [f.1] at h; cases h
    · exact own o h
  · rcases h with (h | ⟨o,h⟩) | ⟨o,_,_,h,_⟩
    · rw [f.1] at h; cases h
    · rw [f.1] at h; cases h
    · exact own o h
theorem Inv.turnedLaid {h' : Heap} {t' : Nat} {ch : List Addr} {T : Addr} {o : HO} (I : Inv X pins σ H s) (hf : ∀ b ∈ ch,FpOk X pins H b) (k : ∀ b u,b ∉ ch→s.heap.get? b = some u→h'.get? b = some u) (hT : s.heap.objs.size ≤ T)
    (new : ObjOk X.prog X.w (upd H T o) h' T o) : Inv X pins σ (upd H T o) { s with heap:=h',toks:=t' }:=by
  have hn : H T = none:=I.hok.fresh hT
  have nch : ∀ b u,H b = some u→b ∉ ch:=fun b u e hb=>by rw [(hf b hb).1] at e; cases e
  have neT : ∀ b u,s.heap.get? b = some u→b ≠ T:=fun b u e=>Nat.ne_of_lt (Nat.lt_of_lt_of_le (Heap.lt_size e) hT)
  refine I.step (g':=s.gens) (d':=s.drawn) (ch:=ch) (fun b hb=>?_) (fun b u _ _ hc e _=>k b u hc e) (fun b u _ _ hc e _=>⟨u.slots,k b u hc e⟩) (fun b u _ e n=>?_) (fun b u hc e=>⟨u,k b u hc e⟩)
    (fun b zs e=>?_) (fun b ob u e=>?_) (fun b ps e=>⟨#[],?_⟩) (fun m hm=>?_) (fun b u e=>?_) I.bare
  · exact ⟨(hf b hb).2.2.2.1,(hf b hb).2.1,(hf b hb).2.2.2.2.1,(hf b hb).2.2.2.2.2⟩
  · rw [upd_ne (neT b u e)]; exact n
  · rw [upd_ne (ne_of_none e hn)]; exact e
  · rw [upd_ne (ne_of_none e hn)]; exact e
  · rw [upd_ne (ne_of_none e hn),e]; simp
  · obtain ⟨ob,es,ep,ho,r⟩:=hm
    exact ⟨ob,es,ep,k _ ob (fun hb=>(hf _ hb).2.1 rfl) ho,r⟩
  · by_cases hb : b = T
    · subst hb
      rw [upd_same] at e
      cases e
      exact new
    · rw [upd_ne hb] at e
      refine (I.hok b u e).stay (fun c v hc q=>k c v ?_ q) (fun c q=>by rw [upd_ne (ne_of_none q hn)]; exact q) fun c zs q=>by rw [upd_ne (ne_of_none q hn)]; exact q
      rcases hc with z | z
      · rw [z]; exact nch b u e
      · exact nch c _ z
theorem Inv.turnedL {h' : Heap} {t' : Nat} {ch : List Addr} (I : Inv X pins σ H s) (hf : ∀ b ∈ ch,FpOk X pins H b) (k : ∀ b u,b ∉ ch→s.heap.get? b = some u→h'.get? b = some u) : Inv X pins σ H { s with heap:=h',toks:=t' }:=by
  have nch : ∀ b u,H b = some u→b ∉ ch:=fun b u e hb=>by rw [(hf b hb).1] at e; cases e
  refine I.step (g':=s.gens) (d':=s.drawn) (ch:=ch) (fun b hb=>?_) (fun b u _ _ hc e _=>k b u hc e) (fun b u _ _ hc e _=>⟨u.slots,k b u hc e⟩) (fun b u _ e n=>n) (fun b u hc e=>⟨u,k b u hc e⟩)
    (fun b zs e=>e) (fun b ob u e=>e) (fun b ps e=>⟨#[],by rw [e]; simp⟩) (fun m hm=>?_) (fun b u e=>?_) I.bare
  · exact ⟨(hf b hb).2.2.2.1,(hf b hb).2.1,(hf b hb).2.2.2.2.1,(hf b hb).2.2.2.2.2⟩
  · obtain ⟨ob,es,ep,ho,r⟩:=hm
    exact ⟨ob,es,ep,k _ ob (fun hb=>(hf _ hb).2.1 rfl) ho,r⟩
  · refine (I.hok b u e).stay (fun c v hc q=>k c v ?_ q) (fun _ q=>q) fun _ _ q=>q
    rcases hc with z | z
    · rw [z]; exact nch b u e
    · exact nch c _ z
end
def Itz (k1 k2 : SK) (K : PySem.W.Frag) (a b : Addr) : It :=
  ⟨fun i H=>∃ xs ys x y,SqK k1 K H a xs∧SqK k2 K H b ys∧xs[i]? = some x∧ys[i]? = some y,
   fun i H v H'=>∃ p,H p = none∧v = .ref p∧∀ xs ys x y,SqK k1 K H a xs→SqK k2 K H b ys→xs[i]? = some x→ys[i]? = some y→H' = upd H p (.tup [x,y]),
   fun i H=>∃ xs ys,SqK k1 K H a xs∧SqK k2 K H b ys∧(xs.length ≤ i∨ys.length ≤ i)⟩
theorem turn_zip {P : Program} {w : World} {K : PySem.W.Frag} {es : List Expr} {n : Nat} {tp : Pos} {k1 k2 : SK} {z TI TO i1 i2 : Addr} (a b : Addr) (D : Ap z TI TO i1 i2) :
    Turn P w K (.Tuple es n tp) (Itz k1 k2 K a b) [z,TI,TO,i1,i2] z (fun i h=>ZAt k1 k2 z TI TO i1 i2 a b .none i h) where
  mem:=by simp
  obj:=fun i h st c hc=>by
    obtain ⟨q1,q2,⟨u,v,q3⟩,q4,q5⟩:=st
    have hc' : c = z∨c = TI∨c = TO∨c = i1∨c = i2:=by simpa using hc
    rcases hc' with rfl | rfl | rfl | rfl | rfl
    · exact ⟨_,q1,fun v z=>by
        have z' : Data.fields _ = Data.cell v:=z
        cases z'⟩
    · exact ⟨_,q2,fun v z=>by
        have z' : Data.seq _ _ = Data.cell v:=z
        cases z'⟩
    · exact ⟨_,q3,fun v z=>by
        have z' : Data.seq _ _ = Data.cell v:=z
        cases z'⟩
    · exact q4.obj
    · exact q5.obj
  keep:=fun i h h' st k=>st.keep k
  item:=by
    intro X hP hw hK hc i pins s σ H E I hf st hg
    subst hP hw hK
    obtain ⟨xs,ys,x,y,ha,hb,hx,hy⟩:=hg
    obtain ⟨its1,r1,p1,_⟩:=I.seqK ha
    obtain ⟨its2,r2,p2,_⟩:=I.seqK hb
    obtain ⟨u1,e1,q1⟩:=r1.get hx
    obtain ⟨u2,e2,q2⟩:=r2.get hy
    have fz:=hf z (by simp)
    have fo:=hf TO (by simp)
    have f1:=hf i1 (by simp)
    have f2:=hf i2 (by simp)
    refine pyNext_item D ⟨I.off ha fz,I.off ha fo,I.off ha f1,I.off ha f2⟩ ⟨I.off hb fz,I.off hb fo,I.off hb f1,I.off hb f2⟩ st p1 p2 (by simpa using e1) (by simpa using e2) fun h1 Z1 T1 kk=>?_
    refine ⟨_,rfl,wpAny_letOwnedTupleGo_zip Z1.zz fun h2 z2 sb=>?_⟩
    have tz : s.heap.objs.size ≠ z:=fun q=>by
      have:=Heap.lt_size st.zz
      rw [← q] at this
      exact Nat.lt_irrefl _ this
    have T2 : IsPair h2 s.heap.objs.size u1 u2:=sb.extBut _ _ tz T1
    have k2 : ∀ c o,c ∉ [z,TO,i1,i2]→s.heap.get? c = some o→h2.get? c = some o:=fun c o hc e=>by
      simp only [List.mem_cons,List.not_mem_nil,or_false,not_or] at hc
      exact sb.extBut c o hc.1 (kk c o hc.1 hc.2.1 hc.2.2.1 hc.2.2.2 e)
    have hn : H s.heap.objs.size = none:=I.fresh
    refine ⟨.ref s.heap.objs.size,upd H s.heap.objs.size (.tup [x,y]),I.turnedLaid (t':=s.toks) (ch:=[z,TO,i1,i2]) (fun c hc=>hf c ?_) k2 (Nat.le_refl _) ?_,rfl,⟨_,hn,rfl,fun xs' ys' x' y' ha' hb' hx' hy'=>?_⟩,?_,fun c hc=>?_⟩
    · simp only [List.mem_cons,List.not_mem_nil,or_false] at hc ⊢
      rcases hc with q | q | q | q <;> simp [q]
    · exact ⟨by show 2 ≤ sizeLine; decide,[u1,u2],.cons q1 (.cons q2 .nil),⟨_,T2,rfl,_,rfl⟩⟩
    · have:=I.seqK_inj ha ha'
      subst this
      have:=I.seqK_inj hb hb'
      subst this
      rw [hx] at hx'
      cases hx'
      rw [hy] at hy'
      cases hy'
      rfl
    · obtain ⟨_,q2,⟨u,v,q3⟩,q4,q5⟩:=Z1
      exact ⟨z2,sb.extBut _ _ D.a1 q2,⟨u,v,sb.extBut _ _ D.a2 q3⟩,q4.at fun o e=>sb.extBut _ _ D.a3 e,q5.at fun o e=>sb.extBut _ _ D.a4 e⟩
    · obtain ⟨q1,q2,⟨u,v,q3⟩,q4,q5⟩:=st
      have lt : ∀ {c o},s.heap.get? c = some o→c ≠ s.heap.objs.size:=fun e=>Nat.ne_of_lt (Heap.lt_size e)
      have hne : c ≠ s.heap.objs.size:=by
        have hc' : c = z∨c = TI∨c = TO∨c = i1∨c = i2:=by simpa using hc
        rcases hc' with rfl | rfl | rfl | rfl | rfl
        · exact lt q1
        · exact lt q2
        · exact lt q3
        · obtain ⟨o,e,_⟩:=q4.obj
          exact lt e
        · obtain ⟨o,e,_⟩:=q5.obj
          exact lt e
      rw [upd_ne hne]
      exact (hf c hc).1
  done:=by
    intro X hP hw hK hc i pins s σ H E I hf st hg
    subst hP hw hK
    obtain ⟨xs,ys,ha,hb,hend⟩:=hg
    obtain ⟨its1,r1,p1,_⟩:=I.seqK ha
    obtain ⟨its2,r2,p2,_⟩:=I.seqK hb
    have l1:=r1.length
    have l2:=r2.length
    have fz:=hf z (by simp)
    have fo:=hf TO (by simp)
    have f1:=hf i1 (by simp)
    have f2:=hf i2 (by simp)
    refine pyNext_end (I.ok.hd hc) D ⟨I.off ha fz,I.off ha fo,I.off ha f1,I.off ha f2⟩ ⟨I.off hb fz,I.off hb fo,I.off hb f1,I.off hb f2⟩ st p1 p2 ?_ fun h' kk=>⟨rfl,I.turnedL (t':=s.toks) (ch:=[z,TO,i1,i2]) (fun c hc=>hf c ?_) fun c o hc e=>?_⟩
    · rcases hend with q | q
      · left; simp; omega
      · right; simp; omega
    · simp only [List.mem_cons,List.not_mem_nil,or_false] at hc ⊢
      rcases hc with q | q | q | q <;> simp [q]
    · simp only [List.mem_cons,List.not_mem_nil,or_false,not_or] at hc
      exact kk c o hc.1 hc.2.1 hc.2.2.1 hc.2.2.2 e
  self:=fun _ _ _ _ _ st h=>wpAny_pyIter_zip st.zz h
theorem ap_new (n : Nat) : Ap (n + 4) (n + 2) (n + 3) n (n + 1) :=
  ⟨Nat.ne_of_lt (by omega),Nat.ne_of_lt (by omega),Nat.ne_of_lt (by omega),Nat.ne_of_lt (by omega),Nat.ne_of_lt (by omega),Nat.ne_of_gt (by omega),Nat.ne_of_gt (by omega),Nat.ne_of_gt (by omega),Nat.ne_of_gt (by omega),Nat.ne_of_lt (by omega)⟩
theorem comp_zip {K : PySem.W.Frag} {k1 k2 : SK} {a b : Addr} {xs ys : List V} {g : TG} {tc : TT} {te : TE} {Q : VK} {D : Addr} {τ0 : St} {H0 : Hp} (hlen : xs.length = ys.length) (Pv : Nat→List V→St→Hp→Prop) (h0 : Pv 0 [] τ0 H0) (hl : ∀ i zs τ H,Pv i zs τ H→SqK k1 K H a xs∧SqK k2 K H b ys)
    (hs : ∀ i x y zs τ H p,xs[i]? = some x→ys[i]? = some y→Pv i zs τ H→H p = none→g (.ref p) τ (upd H p (.tup [x,y])) fun τ2 H4=>tc τ2 H4 fun c H5 =>
      if c = true then te τ2 H5 fun y H6=>H6 D = some (.lst zs)∧zs.length < sizeLine∧Pv (i + 1) (zs ++ [y]) τ2 (upd H6 D (.lst (zs ++ [y]))) else Pv (i + 1) zs τ2 H5)
    (hd : ∀ zs τ H,Pv xs.length zs τ H→Q (.ref D) H) : CompR (Itz k1 k2 K a b) g tc te Q D τ0 H0 :=
  comp_by xs.length Pv h0 (fun zs τ H p=>⟨⟨xs,ys,(hl _ _ _ _ p).1,(hl _ _ _ _ p).2,.inl (Nat.le_refl _)⟩,hd zs τ H p⟩) fun i zs τ H hi p=>by
    have hi2 : i < ys.length:=by omega
    have e1 : xs[i]? = some xs[i]:=by simp [hi]
    have e2 : ys[i]? = some ys[i]:=by simp [hi2]
    refine ⟨⟨xs,ys,xs[i],ys[i],(hl _ _ _ _ p).1,(hl _ _ _ _ p).2,e1,e2⟩,fun v H3 y=>?_⟩
    obtain ⟨q,hq,rfl,y⟩:=y
    rw [y xs ys xs[i] ys[i] (hl _ _ _ _ p).1 (hl _ _ _ _ p).2 e1 e2]
    exact hs i _ _ zs τ H q e1 e2 p hq
theorem pe_cls {X : Cx} {x : Str} {C : Addr} {pos : Pos} (hm : X.mg x = some (.ref C)) (hg : Gl X x:=by rfl) (hd : (x == ("__debug__" : Str)) = false:=by decide) : PE X (.Name x pos) (tC (.ref C)):=pe_glob hg hm rfl hd
theorem pe_bty {X : Cx} {x : Str} {n : String} {pos : Pos} (hm : X.mg x = none) (hv : bootBuiltins x = some (.type n)) (hg : Gl X x:=by rfl) (hn : x ≠ "__name__" := by decide) (hd : (x == ("__debug__" : Str)) = false:=by decide) : PE X (.Name x pos) (tC (.ty n)):=pe_bltn hg hm hv rfl hn hd
def iZip (K : PySem.W.Frag) (ta : TA) : TI:=fun σ H R=>ta σ H fun vs H1=>∃ k1 k2 a b xs ys,vs = [V.ref a,V.ref b]∧SqK k1 K H1 a xs∧SqK k2 K H1 b ys∧R (Itz k1 k2 K a b) H1
theorem bt_len : bootBuiltins "len" = some (.builtin "len"):=by decide +kernel
theorem bt_int : bootBuiltins "int" = some (.type "int"):=by decide +kernel
theorem bt_min : bootBuiltins "min" = some (.builtin "min"):=by decide +kernel
theorem bt_max : bootBuiltins "max" = some (.builtin "max"):=by decide +kernel
theorem bt_isinstance : bootBuiltins "isinstance" = some (.builtin "isinstance"):=by decide +kernel
theorem bt_abs : bootBuiltins "abs" = some (.builtin "abs"):=by decide +kernel
theorem bt_str : bootBuiltins "str" = some (.type "str"):=by decide +kernel
theorem bt_sum : bootBuiltins "sum" = some (.builtin "sum"):=by decide +kernel
theorem bt_bool : bootBuiltins "bool" = some (.type "bool"):=by decide +kernel
theorem bt_tuple : bootBuiltins "tuple" = some (.type "tuple"):=by decide +kernel
theorem bt_ValueError : bootBuiltins "ValueError" = some (.type "ValueError"):=by decide +kernel
theorem b01 (k : Bool) : -(2 ^ 64) < (if k = true then (1 : Int) else 0)∧(if k = true then (1 : Int) else 0) < 2 ^ 64:=by cases k <;> decide
theorem boot_zip : bootBuiltins "zip" = some (.type "zip"):=by decide +kernel
theorem pi_zip {X : Cx} {es : List Expr} {n : Nat} {tp : Pos} {a b : Expr} {ta : TA} {p pos : Pos} (hg : Gl X "zip") (hm : X.mg "zip" = none) (ha : PA X [a,b] ta) (hs : starEach [a,b] X.env = [(false,eval a X.env),(false,eval b X.env)]:=by rfl) (hs2 : starEach [b] X.env = [(false,eval b X.env)]:=by rfl) :
    PI X (.Tuple es n tp) (.Call (.Name "zip" p) [a,b] [] pos) (iZip X.K ta):=by
  intro pins s σ H R I h
  refine Call_ (ld_blt I hg hm boot_zip (PyProof.Rows.callWith_type1 (thn (ha pos pins s σ H _ I h) fun us s1 ⟨vs,H1,I1,r1,q1⟩=>?_) (by rw [hs,hs2]) (by rw [hs2]; rfl)))
  obtain ⟨k1,k2,a',b',xs,ys,e,h1,h2,q⟩:=q1
  subst e
  obtain ⟨u,v,rfl,ru,rv⟩:=r1.two
  cases ru
  cases rv
  obtain ⟨its1,x1,p1,_⟩:=I1.seqK h1
  obtain ⟨its2,x2,p2,_⟩:=I1.seqK h2
  refine call_zip p1 p2 fun h' Z kk=>wpAny_pyIter_zip Z.zz ?_
  have fp : ∀ c ∈ [s1.heap.objs.size + 4,s1.heap.objs.size + 2,s1.heap.objs.size + 3,s1.heap.objs.size,s1.heap.objs.size + 1],FpOk X pins H1 c:=fun c hc=>by
    have hle : s1.heap.objs.size ≤ c:=by
      simp only [List.mem_cons,List.not_mem_nil,or_false] at hc
      rcases hc with q | q | q | q | q <;> rw [q] <;> omega
    exact I1.fpOk hle (I1.hok.fresh hle)
  refine ⟨_,_,_,_,H1,rfl,I1.kept (t':=s1.toks) kk,turn_zip a' b' (ap_new _),Z,fp,q⟩
end L2

namespace L2
open PySem PySem.Spec PyProof.Rows
theorem getD_at {ns : List Int} {i : Nat} (h : i < ns.length) : ns.getD i 0 = ns[i]:=by simp [List.getD,h]
theorem vals_at {ns : List Int} {its : List Value} (r : Vals (ns.map V.int) its) {i : Nat} {v : Value} (e : its.toArray[i]? = some v) : ∃ t,v = .int (ns.getD i 0) t:=by
  have e' : its[i]? = some v:=by simpa using e
  have hi : i < its.length:=(List.getElem?_eq_some_iff.mp e').1
  have hl:=r.length
  rw [List.length_map] at hl
  have hb : i < ns.length:=by omega
  obtain ⟨u,e2,ru⟩:=r.get (i:=i) (x:=V.int ns[i]) (by simp [hb])
  rw [e'] at e2
  cases e2
  obtain ⟨t,rfl⟩:=ru
  exact ⟨t,by rw [getD_at hb]⟩
theorem best_gt (val : Nat→Int) : ∀ k,argBest (fun i j=>decide (val i > val j)) k ≤ k∧∀ j,j ≤ k→val j ≤ val (argBest (fun i j=>decide (val i > val j)) k)
  | 0=>⟨Nat.le_refl _,fun j hj=>by rw [Nat.le_zero.mp hj]; exact Int.le_refl _⟩
  | k + 1=>by
    obtain ⟨h1,h2⟩:=best_gt val k
    show (if decide (val (k + 1) > val (argBest _ k)) = true then k + 1 else argBest _ k) ≤ k + 1∧∀ j,j ≤ k + 1→val j ≤ val (if decide (val (k + 1) > val (argBest _ k)) = true then k + 1 else argBest _ k)
    by_cases q : val (k + 1) > val (argBest (fun i j=>decide (val i > val j)) k)
    · rw [if_pos (decide_eq_true q)]
      refine ⟨Nat.le_refl _,fun j hj=>?_⟩
      by_cases e : j = k + 1
      · rw [e]; exact Int.le_refl _
      · have:=h2 j (by omega)
        omega
    · rw [if_neg (fun z=>q (of_decide_eq_true z))]
      refine ⟨Nat.le_succ_of_le h1,fun j hj=>?_⟩
      by_cases e : j = k + 1
      · rw [e]; omega
      · exact h2 j (by omega)
section
variable {P : Program} {w : World} {A : Around} {R : Result→Shared→Prop} {I S : Addr} {fp wr : List Addr} {n : Nat} {Is : Nat→Value→Prop} {St : Nat→Heap→Prop} {kw : List (Str × Value)}
end
theorem pre_take (ns : List Int) : ∀ k,preSum (fun i=>ns.getD i 0) k = (ns.take k).sum
  | 0=>by simp [preSum]
  | k + 1=>by
    show preSum _ k + ns.getD k 0 = _
    rw [pre_take ns k,List.take_add_one]
    cases q : ns[k]? with
    | none=>simp [List.getD,q]
    | some x=>simp [List.getD,q]
def rSumI (K : PySem.W.Frag) : List V→Hp→VK→Prop:=fun xs H Q=>∃ (a : Addr) (ns : List Int),xs = [V.ref a]∧SqL K H a (ns.map V.int)∧Q (.int ns.sum) H
section
variable {X : Cx}
theorem call_sumI (hc : X.calm = true) : CallR X (.builtin "sum") (rSumI X.K):=by
  intro pins s σ H xs us Q I r h
  obtain ⟨a,ns,rfl,ha,q⟩:=h
  obtain ⟨u,rfl,ru⟩:=r.one
  cases ru
  obtain ⟨its,rv,p,hz⟩:=I.list ha
  have lt : a < s.heap.objs.size:=by
    obtain ⟨_,e,_⟩:=p.isList
    exact Heap.lt_size e
  refine call_sum_walkAnyS (wpAny_pyIter_list p.isList ?_)
  refine ⟨s.heap.objs.size,_,_,_,_,_,_,fun i=>ns.getD i 0,rfl,(Walks.list (A:=X.A.in1) (show X.A.in1.handled = none from I.ok.hd hc) s.heap.objs.size a (Nat.ne_of_lt lt) its.toArray).toS,⟨⟨_,Heap.get?_push_size _ rfl,rfl,rfl⟩,p.isList.push _⟩,fun b hb=>?_,fun i v hv=>vals_at rv hv,fun s' t' hm=>?_⟩
  · show b < (s.heap.push _).objs.size
    rw [Heap.size_push]
    have z : b = s.heap.objs.size∨b = a:=by simpa using hb
    rcases z with z | z
    · rw [z]; exact Nat.lt_succ_self _
    · rw [z]; exact Nat.lt_succ_of_lt lt
  · obtain ⟨h',g',d',tk',os'⟩:=s'
    have e1 : g' = s.gens:=hm.gens
    have e2 : d' = s.drawn:=hm.drawn
    have e3 : os' = s.os:=hm.os
    subst e1 e2 e3
    have hl:=rv.length
    rw [List.length_map] at hl
    rw [pre_take,List.size_toArray,← hl,List.take_length]
    exact ⟨.int _,H,I.kept (t':=tk') fun b o e=>hm.heap b o (fun z=>by
      rw [List.mem_singleton.mp z] at e
      exact Nat.lt_irrefl _ (Heap.lt_size e)) (Heap.get?_push_of_some _ e),⟨_,rfl⟩,q⟩
end
end L2

namespace L2
open PySem PySem.Spec PyProof.Rows
section
variable {P : Program} {w : World} {A : Around} {E : Value→Shared→Prop}
end
end L2

namespace K04
open PySem L2
inductive Ex where
  | num (i : Int)
  | name (x : Str)
  | two (w : Str) (e f : Ex)
  | mod (e : Ex) (n : Int)
  | less (e f g h : Ex)
def Ex.dep : Ex→Nat
  | .num _=>1
  | .name _=>1
  | .two _ e f=>max e.dep f.dep + 1
  | .mod e _=>e.dep + 1
  | .less e f g h=>max (max e.dep f.dep) (max g.dep h.dep) + 1
theorem Ex.dep_pos : ∀ e : Ex,1 ≤ e.dep
  | .num _=>Nat.le_refl _
  | .name _=>Nat.le_refl _
  | .two _ _ _=>Nat.le_add_left _ _
  | .mod _ _=>Nat.le_add_left _ _
  | .less _ _ _ _=>Nat.le_add_left _ _
abbrev TwoW (w : Str) : Prop:=w = "add" ∨ w = "sub" ∨ w = "min" ∨ w = "max"
def Ex.ok (names : List Str) : Ex→Prop
  | .num i=>-100000000000000000000 < i∧i < 100000000000000000000
  | .name x=>x ∈ names
  | .two w e f=>TwoW w∧e.ok names∧f.ok names
  | .mod e n=>(1 ≤ n∧n ≤ 1000000000)∧e.ok names
  | .less e f g h=>e.ok names∧f.ok names∧g.ok names∧h.ok names
def Ext (l : Addr) (H H' : Hp) : Prop:=∀ b o,H b = some o→b ≠ l→H' b = some o
theorem Ext.refl {l : Addr} {H : Hp} : Ext l H H:=fun _ _ e _=>e
theorem Ext.trans {l : Addr} {H H1 H2 : Hp} (a : Ext l H H1) (b : Ext l H1 H2) : Ext l H H2:=fun c o e n=>b c o (a c o e n) n
theorem Ext.same {l : Addr} {H H' : Hp} (a : Same H H') : Ext l H H':=fun c o e _=>a c o e
theorem Ext.new {l p : Addr} {H : Hp} {o : HO} (h : H p = none) : Ext l H (upd H p o):=fun c u e _=>by rw [upd_ne (ne_of_none e h)]; exact e
theorem Ext.at {l : Addr} {H : Hp} {o : HO} : Ext l H (upd H l o):=fun c u e n=>by rw [upd_ne n]; exact e
theorem Same.new {p : Addr} {H : Hp} {o : HO} (h : H p = none) : Same H (upd H p o):=fun c u e=>by rw [upd_ne (ne_of_none e h)]; exact e
def StOk (st : List V) : Prop:=(∃ a : Int,st = [V.int a])∨∃ a b c : Int,st = [V.int a,V.int b,V.int c]
def StAt (H : Hp) (l : Addr) : Prop:=∃ st,H l = some (.lst st)∧StOk st
theorem StAt.new {H : Hp} {l p : Addr} {o : HO} (s : StAt H l) (h : H p = none) : StAt (upd H p o) l:=by
  obtain ⟨st,e,k⟩:=s
  exact ⟨st,by rw [upd_ne (ne_of_none e h)]; exact e,k⟩
theorem StAt.same {H H' : Hp} {l : Addr} (s : StAt H l) (h : Same H H') : StAt H' l:=by
  obtain ⟨st,e,k⟩:=s
  exact ⟨st,h _ _ e,k⟩
def Told (H : Hp) : Ex→V→Prop
  | .num i,v=>∃ p,v = .ref p∧H p = some (.tup [.str "num",.int i])
  | .name x,v=>∃ p,v = .ref p∧H p = some (.tup [.str "name",.str x])
  | .two w e f,v=>∃ p a b,v = .ref p∧H p = some (.tup [.str w,a,b])∧Told H e a∧Told H f b
  | .mod e n,v=>∃ p a,v = .ref p∧H p = some (.tup [.str "mod",a,.int n])∧Told H e a
  | .less e f g h,v=>∃ p a b c d,v = .ref p∧H p = some (.tup [.str "less",a,b,c,d])∧Told H e a∧Told H f b∧Told H g c∧Told H h d
theorem Told.mono {H H' : Hp} (k : ∀ b xs,H b = some (.tup xs)→H' b = some (.tup xs)) : ∀ {e : Ex} {v : V},Told H e v→Told H' e v
  | .num _,_,⟨p,e,h⟩=>⟨p,e,k _ _ h⟩
  | .name _,_,⟨p,e,h⟩=>⟨p,e,k _ _ h⟩
  | .two _ _ _,_,⟨p,a,b,e,h,t1,t2⟩=>⟨p,a,b,e,k _ _ h,t1.mono k,t2.mono k⟩
  | .mod _ _,_,⟨p,a,e,h,t1⟩=>⟨p,a,e,k _ _ h,t1.mono k⟩
  | .less _ _ _ _,_,⟨p,a,b,c,d,e,h,t1,t2,t3,t4⟩=>⟨p,a,b,c,d,e,k _ _ h,t1.mono k,t2.mono k,t3.mono k,t4.mono k⟩
theorem Told.ext {l : Addr} {H H' : Hp} (s : StAt H l) (k : Ext l H H') {e : Ex} {v : V} (t : Told H e v) : Told H' e v:=t.mono fun b xs h=>k b _ h fun z=>by
  obtain ⟨st,q,_⟩:=s
  rw [z,q] at h
  cases h
theorem Told.same {H H' : Hp} (k : Same H H') {e : Ex} {v : V} (t : Told H e v) : Told H' e v:=t.mono fun b xs h=>k b _ h
theorem Told.ref {H : Hp} : ∀ {e : Ex} {v : V},Told H e v→∃ p xs,v = .ref p∧H p = some (.tup xs)
  | .num _,_,⟨p,e,h⟩=>⟨p,_,e,h⟩
  | .name _,_,⟨p,e,h⟩=>⟨p,_,e,h⟩
  | .two _ _ _,_,⟨p,a,b,e,h,_⟩=>⟨p,_,e,h⟩
  | .mod _ _,_,⟨p,a,e,h,_⟩=>⟨p,_,e,h⟩
  | .less _ _ _ _,_,⟨p,a,b,c,d,e,h,_⟩=>⟨p,_,e,h⟩
theorem eqV_refl {x : V} (h : flatV x = true) : eqV x x = true:=by
  cases x <;> simp [flatV] at h <;> simp [eqV]
theorem Same.made {H : Hp} {x dx C : Addr} {fs fs' : List (Str × V)} (nx : H x = none) (ndx : H dx = none) : Same H (upd (upd (upd H dx (.own x)) x (.ins C dx fs')) x (.ins C dx fs)):=fun b o e=>by
  rw [upd_ne (ne_of_none e nx),upd_ne (ne_of_none e nx),upd_ne (ne_of_none e ndx)]
  exact e
theorem two_no {w : Str} (h : TwoW w) : decide (V.str w = V.str "num") = false∧decide (V.str w = V.str "name") = false∧decide (V.str w = V.str "mod") = false∧decide (V.str w = V.str "less") = false:=by
  rcases h with rfl | rfl | rfl | rfl <;> decide +kernel
theorem log_lt {n : Int} {m : Nat} (h1 : 0 < n) (h2 : n.natAbs < 2 ^ m) (h3 : m ≤ 9000) : n.natAbs.log2 < 9000:=by
  have h0 : n.natAbs ≠ 0:=by omega
  have:=(Nat.log2_lt h0 (k:=m)).mpr h2
  omega
theorem pick3 {x y z d : Int} (h0 : 0 ≤ d) (h3 : d < 3) : ∃ v,atI [V.int x,V.int y,V.int z] d = some (.int v)∧(v = x∨v = y∨v = z):=by
  have : d = 0∨d = 1∨d = 2:=by omega
  rcases this with rfl | rfl | rfl
  · exact ⟨x,rfl,.inl rfl⟩
  · exact ⟨y,rfl,.inr (.inl rfl)⟩
  · exact ⟨z,rfl,.inr (.inr rfl)⟩
theorem pick2 {x y d : Int} (h0 : 0 ≤ d) (h3 : d < 2) : ∃ v,atI [V.int x,V.int y] d = some (.int v)∧(v = x∨v = y):=by
  have : d = 0∨d = 1:=by omega
  rcases this with rfl | rfl
  · exact ⟨x,rfl,.inl rfl⟩
  · exact ⟨y,rfl,.inr rfl⟩
theorem pow20 : (10 : Int) ^ (20 : Int).toNat = 100000000000000000000:=by decide
theorem pow9 : (10 : Int) ^ (9 : Int).toNat = 1000000000:=by decide
theorem log_pick {v x y z : Int} (h : v = x∨v = y∨v = z) (hx : 0 < x∧x ≤ 100000000000000000000) (hy : 0 < y∧y ≤ 100000000000000000000) (hz : 0 < z∧z ≤ 100000000000000000000) : 0 < v∧v.natAbs.log2 < 9000:=by
  have hv : 0 < v∧v ≤ 100000000000000000000:=by omega
  refine ⟨hv.1,log_lt (m:=67) hv.1 ?_ (by decide)⟩
  have : v.natAbs ≤ 100000000000000000000:=by omega
  exact Nat.lt_of_le_of_lt this (by decide)
theorem pickN {xs : List Str} {d : Int} (h0 : 0 ≤ d) (h1 : d < (xs.map V.str).length) : ∃ x,x ∈ xs∧atI (xs.map V.str) d = some (V.str x):=by
  rw [List.length_map] at h1
  have hd : d.toNat < xs.length:=by omega
  refine ⟨xs[d.toNat],List.getElem_mem hd,?_⟩
  unfold atI ixN
  rw [List.length_map,if_pos h0,if_pos h1]
  show (xs.map V.str)[d.toNat]? = _
  simp [hd]
theorem pick4s {d : Int} (h0 : 0 ≤ d) (h4 : d < 4) : ∃ x,TwoW x∧atI [V.str "add",V.str "sub",V.str "min",V.str "max"] d = some (V.str x):=by
  have : d = 0∨d = 1∨d = 2∨d = 3:=by omega
  rcases this with rfl | rfl | rfl | rfl
  · exact ⟨"add",.inl rfl,rfl⟩
  · exact ⟨"sub",.inr (.inl rfl),rfl⟩
  · exact ⟨"min",.inr (.inr (.inl rfl)),rfl⟩
  · exact ⟨"max",.inr (.inr (.inr rfl)),rfl⟩
theorem StAt.ne {H : Hp} {l p : Addr} (s : StAt H l) (h : H p = none) : p ≠ l:=by
  obtain ⟨st,e,_⟩:=s
  exact (ne_of_none e h).symm
theorem gn_if {i : Nat} {v : V} {τ : St} {H : Hp} {A B : St→Hp→Prop} (h : A (τ.set i (some v)) H) : gName i v τ H fun τ2 H4=>tYes τ2 H4 fun b H5=>if b = true then A τ2 H5 else B τ2 H5:=by
  show if true = true then A (τ.set i (some v)) H else B (τ.set i (some v)) H
  exact iteT h
theorem Told.updL {H : Hp} {D : Addr} {zs : List V} {o : HO} (hD : H D = some (.lst zs)) {e : Ex} {v : V} (t : Told H e v) : Told (upd H D o) e v:=t.mono fun b xs h=>by
  have hb : b ≠ D:=ne_of h hD (by intro z; cases z)
  rw [upd_ne hb]
  exact h
theorem log_1009 : ((1009 : Int).natAbs.log2 < 9000):=by decide
theorem log_2003 : ((2003 : Int).natAbs.log2 < 9000):=by decide
end K04

namespace K04
open PySem L2
def isIB : V→Bool
  | .int _=>true
  | .bl _=>true
  | _=>false
def isBl : V→Bool
  | .bl _=>true
  | _=>false
def isSt : V→Bool
  | .str _=>true
  | _=>false
def Lf (K : PySem.W.Frag) (H : Hp) (v : V) : Prop:=∃ t,TyOf K H v t∧PySem.W.kitOne K t (.type "int") = some (isIB v)∧PySem.W.kitOne K t (.type "bool") = some (isBl v)∧PySem.W.kitOne K t (.type "str") = some (isSt v)
def whole : V→Bool
  | .int _=>true
  | _=>false
def shortN : V→Bool
  | .int i=>decide ((if i < 0 then -i else i) < 100000000000000000000)
  | _=>false
def wordIn (ws : List Str) : V→Bool
  | .str x=>inV (.str x) (ws.map V.str)
  | _=>false
def divr : V→Bool
  | .int i=>decide (1 ≤ i) && decide (i ≤ 1000000000)
  | _=>false
theorem whole_eq (v : V) : whole v = (isIB v && !isBl v):=by cases v <;> rfl
theorem whole_int {v : V} (h : whole v = true) : ∃ i,v = .int i:=by
  cases v <;> simp [whole] at h
  exact ⟨_,rfl⟩
theorem isSt_str {v : V} (h : isSt v = true) : ∃ x,v = .str x:=by
  cases v <;> simp [isSt] at h
  exact ⟨_,rfl⟩
theorem inV_str {x : Str} : ∀ {ws : List Str},inV (.str x) (ws.map V.str) = true↔x ∈ ws
  | []=>by simp [inV]
  | w :: ws=>by
    have ih:=inV_str (x:=x) (ws:=ws)
    unfold inV at ih ⊢
    rw [List.map_cons,List.any_cons,Bool.or_eq_true,List.mem_cons,ih]
    constructor
    · rintro (h | h)
      · left
        have : V.str w = V.str x:=by simpa [eqV] using h
        cases this
        rfl
      · exact .inr h
    · rintro (h | h)
      · left
        subst h
        exact eqV_refl rfl
      · exact .inr h
theorem flat_strs (ws : List Str) : (ws.map V.str).all flatV = true:=by
  rw [List.all_eq_true]
  intro v hv
  obtain ⟨x,_,rfl⟩:=List.mem_map.mp hv
  rfl
inductive Gx where
  | num (v : V)
  | name (v : V)
  | two (w : V) (e f : Gx)
  | mod (e : Gx) (n : V)
  | less (e f g h : Gx)
  | oth (v : V)
abbrev twoWs : List Str:=["add", "sub", "min", "max"]
def Gx.sound (names : List Str) : Nat→Gx→Bool
  | 0,_=>false
  | _ + 1,.num v=>shortN v
  | _ + 1,.name v=>wordIn names v
  | n + 1,.two w e f=>wordIn twoWs w && ([e,f].all (Gx.sound names n))
  | n + 1,.mod e v=>divr v && Gx.sound names n e
  | n + 1,.less e f g h=>[e,f,g,h].all (Gx.sound names n)
  | _ + 1,.oth _=>false
def Ex.gx : Ex→Gx
  | .num i=>.num (.int i)
  | .name x=>.name (.str x)
  | .two w e f=>.two (.str w) e.gx f.gx
  | .mod e n=>.mod e.gx (.int n)
  | .less e f g h=>.less e.gx f.gx g.gx h.gx
theorem Ex.sound {names : List Str} : ∀ {n : Nat} {e : Ex},e.ok names→e.dep ≤ n→e.gx.sound names n = true
  | 0,e,_,d=>by have:=e.dep_pos; omega
  | n + 1,.num i,o,d=>by
    obtain ⟨o1,o2⟩:=o
    show decide _ = true
    refine decide_eq_true ?_
    split <;> omega
  | n + 1,.name x,o,d=>inV_str.mpr o
  | n + 1,.two w e f,o,d=>by
    obtain ⟨hw,o1,o2⟩:=o
    have d : max e.dep f.dep + 1 ≤ n + 1:=d
    have h1:=Ex.sound (n:=n) o1 (by omega)
    have h2:=Ex.sound (n:=n) o2 (by omega)
    show (inV (.str w) (twoWs.map V.str) && ([e.gx,f.gx].all _)) = true
    have hw' : inV (.str w) (twoWs.map V.str) = true:=inV_str.mpr (by rcases hw with rfl | rfl | rfl | rfl <;> simp)
    rw [hw']
    simp [h1,h2]
  | n + 1,.mod e i,o,d=>by
    obtain ⟨⟨i1,i2⟩,o1⟩:=o
    have d : e.dep + 1 ≤ n + 1:=d
    have h1:=Ex.sound (n:=n) o1 (by omega)
    show ((decide (1 ≤ i) && decide (i ≤ 1000000000)) && e.gx.sound names n) = true
    simp [h1,i1,i2]
  | n + 1,.less e f g h,o,d=>by
    obtain ⟨o1,o2,o3,o4⟩:=o
    have d : max (max e.dep f.dep) (max g.dep h.dep) + 1 ≤ n + 1:=d
    have h1:=Ex.sound (n:=n) o1 (by omega)
    have h2:=Ex.sound (n:=n) o2 (by omega)
    have h3:=Ex.sound (n:=n) o3 (by omega)
    have h4:=Ex.sound (n:=n) o4 (by omega)
    show ([e.gx,f.gx,g.gx,h.gx].all _) = true
    simp [h1,h2,h3,h4]
def Ex.words : Ex→List Str
  | .num i=>[toString i]
  | .name x=>[x]
  | .two w e f=>w :: (e.words ++ f.words)
  | .mod e n => "mod" :: (e.words ++ [(toString n : Str)])
  | .less e f g h => "less" :: (e.words ++ (f.words ++ (g.words ++ h.words)))
def Ex.size : Ex→Nat
  | .num _=>1
  | .name _=>1
  | .two _ e f=>1 + e.size + f.size
  | .mod e _=>2 + e.size
  | .less e f g h=>1 + e.size + f.size + g.size + h.size
theorem Ex.words_len : ∀ e : Ex,e.words.length = e.size
  | .num _=>rfl
  | .name _=>rfl
  | .two _ e f=>by simp [Ex.words,Ex.size,Ex.words_len e,Ex.words_len f]; omega
  | .mod e _=>by simp [Ex.words,Ex.size,Ex.words_len e]; omega
  | .less e f g h=>by simp [Ex.words,Ex.size,Ex.words_len e,Ex.words_len f,Ex.words_len g,Ex.words_len h]; omega
end K04

namespace K04
open PySem L2
theorem Gx.of_sound {names : List Str} : ∀ {n : Nat} {g : Gx},g.sound names n = true→∃ e : Ex,g = e.gx∧e.ok names∧e.dep ≤ n
  | 0,_,h=>by cases h
  | n + 1,.num v,h=>by
    cases v with
    | int i =>
      have h : decide ((if i < 0 then -i else i) < 100000000000000000000) = true:=h
      have h:=of_decide_eq_true h
      refine ⟨.num i,rfl,?_,Nat.le_add_left _ _⟩
      split at h
      · constructor <;> omega
      · constructor <;> omega
    | _=>cases h
  | n + 1,.name v,h=>by
    cases v with
    | str x=>exact ⟨.name x,rfl,inV_str.mp h,Nat.le_add_left _ _⟩
    | _=>cases h
  | n + 1,.two w e f,h=>by
    have h : (wordIn twoWs w && ([e,f].all (Gx.sound names n))) = true:=h
    rw [Bool.and_eq_true] at h
    obtain ⟨hw,h⟩:=h
    simp only [List.all_cons,List.all_nil,Bool.and_true,Bool.and_eq_true] at h
    obtain ⟨e1,rfl,o1,d1⟩:=Gx.of_sound h.1
    obtain ⟨e2,rfl,o2,d2⟩:=Gx.of_sound h.2
    cases w with
    | str x =>
      refine ⟨.two x e1 e2,rfl,⟨?_,o1,o2⟩,by show max e1.dep e2.dep + 1 ≤ n + 1; omega⟩
      have hm : x ∈ twoWs:=inV_str.mp hw
      simp only [List.mem_cons,List.not_mem_nil,or_false] at hm
      exact hm
    | _=>cases hw
  | n + 1,.mod e v,h=>by
    have h : (divr v && Gx.sound names n e) = true:=h
    rw [Bool.and_eq_true] at h
    obtain ⟨e1,rfl,o1,d1⟩:=Gx.of_sound h.2
    cases v with
    | int i =>
      have h1 : (decide (1 ≤ i) && decide (i ≤ 1000000000)) = true:=h.1
      rw [Bool.and_eq_true] at h1
      exact ⟨.mod e1 i,rfl,⟨⟨of_decide_eq_true h1.1,of_decide_eq_true h1.2⟩,o1⟩,by show e1.dep + 1 ≤ n + 1; omega⟩
    | _=>cases h.1
  | n + 1,.less e f g k,h=>by
    have h : [e,f,g,k].all (Gx.sound names n) = true:=h
    simp only [List.all_cons,List.all_nil,Bool.and_true,Bool.and_eq_true] at h
    obtain ⟨h1,h2,h3,h4⟩:=h
    obtain ⟨e1,rfl,o1,d1⟩:=Gx.of_sound h1
    obtain ⟨e2,rfl,o2,d2⟩:=Gx.of_sound h2
    obtain ⟨e3,rfl,o3,d3⟩:=Gx.of_sound h3
    obtain ⟨e4,rfl,o4,d4⟩:=Gx.of_sound h4
    exact ⟨.less e1 e2 e3 e4,rfl,⟨o1,o2,o3,o4⟩,by show max (max e1.dep e2.dep) (max e3.dep e4.dep) + 1 ≤ n + 1; omega⟩
  | n + 1,.oth _,h=>by cases h
theorem Ex.gx_inj : ∀ {e f : Ex},e.gx = f.gx→e = f
  | .num i,.num j,h=>by cases h; rfl
  | .name i,.name j,h=>by cases h; rfl
  | .two w e f,.two w' e' f',h=>by
    injection h with h1 h2 h3
    cases h1
    rw [Ex.gx_inj h2,Ex.gx_inj h3]
  | .mod e n,.mod e' n',h=>by
    injection h with h1 h2
    cases h2
    rw [Ex.gx_inj h1]
  | .less e f g k,.less e' f' g' k',h=>by
    injection h with h1 h2 h3 h4
    rw [Ex.gx_inj h1,Ex.gx_inj h2,Ex.gx_inj h3,Ex.gx_inj h4]
theorem pow4 {a b : Nat} (h : a ≤ b) : 4 ^ a ≤ 4 ^ b:=Nat.pow_le_pow_right (by decide) h
theorem Ex.size_le : ∀ e : Ex,3 * e.size + 1 ≤ 4 ^ e.dep
  | .num _=>by show 4 ≤ 4 ^ 1; decide
  | .name _=>by show 4 ≤ 4 ^ 1; decide
  | .two _ e f=>by
    have h1:=e.size_le
    have h2:=f.size_le
    have p1:=pow4 (Nat.le_max_left e.dep f.dep)
    have p2:=pow4 (Nat.le_max_right e.dep f.dep)
    show 3 * (1 + e.size + f.size) + 1 ≤ 4 ^ (max e.dep f.dep + 1)
    rw [Nat.pow_succ]
    omega
  | .mod e _=>by
    have h1:=e.size_le
    have h3:=e.dep_pos
    have p1 : 4 ^ 1 ≤ 4 ^ e.dep:=pow4 h3
    show 3 * (2 + e.size) + 1 ≤ 4 ^ (e.dep + 1)
    rw [Nat.pow_succ]
    omega
  | .less e f g k=>by
    have h1:=e.size_le
    have h2:=f.size_le
    have h3:=g.size_le
    have h4:=k.size_le
    have p1:=pow4 (Nat.le_trans (Nat.le_max_left e.dep f.dep) (Nat.le_max_left _ (max g.dep k.dep)))
    have p2:=pow4 (Nat.le_trans (Nat.le_max_right e.dep f.dep) (Nat.le_max_left _ (max g.dep k.dep)))
    have p3:=pow4 (Nat.le_trans (Nat.le_max_left g.dep k.dep) (Nat.le_max_right (max e.dep f.dep) _))
    have p4:=pow4 (Nat.le_trans (Nat.le_max_right g.dep k.dep) (Nat.le_max_right (max e.dep f.dep) _))
    show 3 * (1 + e.size + f.size + g.size + k.size) + 1 ≤ 4 ^ (max (max e.dep f.dep) (max g.dep k.dep) + 1)
    rw [Nat.pow_succ]
    omega
theorem Ex.size_line {e : Ex} (h : e.dep ≤ 8) : e.size ≤ sizeLine:=by
  have h1:=e.size_le
  have h2 : 4 ^ e.dep ≤ 65536:=pow4 h
  have : sizeLine = 16777216:=by decide
  omega
end K04

namespace L2
open PySem PySem.Spec PyProof.Rows
def DictAt (a D : Addr) (h : Heap) : Prop:=∃ o,h.get? a = some o∧o.dict = some D
def KD (h h' : Heap) : Prop:=∀ a D,DictAt a D h→DictAt a D h'
def Kp {α : Type} : Sem α→Prop
  | .pure _=>True
  | .raise _=>True
  | .unsupported _=>True
  | .finish _=>True
  | .rule _ k=>Kp (k ())
  | .at _ k=>Kp (k ())
  | .load _ _ k=>∀ o,Kp (k o)
  | .update _ _ f k=>(∀ o,(f o).dict = o.dict∧((f o).data = .freed→o.data = .freed))∧Kp (k ())
  | .alloc _ k=>∀ a,Kp (k a)
  | .loadIfAlive _ k=>∀ o,Kp (k o)
  | .point _ k=>Kp (k ())
  | .register _ _=>True
  | .fresh k=>∀ t,Kp (k t)
  | .ask k=>∀ x,Kp (k x)
  | .choose _ _ k=>∀ n,Kp (k n)
  | .os _ _ k=>∀ r,Kp (k r)
  | .call ..=>False
  | .handled _ k=>∀ o,Kp (k o)
  | .newGen _ k=>∀ n,Kp (k n)
  | .genState _ k=>∀ x,Kp (k x)
  | .resume ..=>False
  | .yield ..=>True
  | .stack k=>∀ l,Kp (k l)
  | .fork ..=>True
  | .thread k=>∀ n,Kp (k n)
  | .await ..=>True
section
variable {α β : Type}
theorem kp_bind0 (m : Sem α) (f : α→Sem β) (h : Kp m) (k : ∀ x,Kp (f x)) : Kp (m.bind f):=by
  induction m <;> simp only [Kp,Sem.bind] at h ⊢ <;> first | trivial | exact k _ | (rename_i ih; exact ih _ h) | (rename_i ih; exact ⟨h.1,ih _ h.2⟩) | (rename_i ih; exact fun x=>ih x (h x))
theorem kp_bind {m : Sem α} {f : α→Sem β} (h : Kp m) (k : ∀ x,Kp (f x)) : Kp (m >>= f):=kp_bind0 m f h k
theorem kp_pure {x : α} : Kp (pure x : Sem α):=True.intro
theorem kp_ite {c : Prop} [Decidable c] {a b : Sem α} (h : Kp a) (k : Kp b) : Kp (if c then a else b):=by split <;> assumption
theorem DictAt.upd {h : Heap} {a D b : Addr} {f : Obj→Obj} (hf : ∀ o,(f o).dict = o.dict∧((f o).data = .freed→o.data = .freed)) (x : DictAt a D h) : DictAt a D (h.update b f):=by
  obtain ⟨o,e,d⟩:=x
  by_cases hb : b = a
  · subst hb
    refine ⟨f o,Heap.get?_update_self f e ?_,(hf o).1.trans d⟩
    cases q : (f o).isFreed with
    | false=>rfl
    | true =>
      exfalso
      have q1 : (f o).data = .freed:=by
        revert q
        generalize f o = u
        intro q
        obtain ⟨c,d',dt,sl⟩:=u
        cases dt <;> first | rfl | cases q
      have q2:=(hf o).2 q1
      obtain ⟨c,d',dt,sl⟩:=o
      cases q2
      simp only [Heap.get?] at e
      split at e
      · cases e
      · rename_i hne
        exact hne _ _ _ e
  · exact ⟨o,(Heap.get?_update_other _ _ hb).trans e,d⟩
theorem DictAt.keeps {h h' : Heap} {a D : Addr} (x : DictAt a D h) (k : ∀ b o,h.get? b = some o→h'.get? b = some o) : DictAt a D h':=let ⟨o,e,d⟩:=x; ⟨o,k _ _ e,d⟩
theorem wp_kp {M : Model} {Γ : PySem.Ctx} (t : Sem α) {Q : α→Pos→Shared→Prop} {E : Value→Pos→Shared→Prop} {h0 : Heap} (g : Kp t) (p : Pos) (s : Shared) (k : KD h0 s.heap) (h : Sem.wp M Γ t Q E p s) :
    Sem.wp M Γ t (fun a p' s'=>Q a p' s'∧KD h0 s'.heap) E p s:=by
  induction t generalizing p s with
  | pure x=>exact ⟨h,k⟩
  | raise v=>exact h
  | unsupported | finish | yield | fork | await | register=>exact h
  | rule _ _ ih | «at» _ _ ih | point _ _ ih=>exact ih _ g _ _ k h
  | loadIfAlive _ _ ih | fresh _ ih | ask _ ih | os _ _ _ ih | handled _ _ ih | newGen _ _ ih | stack _ ih | thread _ ih=>exact ih _ (g _) _ _ k h
  | alloc o _ ih=>exact ih _ (g _) _ _ (fun a D x=>(k a D x).keeps fun b u e=>Heap.get?_push_of_some _ e) h
  | load _ _ _ ih | genState _ _ ih =>
    obtain ⟨o,ho,h⟩:=h
    exact ⟨o,ho,ih _ (g _) _ _ k h⟩
  | choose _ _ _ ih=>exact ⟨h.1,ih _ (g _) _ _ k h.2⟩
  | update a _ f _ ih=>exact ⟨h.1,ih _ g.2 _ _ (fun b D x=>(k b D x).upd g.1) h.2⟩
  | call=>exact False.elim g
  | resume=>exact False.elim g
theorem wpAny_kp {M : Model} {A : Around} {t : Sem α} {Q : α→Shared→Prop} {E : Value→Shared→Prop} {s : Shared} (g : Kp t) (h : wpAny M A t Q E s) : wpAny M A t (fun a s'=>Q a s'∧KD s.heap s'.heap) E s :=
  fun Γ p hΓ=>wp_kp t g p s (fun _ _ x=>x) (h Γ p hΓ)
theorem kp_load {a : Addr} : Kp (load a):=fun _=>True.intro
theorem kp_fieldsOf {v : Value} : Kp (fieldsOf v):=by
  unfold fieldsOf
  cases v <;> first | trivial | skip
  refine kp_bind kp_load fun o=>?_
  split <;> trivial
theorem kp_field {v : Value} {i : Nat} : Kp (field v i):=by
  unfold field
  refine kp_bind kp_fieldsOf fun o=>?_
  split <;> trivial
theorem kp_fields_f {g : Array Value→Array Value} (o : Obj) : (Obj.mapFields g o).dict = o.dict∧((Obj.mapFields g o).data = .freed→o.data = .freed):=by
  obtain ⟨c,d,dt,sl⟩:=o
  cases dt <;> exact ⟨rfl,fun q=>by first | rfl | cases q⟩
theorem kp_updateField {a : Addr} {i : Nat} {x : Value} : Kp (updateField a i x):=by
  unfold updateField
  refine kp_bind kp_load fun o=>?_
  split
  · refine kp_ite ?_ True.intro
    exact ⟨kp_fields_f,True.intro⟩
  · trivial
theorem kp_setField {v : Value} {i : Nat} {x : Value} : Kp (setField v i x):=by
  unfold setField
  cases v <;> first | trivial | exact kp_updateField
theorem kp_setFlight {e : Value} {f : Option Addr} : Kp (setFlight e f):=by
  unfold setFlight
  exact kp_bind kp_field fun o=>kp_ite kp_setField kp_pure
theorem kp_keptBack {env : Env} {b : Bool} {l : List Env} : Kp (keptBack env b l):=by
  unfold keptBack
  cases l with
  | nil =>
    dsimp only
    refine kp_ite kp_pure (kp_bind ?_ fun x=>kp_pure)
    unfold underTheClaimsCaller
    first | exact fun _=>True.intro | exact kp_bind (fun _=>True.intro) fun _=>True.intro
  | cons c l=>exact kp_pure
theorem kp_behind {env : Env} {l : List Env} : Kp (behindIsImport env l):=by
  unfold behindIsImport
  refine kp_ite kp_pure (kp_ite kp_pure ?_)
  exact kp_bind kp_field fun _=>kp_pure
theorem kp_ready (l : List Env) : Kp (readyFrames l):=by
  induction l with
  | nil=>trivial
  | cons env l ih =>
    unfold readyFrames
    split
    · refine kp_bind kp_load fun o=>kp_ite kp_pure (kp_bind kp_behind fun b=>kp_bind kp_keptBack fun v=>kp_bind ?_ fun _=>ih)
      exact ⟨fun o=>⟨rfl,id⟩,True.intro⟩
    · trivial
theorem kp_frameOf {env : Env} : Kp (PySem.frameOf env):=by
  unfold PySem.frameOf
  refine kp_bind (kp_bind (fun _=>True.intro) fun _=>True.intro) fun l=>kp_bind ?_ fun o=>?_
  · generalize l.dropWhile _ = l'
    cases l' with
    | nil=>trivial
    | cons c r =>
      unfold frameObject
      exact kp_bind (kp_ready _) fun _=>kp_pure
  · split <;> trivial
theorem kp_entryPlace {f : Addr} {b : Bool} : Kp (entryPlaceOf f b):=by
  unfold entryPlaceOf
  refine kp_bind (fun _=>True.intro) fun l=>?_
  split <;> trivial
theorem kp_newEntry {a b c d e : Value} {pl : List Value} : Kp (EntryCells.newEntry a b c d e pl):=by
  unfold EntryCells.newEntry newFields newObj newObjAsIs
  dsimp only
  have al : ∀ o : Obj,Kp (alloc o):=fun _ _=>True.intro
  refine kp_ite ?_ ?_
  · exact kp_bind (m:=Sem.unsupported _) True.intro fun _=>kp_bind (al _) fun _=>kp_pure
  · exact kp_bind (al _) fun _=>kp_pure
theorem kp_noteFrame {e : Value} {env : Env} : Kp (noteFrame e env):=by
  unfold noteFrame
  split
  · refine kp_bind kp_field fun hd=>?_
    refine kp_ite (kp_bind kp_field fun _=>kp_ite kp_pure (kp_bind kp_setField fun _=>?_)) ?_
    · exact kp_bind kp_frameOf fun _=>kp_bind kp_entryPlace fun _=>kp_bind kp_newEntry fun _=>kp_setField
    · exact kp_bind kp_frameOf fun _=>kp_bind kp_entryPlace fun _=>kp_bind kp_newEntry fun _=>kp_setField
  · trivial
theorem kp_leaving {e : Value} {env : Env} : Kp (leaving env e):=by
  unfold leaving
  exact kp_bind kp_noteFrame fun _=>kp_setFlight
end
section
variable {M : Model} {A : Around} {E : Value→Shared→Prop} {s : Shared} {base : Heap} {l : List Env} {env : Env} {outer : List Env} {L e : Addr} {cls a0 : Value} {Q : Unit→Shared→Prop}
theorem leavesK (hfr : A.frames = some (env :: outer)) (hf : env.frame = some L) (hfl : Heap.FlyingW base (env :: outer) e cls a0 s.heap)
    (hQ : ∀ h',Heap.FlyingW base outer e cls a0 h'→s.heap.UpToSlots h'→KD s.heap h'→Q () { s with heap:=h' }) : wpAny M A (leaving env (.ref e)) Q E s :=
  wpAny_mono (wpAny_kp kp_leaving (wpAny_leaves_onW (Q:=fun _ s2=>∃ h',s2 = { s with heap:=h' }∧Heap.FlyingW base outer e cls a0 h'∧s.heap.UpToSlots h') hfr hf hfl fun h' a b=>⟨h',rfl,a,b⟩))
    (fun _ s2 ⟨⟨h',q,a,b⟩,k⟩=>by subst q; exact hQ h' a b k) fun _ _ z=>z
theorem looksK (hfr : A.frames = some (env :: outer)) (hf : env.frame = some L) (hfl : Heap.FlyingW base (env :: outer) e cls a0 s.heap)
    (hQ : ∀ h',Heap.HeldW base (env :: outer) e cls a0 L h'→s.heap.UpToSlots h'→KD s.heap h'→Q () { s with heap:=h' }) : wpAny M A (noteFrame (.ref e) env) Q E s :=
  wpAny_mono (wpAny_kp kp_noteFrame (wpAny_looks_onW (Q:=fun _ s2=>∃ h',s2 = { s with heap:=h' }∧Heap.HeldW base (env :: outer) e cls a0 L h'∧s.heap.UpToSlots h') hfr hf hfl fun h' a b=>⟨h',rfl,a,b⟩))
    (fun _ s2 ⟨⟨h',q,a,b⟩,k⟩=>by subst q; exact hQ h' a b k) fun _ _ z=>z
theorem landsK (hh : Heap.HeldW base l e cls a0 L s.heap) (hQ : ∀ h',Heap.FlyingW base l e cls a0 h'→s.heap.UpToSlots h'→KD s.heap h'→Q () { s with heap:=h' }) : wpAny M A (setFlight (.ref e) none) Q E s :=
  wpAny_mono (wpAny_kp kp_setFlight (wpAny_landsW (Q:=fun _ s2=>∃ h',s2 = { s with heap:=h' }∧Heap.FlyingW base l e cls a0 h'∧s.heap.UpToSlots h') hh fun h' a b=>⟨h',rfl,a,b⟩))
    (fun _ s2 ⟨⟨h',q,a,b⟩,k⟩=>by subst q; exact hQ h' a b k) fun _ _ z=>z
theorem landsK2 (hh : Heap.FlyingW base l e cls a0 s.heap) (hQ : ∀ h',Heap.FlyingW base l e cls a0 h'→s.heap.UpToSlots h'→KD s.heap h'→Q () { s with heap:=h' }) : wpAny M A (setFlight (.ref e) none) Q E s :=
  wpAny_mono (wpAny_kp kp_setFlight (lands_againW (Q:=fun _ s2=>∃ h',s2 = { s with heap:=h' }∧Heap.FlyingW base l e cls a0 h'∧s.heap.UpToSlots h') hh fun h' a b=>⟨h',rfl,a,b⟩))
    (fun _ s2 ⟨⟨h',q,a,b⟩,k⟩=>by subst q; exact hQ h' a b k) fun _ _ z=>z
theorem firstK {oe : Obj} {vs : Array Value} (hfr : A.frames = some (env :: outer)) (hl : s.heap.FunFrames base (env :: outer)) (hf : env.frame = some L) (he : s.heap.get? e = some oe) (hkb : base.StaysIn s.heap) (hen : base.get? e = none)
    (hd : oe.data = .fields vs) (h1 : vs[1]? = some .none) (h0 : vs[0]? = some a0)
    (hQ : ∀ h',Heap.FlyingW base outer e oe.cls a0 h'→s.heap.UpToSlots h'→KD s.heap h'→Q () { s with heap:=h' }) : wpAny M A (leaving env (.ref e)) Q E s :=
  wpAny_mono (wpAny_kp kp_leaving (wpAny_leaving_firstW (Q:=fun _ s2=>∃ h',s2 = { s with heap:=h' }∧Heap.LeftW base (env :: outer) e oe.cls a0 s.heap h') hfr hl hf he hkb hen hd h1 h0 fun h' a=>⟨h',rfl,a⟩))
    (fun _ s2 ⟨⟨h',q,a⟩,k⟩=>by
      subst q
      obtain ⟨k1,⟨_,_,k2⟩,k3,k4⟩:=a
      exact hQ h' ⟨k1,hen,k2,k3⟩ k4 k) fun _ _ z=>z
end
end L2

namespace L2
open PySem PySem.Spec PyProof.Rows
section
variable {P : Program} {w : World} {H H' : Hp} {h h' : Heap} {a : Addr} {o : HO}
theorem ObjOk.thr (x : ObjOk P w H h a o) : ∃ u,h.get? a = some u:=by
  cases o with
  | lst xs=>obtain ⟨_,_,_,_,e⟩:=x; exact ⟨_,e⟩
  | tup xs=>obtain ⟨_,_,_,_,e,_⟩:=x; exact ⟨_,e⟩
  | dK kvs=>obtain ⟨_,_,_,_,o,_,_,e,_⟩:=x; exact ⟨_,e⟩
  | dT kvs=>obtain ⟨_,_,_,_,o,_,_,e,_⟩:=x; exact ⟨_,e⟩
  | set S n=>obtain ⟨o,_,_,_,e,_⟩:=x; exact ⟨_,e⟩
  | ins C dx fs=>obtain ⟨_,_,_,e,_⟩:=x; exact ⟨_,e⟩
  | own y=>obtain ⟨_,e⟩:=x; exact ⟨_,e⟩
  | xd fs=>obtain ⟨_,⟨_,_,_,e,_⟩,_⟩:=x; exact ⟨_,e⟩
  | rng lo hi=>obtain ⟨_,_,_,e⟩:=x; exact ⟨_,e⟩
  | frz ob u=>obtain ⟨e,_⟩:=x; exact ⟨_,e⟩
  | tbl ps=>exact ⟨_,show h.get? a = some _ from x⟩
  | met f y=>exact ⟨_,show h.get? a = some _ from x⟩
  | ext φ=>obtain ⟨_,⟨_,e⟩,_⟩:=x; exact ⟨_,e⟩
theorem HOk.thr (x : HOk P w H h) (e : H a = some o) : ∃ u,h.get? a = some u:=(x a o e).thr
theorem HOk.keptT (x : HOk P w H h) (k : ∀ b u,H b ≠ none→h.get? b = some u→h'.get? b = some u) : HOk P w H h':=fun a o e =>
  (x a o e).stay (fun b u hb q=>k b u (by rcases hb with rfl | hb <;> simp_all) q) (fun _ q=>q) fun _ _ q=>q
end
structure Lies (P : Program) (w : World) (l : List Env) (H : Hp) (s : Shared) (H' : Hp) (s' : Shared) (B : Heap) : Prop where
  os : s'.os = s.os
  bare : AllBare s'.gens
  un : Un (frs l) [] H H' s.heap s'.heap
  hok : HOk P w H' s'.heap
  c1 : ∀ b o,s.heap.get? b = some o→H b = none→b ∉ frs l→B.get? b = some o
  c2 : ∀ b o,H' b ≠ none→s'.heap.get? b = some o→B.get? b = some o
  c3 : ∀ b o,s.heap.get? b = some o→b ∉ frs l→∃ o',B.get? b = some o'
abbrev CX1 (P : Program) (w : World) : CXT:=fun l H s E e s'=>∃ (a : Addr) (cls a0 : Value) (H' : Hp) (B : Heap),e = .ref a∧Lies P w l H s H' s' B∧Heap.FlyingW B l a cls a0 s'.heap∧∃ dd : Option Addr,(∀ D,dd = some D→DictAt a D s'.heap)∧E cls dd H'
section
variable {X : Cx} {pins : List (Addr × Obj)} {σ : St} {H H' : Hp} {s s' : Shared} {B h2 : Heap} {t2 : Nat}
theorem Lies.un2 (I : Inv X pins σ H s) (L : Lies X.prog X.w X.stack H s H' s' B) (st : B.StaysIn h2) (up : s'.heap.UpToSlots h2) : Un (frs X.stack) [] H H' s.heap h2:=by
  have sl : ∀ b o,s.heap.get? b = some o→b ∈ frs X.stack→∃ z,h2.get? b = some { o with slots:=z }:=fun b o q hb=>by
    obtain ⟨z,e1⟩:=L.un.slot b o q (I.stkFree b hb) hb (by simp)
    obtain ⟨_,o',ho',hd⟩:=I.stack.mem hb
    rw [q] at ho'
    cases ho'
    obtain ⟨z2,e2⟩:=up b _ e1 (fun vs z=>hd vs z)
    exact ⟨z2,e2⟩
  refine ⟨fun b o q n hb _=>st b o (L.c1 b o q n hb),fun b o q _ hb _=>sl b o q hb,fun b o q n hx=>L.un.free b o q n hx,fun b o q _=>?_,L.un.tups,L.un.frzs,L.un.tbls⟩
  by_cases hb : b ∈ frs X.stack
  · obtain ⟨z,e⟩:=sl b o q hb
    exact ⟨_,e⟩
  · obtain ⟨o',e⟩:=L.c3 b o q hb
    exact ⟨o',st b o' e⟩
theorem Lies.ok2 {l : List Env} {P : Program} {w : World} (L : Lies P w l H s H' s' B) (st : B.StaysIn h2) : HOk P w H' h2:=L.hok.keptT fun b u hb q=>st b u (L.c2 b u hb q)
theorem Lies.inv (I : Inv X pins σ H s) (L : Lies X.prog X.w X.stack H s H' s' B) (st : B.StaysIn h2) (up : s'.heap.UpToSlots h2) : Inv X pins σ H' { s' with heap:=h2,toks:=t2 }:=by
  refine I.call' (s':={ s' with heap:=h2,toks:=t2 }) (ch:=[]) L.os (L.un2 I st up) (L.ok2 st) L.bare (fun b z=>absurd z (by simp))
theorem Lies.out (I : Inv X pins σ H s) (L : Lies X.prog X.w X.stack H s H' s' B) (st : B.StaysIn h2) (up : s'.heap.UpToSlots h2) (hx : X.ex = []) : Lies X.prog X.w X.outer X.H₀ X.s₀ H' { s' with heap:=h2 } B:=by
  have J:=Lies.inv (t2:=s'.toks) I L st up
  have ns : ∀ b o,X.s₀.heap.get? b = some o→b ∉ frs X.outer→b ∉ frs X.stack:=fun b o q hb z=>by
    rcases List.mem_cons.mp (I.stkSub b z) with e | e
    · exact absurd (Nat.lt_of_lt_of_le (Heap.lt_size q) I.ok.above) (by rw [e]; exact Nat.lt_irrefl _)
    · exact hb e
  have hn : ∀ b : Addr,b ∉ X.ex:=fun b=>by rw [hx]; simp
  refine ⟨J.os,J.bare,?_,J.hok,fun b o q n hb=>?_,fun b o hb q=>?_,fun b o q hb=>?_⟩
  · have:=J.base
    rw [hx] at this
    exact this
  · exact L.c1 b o (I.base.keep b o q n hb (hn b)) (I.base.free b o q n (hn b)) (ns b o q hb)
  · cases e : H' b with
    | none=>exact absurd e hb
    | some u =>
      obtain ⟨v,hv⟩:=L.hok.thr e
      have z:=L.c2 b v hb hv
      have q' : h2.get? b = some o:=q
      rw [st b v z] at q'
      cases q'
      exact z
  · obtain ⟨o',e⟩:=I.base.there b o q (hn b)
    exact L.c3 b o' e (ns b o q hb)
theorem lies_new (I : Inv X pins σ H s) (k : ∀ b u,s.heap.get? b = some u→h2.get? b = some u) : Lies X.prog X.w X.stack H s H { s with heap:=h2 } (PySem.W.hideAll s.heap (frs X.stack)):=by
  refine ⟨rfl,I.bare,Un.kept k,I.hok.kept k,fun b o q _ hb=>PySem.W.hideAll_get _ q hb,fun b o hb q=>?_,fun b o q hb=>⟨o,PySem.W.hideAll_get _ q hb⟩⟩
  cases e : H b with
  | none=>exact absurd e hb
  | some u =>
    obtain ⟨v,hv⟩:=I.hok.thr e
    have q' : h2.get? b = some o:=q
    rw [k b v hv] at q'
    cases q'
    exact PySem.W.hideAll_get _ hv fun z=>hb (I.stkFree b z)
end
section
variable {P : Program} {w : World} {K : PySem.W.Frag} {mg : Str→Option Value} {base : Heap} {N : List Str} {qual : Str} {scope : Scope} {f : Addr} {cd : Value} {A : Around} {outer : List Env} {s0 : Shared} {H0 : Hp} {E : XK}
theorem pass1 : Passes (CX1 P w) (cxOf (CX1 P w) P w K mg base N qual scope f cd A outer s0 H0 E) E:=by
  rintro pins σ H s e s' I ⟨a,cls,a0,H',B,rfl,L,F,dd,hdd,q⟩
  have hfr:=I.ok.frames
  refine leavesK (M:=model P w) (A:=A.deeper (envOfC qual scope s0.heap.objs.size f cd)) (outer:=outer) (L:=s0.heap.objs.size) hfr rfl F fun h2 F2 up kd=>?_
  exact ⟨a,cls,a0,H',B,rfl,L.out I F2.1 up rfl,F2,dd,fun D e=>kd _ _ (hdd D e),q⟩
theorem leave1 {pins : List (Addr × Obj)} {σ : St} {H : Hp} {s : Shared} {h' : Heap} {e : Addr} {cls : Value} {args : List Value} (I : Inv (cxOf (CX1 P w) P w K mg base N qual scope f cd A outer s0 H0 E) pins σ H s)
    (hx : Heap.MadeExcOf s.heap h' e cls args) (q : E cls none H) : (cxOf (CX1 P w) P w K mg base N qual scope f cd A outer s0 H0 E).xe (.ref e) { s with heap:=h' }:=by
  have hfr:=I.ok.frames
  have L:=lies_new I hx.keeps
  refine wpAny_leaves_madeW (M:=model P w) (A:=A.deeper (envOfC qual scope s0.heap.objs.size f cd)) (s:={ s with heap:=h' }) (outer:=outer) (L:=s0.heap.objs.size) (base:=PySem.W.hideAll s.heap (frs (envOfC qual scope s0.heap.objs.size f cd :: outer))) hfr rfl (fun b o q=>PySem.W.of_hideAll _ q)
    (PySem.W.funFrames_hide I.stack fun env he b hb=>List.mem_filterMap.mpr ⟨env,he,hb⟩) hx fun h2 t F2 _ _ up=>?_
  exact ⟨e,cls,.ref t,H,_,rfl,L.out I F2.1 up rfl,F2,none,(fun D e=>nomatch e),q⟩
end
end L2

namespace L2
open PySem PySem.Spec PyProof.Rows
abbrev bmVal : List Value:=[.type "ValueError",.type "Exception",.type "BaseException",.type "object"]
def XCls (K : PySem.W.Frag) (C : Addr) : Prop:=PySem.W.excIn K C bmVal "ValueError.__new__" = true
def XObj (h : Heap) (C : Addr) : Prop:=∃ bm N nm qn bs hd sn sub ab col dd k0 k1 k2 k3 k5 mN,h.get? C = some (excClassObj nm qn C N bs bm hd sn sub ab col dd k0 k1 k2 k3 k5 "ValueError.__new__")∧h.Ns N mN∧mN "__init__" = none∧OwnTail h bmVal bm
theorem XCls.obj {K : PySem.W.Frag} {C : Addr} (x : XCls K C) {h : Heap} (I : K.In h) : XObj h C:=by
  unfold XCls PySem.W.excIn at x
  split at x
  case h_2=>cases x
  case h_1 dd cd sl lk =>
    split at x
    case h_2=>cases x
    case h_1 C2 bm k0 k1 k2 k3 nid k5 em es =>
      rw [Bool.and_eq_true,Bool.and_eq_true,Bool.and_eq_true,Bool.and_eq_true,Bool.and_eq_true] at x
      obtain ⟨⟨⟨⟨⟨x1,x2⟩,x3⟩,x4⟩,x5⟩,x6⟩:=x
      cases (beq_iff_eq.mp x1)
      cases (beq_iff_eq.mp x2)
      cases cd with
      | mk nm bs mro ns qn hd sn sub ab col del =>
        have e1 : mro = .ref C :: bm:=em
        have e2 : del = false:=by
          cases del with
          | false=>rfl
          | true=>cases x3
        have e3 : sl = #[k0,k1,k2,k3,some (.builtin "ValueError.__new__"),k5]:=by
          cases sl with
          | mk l =>
            have e : l = _:=es
            rw [e]
        rw [e1,e2,e3] at lk
        exact ⟨bm,ns,nm,qn,bs,hd,sn,sub,ab,col,dd,k0,k1,k2,k3,k5,_,I _ _ lk,.of_isNs (PySem.W.isNs_of_in I x5),PySem.W.nsMap_none_of_in I x5 (beq_iff_eq.mp x6),PySem.W.tail_of_in I x4⟩
section
variable {P : Program} {w : World} {K : PySem.W.Frag} {mg : Str→Option Value} {base : Heap} {N : List Str} {qual : Str} {scope : Scope} {f : Addr} {cd : Value} {A : Around} {outer : List Env} {s0 : Shared} {H0 : Hp} {E : XK}
  {x : Str} {C : Addr} {e : Expr} {es : List Expr} {t : TA} {np cpos pos : Pos}
def tRz (C : Addr) (E : XK) (t : TA) : TS:=fun _ σ H=>t σ H fun vs H1=>vs.length ≤ 1000∧E (.ref C) none H1
theorem ps_raise (hc : (A.deeper (envOfC qual scope s0.heap.objs.size f cd)).handled = none) (c : XCls K C) (hm : mg x = some (.ref C)) (ha : PA (cxOf (CX1 P w) P w K mg base N qual scope f cd A outer s0 H0 E) (e :: es) t)
    (hg : Gl (cxOf (CX1 P w) P w K mg base N qual scope f cd A outer s0 H0 E) x:=by rfl)
    (he : starEach (e :: es) (cxOf (CX1 P w) P w K mg base N qual scope f cd A outer s0 H0 E).env = (false,eval e (cxOf (CX1 P w) P w K mg base N qual scope f cd A outer s0 H0 E).env) :: starEach es (cxOf (CX1 P w) P w K mg base N qual scope f cd A outer s0 H0 E).env:=by rfl)
    (hpl : (backTo cpos (starEach es (cxOf (CX1 P w) P w K mg base N qual scope f cd A outer s0 H0 E).env)).any (·.1) = false:=by rfl) (hdb : (x == ("__debug__" : Str)) = false:=by decide) :
    PS (cxOf (CX1 P w) P w K mg base N qual scope f cd A outer s0 H0 E) (.Raise (some (.Call (.Name x np) (e :: es) [] cpos)) none pos) (tRz C E t):=by
  intro pins s σ H D I h
  obtain ⟨bm,Nn,nm,qn,bs,hd,sn,sub,ab,col,dd,k0,k1,k2,k3,k5,mN,h1,h2,h3,h4⟩:=c.obj I.mod.kin
  refine wpAny_Raise_call_subT (C:=C) (nm:=nm) (q:=qn) (N:=Nn) (bs:=bs) (bm:=bm) (hdct:=hd) (sn:=sn) (sub:=sub) (ab:=ab) (col:=col) (dd:=dd) (k0:=k0) (k1:=k1) (k2:=k2) (k3:=k3) (k5:=k5) PySem.F.excBase_ValueError (mN:=mN)
    (h4.hasType rfl) hc (by rw [he]; exact hpl) h3 (ld_glob I hg hm ⟨rfl,?_⟩ hdb)
  have hA:=ha cpos pins s σ H _ I h
  rw [he] at hA ⊢
  refine Calls.evalArgs_plain (wpAny_mono hA (fun us s2 hq=>?_) fun _ _ z=>z)
  obtain ⟨vs,H1,I1,r1,hl,q⟩:=hq
  refine ⟨rfl,?_,I1.bk _ _ h1,h2.keeps I1.bk,h4.keeps I1.bk,fun h' e' hx=>leave1 I1 hx q⟩
  show us.length ≤ sizeLine
  rw [← r1.length]
  exact Nat.le_of_lt (small1000 hl)
end
end L2

namespace L2
open PySem PySem.Spec PyProof.Rows
def XP (X : Cx) (pins : List (Addr × Obj)) (σ : St) (E : XK) (e : Value) (s' : Shared) : Prop:=∃ H1 s1,Inv X pins σ H1 s1∧CX1 X.prog X.w X.stack H1 s1 E e s'
def PV (X : Cx) (e : Expr) (t : XK→TE) : Prop:=∀ (pins : List (Addr × Obj)) (s : Shared) (σ : St) (H : Hp) (Q : VK) (E : XK),Inv X pins σ H s→t E σ H Q→wpAny (model X.prog X.w) X.A (eval e X.env) (EP X pins σ Q) (XP X pins σ E) s
def PX (X : Cx) (b : List Stmt) (t : XK→TS) : Prop:=∀ (pins : List (Addr × Obj)) (s : Shared) (σ : St) (H : Hp) (D : Ends) (E : XK),Inv X pins σ H s→t E D σ H→wpAny (model X.prog X.w) X.A (execs b X.env) (SP X pins D) (XP X pins σ E) s
section
variable {X : Cx} {k : Nat} {f C : Addr} {fd : FuncData} {ps : List Str} {sp : Sp} {dvs : List V} {ds : List Value} {x : Str} {p pos : Pos} {e : Expr} {es : List Expr} {t : TA}
theorem run_fn1 {E : XK} {pins : List (Addr × Obj)} {σ : St} {H : Hp} {s : Shared} {Q : VK} {us : List Value} {vs : List V} (F : FnOk X.prog X.w X.K X.mg X.base (CX1 X.prog X.w) k f fd ps sp) (hr : Room k X.A) (hb : Binds X.K fd ps ds) (hd : Vals dvs ds)
    (I : Inv X pins σ H s) (r : Vals vs us) (h : sp (vs ++ dvs) H Q E) : wpAny (model X.prog X.w) X.A (call (.ref f) us) (EP X pins σ Q) (XP X pins σ E) s:=by
  have r2 : Vals (vs ++ dvs) (us ++ ds):=r.append hd
  have hl : (us ++ ds).length = ps.length:=by rw [← r2.length]; exact F.len _ _ _ _ h
  refine wpAny_call (codeAny_mono (F.run X.A X.stack s H ⟨us,[]⟩ (us ++ ds) (vs ++ dvs) Q E hr I.env0 (hb s us I.kIn hl) r2 h) fun r s' hq=>?_)
  cases r with
  | error e=>exact ⟨H,s,I,hq⟩
  | ok fl =>
    cases fl with
    | ret u=>exact I.after hq
    | next=>exact False.elim hq
    | brk=>exact False.elim hq
    | cont=>exact False.elim hq
theorem pv_call (F : FnOk X.prog X.w X.K X.mg X.base (CX1 X.prog X.w) k f fd ps sp) (hr : Room k X.A) (hm : X.mg x = some (.ref f)) (hk : PySem.W.keepIn X.K (.ref f) = true) (hb : Binds X.K fd ps [])
    (ha : PA X.nox (e :: es) t) (hg : Gl X x:=by rfl) (hdb : (x == ("__debug__" : Str)) = false:=by decide) (he : starEach (e :: es) X.env = (false,eval e X.env) :: starEach es X.env:=by rfl) (hpl : (backTo pos (starEach es X.env)).any (·.1) = false:=by rfl) :
    PV X (.Call (.Name x p) (e :: es) [] pos) (fun E=>tCall sp [] E t):=by
  intro pins s σ H Q E I h
  refine wpAny_Call_Name_kw (ld_glob I hg hm ?_ hdb)
  refine PySem.W.callWith_K (h₀:=X.base) I.ok.mod.kin hk (wpAny_mono (ha pos pins s σ H _ (I.wish _) h) (fun us s1 hq=>?_) (fun _ _ z=>False.elim z)) he hpl
  obtain ⟨vs,H1,I1,r,q⟩:=hq
  exact ⟨I1.unwish.kIn,run_fn1 F hr hb .nil I1.unwish r q⟩
theorem px_expr {te : XK→TE} (h : PV X e te) (hs : swapsWith e none pos.line X.env = pure false:=by rfl) : PX X [.Expr e pos] (fun E=>tDrop (te E)):=by
  intro pins s σ H D E I q
  refine wpAny_execs_cons (wpAny_Expr_any (wpAny_mono (h pins s σ H _ E I q) (fun v s1 hq=>?_) fun _ _ z=>z) I.quiet hs)
  obtain ⟨y,H1,I1,r1,q1⟩:=hq
  exact wpAny_execs_nil ⟨σ,H1,I1,q1⟩
end
abbrev Cx.inH (X : Cx) (a : Addr) : Cx:={ X with A:=X.A.mark (some (.ref a)),calm:=false,xe:=fun _ _=>False }
section
variable {X : Cx} {pins : List (Addr × Obj)} {σ : St} {H : Hp} {s : Shared} {a : Addr}
theorem Inv.inH (I : Inv X pins σ H s) (a : Addr) : Inv (X.inH a) pins σ H s :=
  ⟨⟨I.ok.mod,I.ok.kind,I.ok.glob,I.ok.blt,I.ok.above,I.ok.inj,I.ok.has,I.ok.cab,(fun z=>nomatch z),I.ok.frames,I.ok.stk,I.ok.exf,I.ok.bs,I.ok.bsz,I.ok.noex,I.ok.exfs,I.ok.funs,I.ok.frf⟩,I.os,I.bare,I.base,I.loc,I.cell,I.free,I.freeC,I.pin,I.hok,I.len⟩
theorem Inv.unH (ok : X.Ok) (I : Inv (X.inH a) pins σ H s) : Inv X pins σ H s:=⟨ok,I.os,I.bare,I.base,I.loc,I.cell,I.free,I.freeC,I.pin,I.hok,I.len⟩
theorem SP.unH {D : Ends} {f : Flow} {s' : Shared} (ok : X.Ok) (h : SP (X.inH a) pins D f s') : SP X pins D f s':=by
  cases f with
  | next=>obtain ⟨σ',H',I,q⟩:=h; exact ⟨σ',H',I.unH ok,q⟩
  | brk=>obtain ⟨σ',H',I,q⟩:=h; exact ⟨σ',H',I.unH ok,q⟩
  | cont=>obtain ⟨σ',H',I,q⟩:=h; exact ⟨σ',H',I.unH ok,q⟩
  | ret u=>obtain ⟨v,σ',H',I,r,q⟩:=h; exact ⟨v,σ',H',I.unH ok,r,q⟩
end
end L2
namespace L2
open PySem PySem.Spec PyProof.Rows
structure Callee1 (P : Program) (w : World) (K : PySem.W.Frag) (mg : Str→Option Value) (base : Heap) (x : Str) (f : Addr) (fd : FuncData) (ps : List Str) (k : Nat) (sp : Sp) : Prop where
  ok : FnOk P w K mg base (CX1 P w) k f fd ps sp
  g : mg x = some (.ref f)
  kp : PySem.W.keepIn K (.ref f) = true
  b : Binds K fd ps []
structure Maker1 (P : Program) (w : World) (K : PySem.W.Frag) (mg : Str→Option Value) (base : Heap) (x : Str) (C f : Addr) (fd : FuncData) (ps : List Str) (k : Nat) (sp : Sp) : Prop where
  ok : FnOk P w K mg base (CX1 P w) k f fd ps sp
  g : mg x = some (.ref C)
  mm : Mk K C f
  b : Binds K fd ps []
section
variable {X : Cx} {k : Nat} {f C : Addr} {fd : FuncData} {ps : List Str} {sp : Sp} {x : Str} {p pos : Pos} {e : Expr} {es : List Expr} {t : TA}
theorem pv_c (c : Callee1 X.prog X.w X.K X.mg X.base x f fd ps k sp) (hr : Room k X.A) (ha : PA X.nox (e :: es) t) (hg : Gl X x:=by rfl) (hdb : (x == ("__debug__" : Str)) = false:=by decide)
    (he : starEach (e :: es) X.env = (false,eval e X.env) :: starEach es X.env:=by rfl) (hpl : (backTo pos (starEach es X.env)).any (·.1) = false:=by rfl) : PV X (.Call (.Name x p) (e :: es) [] pos) (fun E=>tCall sp [] E t) :=
  pv_call c.ok hr c.g c.kp c.b ha hg hdb he hpl
end
section
variable {P : Program} {w : World} {K : PySem.W.Frag} {mg : Str→Option Value} {base : Heap}
theorem Fun.ok1 {x qual : Str} {st : Stmt} {f : Addr} {fd : FuncData} {N ps : List Str} {k : Nat} {sp : Sp} (F : Fun K x qual st f fd) (S : FnScope N ps (defScope st)) (len : ∀ vs H Q E,sp vs H Q E→vs.length = ps.length)
    (hbody : ∀ (cdv : Value) (A : Around) (outer : List Env) (s : Shared) (H : Hp) (vs : List V) (Q : VK) (E : XK),Room k (A.deeper (envOfC qual (defScope st) s.heap.objs.size f cdv))→sp vs H Q E →
      ∃ t,PSs (cxOf (CX1 P w) P w K mg base N qual (defScope st) f cdv A outer s H E) (defBody st) t∧t { nx:=fun _ H'=>Q .non H',rt:=Q } (start N vs) H) : FnOk P w K mg base (CX1 P w) (k + 1) f fd ps sp:=by
  obtain ⟨oc,od,kV,doc,pm,an,cdv,ct,osl,rfl,lk,hcd⟩:=F.ex
  exact fn_of lk hcd S len fun A outer s H vs Q E hr hsp=>hbody cdv A outer s H vs Q E hr hsp
end
end L2

namespace L2
open PySem PySem.W PySem.Spec PySem.Calls PyProof.Rows PySem.Builtin PySem.Builtin.ObjectAttr PySem.Builtin.Getset_descriptor
def ObC (x C : Addr) (h : Heap) : Prop:=∃ o,h.get? x = some o∧o.cls = .ref C
structure XIs (K : Frag) (C : Addr) : Prop where
  ga : findIn K (.ref C) "__getattribute__" = some (some (.builtin "BaseException.__getattribute__"))
  gt : findIn K (.ref C) "__getattr__" = some none
  ha : findIn K (.ref C) "__class__" = some (some (.builtin "object.__class__"))
  hn : specialIn K (.builtin "object.__class__") "__get__" = some (some (.builtin "getset_descriptor.__get__"))
  htk : takesIn K (.builtin "object.__class__") = some true
  hm : mroIn K C (.type "object") = some true
  hb : mroIn K C (.type "BaseException") = some true
  hd : hasDictIn K C = true
section
variable {K : Frag} {M : Model} {h : Heap} {x C : Addr} {name : Str}
theorem ObC.type (I : ObC x C h) : Looks M h (typeOf (.ref x)) (.ref C):=by
  obtain ⟨o,h1,h2⟩:=I
  rw [← h2]
  exact (Looks.ld h1).andThen .now
theorem find_data {a g : Value} (X : K.In h) (ha : findIn K (.ref C) name = some (some a)) (hg : specialIn K a "__get__" = some (some g)) (hd : takesIn K a = some true) :
    Looks M h (find (.ref x) (.ref C) name) (.bind g a):=by
  have L2 : Looks M h (getOf (some a)) (some g):=looks_specialIn X hg
  have L3 : Looks M h (dataDescriptor? (some a) (some g)) (some (g,a)):=(looks_takesIn X hd).andThen .now
  exact (looks_findIn X ha).andThen (L2.andThen (L3.andThen (Looks.tag .now)))
end
section
variable {prog : Program} {w : World} {A : Around} {E : Value→Shared→Prop} {K : Frag} {x C : Addr} {s : Shared}
theorem cls_got {R : Result→Shared→Prop} {tp : Value} (X : K.In s.heap) (I : ObC x C s.heap) (hm : mroIn K C (.type "object") = some true) (k : R (.ok (.ret (.ref C))) s) :
    codeAny (model prog w) A (.call (.builtin "getset_descriptor.__get__") ⟨[.builtin "object.__class__",.ref x,tp],[]⟩) R s:=by
  obtain ⟨hh,gg,dr,tt,ss⟩:=s
  have T0:=I.type (M:=model prog w)
  have T1:=looks_mroIn (M:=model prog w) X hm
  refine codeAny_call_builtin KF.slot_gs.plain KF.entry_gs ?_
  refine KF.slot_gs.check _ _ _ _ _ _ _ _ KF.type_class (KF.args_gs _ _ _) ?_
  unfold Builtin.«getset_descriptor.__get__»
  unfold descrGet
  rw [dga_obj]
  refine wpAny_bind (wpAny_pure ?_)
  unfold descrGetter descrCheckInstance
  unfold descrNameAndClass isInstance
  simp only [KF.owner_class]
  repeat lk
  refine ⟨Code.quiet_builtin _ (by decide +kernel),?_⟩
  refine codeAny_builtin KF.entry_class ?_
  unfold Builtin.«object.__class__»
  unfold shownTypeOf
  repeat lk
  exact k
theorem ga_check {nameV : Value} {Q : Unit→Shared→Prop} (X : K.In s.heap) (I : ObC x C s.heap) (hb : mroIn K C (.type "BaseException") = some true) (k : Q () s) :
    wpAny (model prog w) A (checkBuiltinCall "BaseException.__getattribute__" ⟨[.ref x,nameV],[]⟩) Q E s:=by
  have T0:=I.type (M:=model prog w)
  have T1:=looks_mroIn (M:=model prog w) X hb
  have hk : builtinKind "BaseException.__getattribute__" = some .slot:=by decide +kernel
  have hsplit : splitId "BaseException.__getattribute__" = some ("BaseException", "__getattribute__"):=by decide +kernel
  have ha:=F.args_bexc_ga (.ref x) nameV
  obtain ⟨hh,gg,dr,tt,ss⟩:=s
  simp only [checkBuiltinCall,hk,hsplit]
  refine wpAny_bind ?_
  unfold isInstance
  repeat lk
  exact k
theorem cls_entry {tk : Tok} {Q : Fin→Shared→Prop} (X : K.In s.heap) (I : ObC x C s.heap) (c : XIs K C) (k : Q (.done (.ret (.ref C))) s) :
    wpAny (model prog w) A (Builtin.«object.__getattribute__» ⟨[.ref x,.str "__class__" tk],[]⟩) Q E s:=by
  have T0:=I.type (M:=model prog w)
  have T1:=find_data (M:=model prog w) (x:=x) X c.ha c.hn c.htk
  obtain ⟨hh,gg,dr,tt,ss⟩:=s
  unfold Builtin.«object.__getattribute__»
  repeat lk
  refine wpAny_run (h:=none) ?_
  exact cls_got X I c.hm (wpAny_pure (wpAny_pure k))
theorem cls_by {tk : Tok} {Q : Value→Shared→Prop} (X : K.In s.heap) (I : ObC x C s.heap) (c : XIs K C) (k : Q (.ref C) s) :
    wpAny (model prog w) A (getAttrBy (.ref x) (.str "__class__" tk) false) Q E s:=by
  have T0:=I.type (M:=model prog w)
  have T1:=looks_findIn (M:=model prog w) X c.ga
  have T2:=looks_findIn (M:=model prog w) X c.gt
  have f3:=F.attr_ValueError.ga.bind (.ref x)
  obtain ⟨hh,gg,dr,tt,ss⟩:=s
  unfold getAttrBy
  refine wpAny_holding (wpAny_bind (T0.at (wpAny_bind (T1.at ?_))))
  show wpAny _ _ (if (onTheHeap (Value.ref C) && Value.builtin "BaseException.__getattribute__" == Value.builtin "object.__getattribute__") = true then _ else _) _ _ _
  have z : (Value.builtin "BaseException.__getattribute__" == Value.builtin "object.__getattribute__") = false:=by decide +kernel
  rw [z,Bool.and_false,if_neg Bool.false_ne_true]
  unfold getAttrByItsOwn
  refine wpAny_bind (T2.at ?_)
  refine wpAny_bind (wpAny_attempt (wpAny_holding ?_))
  show wpAny _ _ (boundAndCalled _ _ _) _ _ _
  unfold boundAndCalled
  rw [f3]
  refine wpAny_bind (wpAny_pure (wpAny_call ?_))
  refine codeAny_call_builtin F.attr_ValueError.ga.plain F.entry_bexc_ga ?_
  exact ga_check X I c.hb (cls_entry X I c (wpAny_pure k))
theorem cls_attr {Q : Option Value→Shared→Prop} (X : K.In s.heap) (I : ObC x C s.heap) (c : XIs K C) (k : Q (some (.ref C)) { s with toks:=s.toks + 1 }) :
    wpAny (model prog w) A (getAttr? (.ref x) "__class__") Q E s:=by
  obtain ⟨hh,gg,dr,tt,ss⟩:=s
  unfold getAttr? getAttrBy?
  refine wpAny_bind (wpAny_mkText (wpAny_bind (wpAny_attempt ?_)))
  exact cls_by (s:=⟨hh,gg,dr,tt + 1,ss⟩) X I c (wpAny_pure k)
theorem kitx_exc (c : XIs K C) : KitX K (.ref x) (.ref C) (ObC x C) where
  ty:=fun _ _ _ I=>I.type
  it:=fun _ _ X _=>by
    obtain ⟨cd,hc,_⟩:=any_some c.hd
    unfold clsIn at hc
    split at hc
    · rename_i ho
      intro A' Q' E' s' k q
      unfold isType loadHead
      exact wpAny_bind (wpAny_loadPart (k _ _ (X _ _ ho)) (wpAny_pure q))
    · cases hc
  ne:=fun h tp dd its n sl X htp=>by
    obtain ⟨cd,hc,_⟩:=any_some c.hd
    refine Bool.eq_false_iff.mpr fun q=>?_
    cases Value.ref.inj (beq_iff_eq.mp q)
    unfold clsIn at hc
    split at hc
    · rename_i ho
      cases (X _ _ ho).symm.trans htp
    · cases hc
  ca:=fun X I k=>cls_attr X I c k
end
section
variable {X : Cx}
def rIsiX (K : Frag) : List V→Hp→VK→Prop:=fun xs H Q=>∃ (x C : Addr) (c : V) (cv : Value) (b : Bool),xs = [.ref x,c]∧clsV c = some cv∧H x = some (.ext (ObC x C))∧XIs K C∧kitOne K (.ref C) cv = some b∧Q (.bl b) H
theorem call_isiX : CallR X (.builtin "isinstance") (rIsiX X.K):=by
  intro pins s σ H xs us Q I r h
  obtain ⟨x,C,c,cv,b,rfl,hc,hx,xi,e,q⟩:=h
  obtain ⟨u,v,rfl,r1,r2⟩:=r.two
  obtain rfl:=clsV_rel hc r2
  cases (show u = Value.ref x from r1)
  obtain ⟨p,_,_⟩:=(show ObjOk X.prog X.w H s.heap x (.ext (ObC x C)) from I.hok x _ hx)
  exact kia_one (kitx_exc xi) I.kIn p e (fun z=>nomatch z) fun tk=>⟨.bl b,H,I.tok tk,rfl,q⟩
theorem call_isiK {K : Frag} (h : X.K = K) : CallR X (.builtin "isinstance") (rIsiX K):=by
  subst h
  exact call_isiX
end
end L2

namespace L2
open PySem PySem.Spec PyProof.Rows
section
variable {X : Cx} {pins : List (Addr × Obj)} {σ : St} {H : Hp} {s : Shared}
theorem unbind_ok {M : Model} {A : Around} {E : Value→Shared→Prop} {i : Nat} {x : Str} {Q : Unit→Shared→Prop} (I : Inv X pins σ H s) (hN : X.N.Nodup) (hi : X.N[i]? = some x) (hk : X.env.scope.names.lookup x = some .local) {v : V} (hv : σ[i]? = some (some v))
    (h : ∀ s',Inv X pins (σ.set i none) H s'→Q () s') : wpAny M A (unbindName X.env x) Q E s:=by
  obtain ⟨m,hn,hl⟩:=id I.loc
  have hcls : (X.env.scope.kind == .class || (X.env.scope.kind == .module && X.env.locals != X.env.globals)) = false:=by rw [I.ok.kind]; rfl
  have cne:=I.cne
  have hm : ∃ u,m x = some u:=by
    obtain ⟨u,_,q⟩:=hl i x v hi hv (.inl hk)
    rcases q with ⟨_,e⟩ | ⟨k,_⟩
    · exact ⟨u,e⟩
    · have hk' : X.env.kindOf x = some .local:=hk
      rw [hk'] at k
      rcases k with k | k <;> cases k
  obtain ⟨u0,hm⟩:=hm
  obtain ⟨oL,_,_,hoL,_⟩:=id hn
  refine wpAny_unbindName_local hk hn hm hcls fun h' u' hn' hs=>?_
  have tracked : HOk X.prog X.w H h':=fun b ob e=>by
    refine (I.hok b ob e).stay (fun c w' hc q=>(hs.2 c ?_).trans q) (fun _ q=>q) fun _ _ q=>q
    rintro rfl
    have hfree:=I.free
    rcases hc with rfl | hc
    · rw [hfree] at e; cases e
    · rw [hfree] at hc; cases hc
  refine h _ ⟨I.ok,I.os,I.bare,⟨fun b o e n hb hx=>?_,fun b o e n hb hx=>?_,I.base.free,fun b o e hx=>?_,I.base.tups,I.base.frzs,I.base.tbls⟩,⟨_,hn',fun j y v' e1 e2 e3=>?_⟩,fun y c e=>?_,I.free,I.freeC,fun p hp=>?_,tracked,by simpa using I.len⟩
  · exact (hs.2 b (Nat.ne_of_lt (Nat.lt_of_lt_of_le (Heap.lt_size e) I.ok.above))).trans (I.base.keep b o e n hb hx)
  · obtain ⟨sl,e1⟩:=I.base.slot b o e n hb hx
    exact ⟨sl,(hs.2 b (Nat.ne_of_lt (Nat.lt_of_lt_of_le (Heap.lt_size e) I.ok.above))).trans e1⟩
  · obtain ⟨o',e1⟩:=I.base.there b o e hx
    exact ⟨o',(hs.2 b (Nat.ne_of_lt (Nat.lt_of_lt_of_le (Heap.lt_size e) I.ok.above))).trans e1⟩
  · by_cases hj : j = i
    · subst hj
      rw [List.getElem?_set] at e2
      simp at e2
    · rw [List.getElem?_set_ne (Ne.symm hj)] at e2
      obtain ⟨u',r',q⟩:=hl j y v' e1 e2 e3
      refine ⟨u',r',?_⟩
      rcases q with ⟨k,e⟩ | ⟨k,c,e,z⟩
      · refine .inl ⟨k,?_⟩
        have : y ≠ x:=fun e=>hj (nodup_ix hN e1 (e ▸ hi))
        simp [this,e]
      · exact .inr ⟨k,c,e,z.sameBut hs (cne y c e)⟩
  · obtain ⟨w',z⟩:=I.cell y c e
    exact ⟨w',z.sameBut hs (cne y c e)⟩
  · obtain ⟨e,n,ne,nf,d⟩:=I.pin p hp
    exact ⟨(hs.2 p.1 ne).trans e,n,ne,nf,d⟩
theorem goes_ok {M : Model} {A : Around} {E : Value→Shared→Prop} {i : Nat} {x : Str} {pos : Pos} {Q : Unit→Shared→Prop} (I : Inv X pins σ H s) (hN : X.N.Nodup) (hi : X.N[i]? = some x) (hk : X.env.scope.names.lookup x = some .local)
    (h : ∀ s',Inv X pins (σ.set i none) H s'→Q () s') : wpAny M A (do bindName X.env x .none; unbindBehindTheSuite X.env x pos) Q E s:=by
  have hiσ : i < σ.length:=by rw [I.len]; exact (List.getElem?_eq_some_iff.mp hi).1
  refine wpAny_bind (wpAny_bindName (store_ok (v:=.non) I hN hi (.inl hk) rfl (fun s1 I1=>?_) (.inr hk)))
  unfold unbindBehindTheSuite
  refine wpAny_onRaise (unbind_ok I1 hN hi hk (v:=.non) (List.getElem?_set_self hiσ) fun s2 I2=>h s2 ?_)
  rw [List.set_set] at I2
  exact I2
end
abbrev Ends.sans (D : Ends) (i : Nat) : Ends:={ nx:=fun σ H=>D.nx (σ.set i none) H,rt:=D.rt,bk:=fun σ H=>D.bk (σ.set i none) H,ct:=fun σ H=>D.ct (σ.set i none) H }
end L2

namespace L2
open PySem PySem.Spec PyProof.Rows
section
variable {X : Cx} {C : Addr} {x : Str} {p pos : Pos}
end
end L2

namespace L2
open PySem
section
variable {X : Cx} {es : List Expr} {t : TA} {te : TE}
theorem pa_C {c j pos} (ha : PE X (.Constant c j pos) te) (hr : PA X es t) : PA X (.Constant c j pos :: es) (tCons te t):=pa_cons ha hr rfl
theorem pa_K {f xs ks pos} (ha : PE X (.Call f xs ks pos) te) (hr : PA X es t) : PA X (.Call f xs ks pos :: es) (tCons te t):=pa_cons ha hr rfl
theorem pa_B {l o r pos} (ha : PE X (.BinOp l o r pos) te) (hr : PA X es t) : PA X (.BinOp l o r pos :: es) (tCons te t):=pa_cons ha hr rfl
theorem pa_N {x pos} (ha : PE X (.Name x pos) te) (hr : PA X es t) : PA X (.Name x pos :: es) (tCons te t):=pa_cons ha hr rfl
end
end L2

namespace L2
open PySem PySem.Spec PyProof.Rows
section
variable {X : Cx}
end
end L2

namespace L2
open PySem PySem.Spec PyProof.Rows PySem.Builtin PySem.Builtin.Str
section
variable {X : Cx}
theorem vals_strs : ∀ {ws : List PySem.Str} {us : List Value},Vals (ws.map V.str) us→∃ l : List (PySem.Str × Tok),strValues l = us∧l.map (·.1) = ws
  | [],_,.nil=>⟨[],rfl,rfl⟩
  | w :: ws,_,.cons ⟨t,e⟩ r=>by
    obtain ⟨l,e1,e2⟩:=vals_strs r
    subst e
    exact ⟨(w,t) :: l,by rw [← e1]; rfl,by rw [List.map_cons,e2]⟩
theorem strs_vals : ∀ (l : List (PySem.Str × Tok)),Vals ((l.map (·.1)).map V.str) (strValues l)
  | []=>.nil
  | (w,t) :: l=>.cons ⟨t,rfl⟩ (strs_vals l)
def rStarts : V→List V→Hp→VK→Prop:=fun x vs H Q=>∃ a b,x = .str a∧vs = [.str b]∧Q (.bl (Txt.startswith a b)) H
theorem mt_startswith : MtR X "str.startswith" rStarts:=by
  intro pins s σ H x vs v us Q I rx rv h
  obtain ⟨a,b,rfl,rfl,q⟩:=h
  obtain ⟨t,rfl⟩:=rx
  obtain ⟨u,rfl,t',rfl⟩:=rv.one
  exact SC.startswith ⟨.bl _,H,I,rfl,q⟩
def rJoin (K : PySem.W.Frag) : V→List V→Hp→VK→Prop:=fun x vs H Q=>∃ sep p ws,x = .str sep∧vs = [.ref p]∧SqL K H p (ws.map V.str)∧JoinOk sep ws = true∧Q (.str (Txt.join sep ws)) H
theorem mt_join : MtR X "str.join" (rJoin X.K):=by
  intro pins s σ H x vs v us Q I rx rv h
  obtain ⟨sep,p,ws,rfl,rfl,hq,hok,q⟩:=h
  obtain ⟨t,rfl⟩:=rx
  obtain ⟨u,rfl,ru⟩:=rv.one
  cases ru
  obtain ⟨its,r,pl,hz⟩:=I.list hq
  obtain ⟨l,rfl,e⟩:=vals_strs r
  exact SC.join pl.isList e hok fun t' k=>⟨.str _,H,I.tok _,⟨_,rfl⟩,q⟩
def rSplit : V→List V→Hp→VK→Prop:=fun x vs H Q=>∃ a b,x = .str a∧vs = [.str b]∧(b.length == 0) = false∧a.length ≤ sizeLine∧(Txt.split a b).length ≤ sizeLine∧(partsBetween a (occurrences a b 0 a.length (a.length + 1)) b.length).length ≤ sizeLine∧∀ p,H p = none→Q (.ref p) (upd H p (.lst ((Txt.split a b).map V.str)))
theorem mt_split : MtR X "str.split" rSplit:=by
  intro pins s σ H x vs v us Q I rx rv h
  obtain ⟨a,b,rfl,rfl,hb,hz,hz1,hz2,q⟩:=h
  obtain ⟨t,rfl⟩:=rx
  obtain ⟨u,rfl,t',rfl⟩:=rv.one
  have fin : ∀ (l : List (PySem.Str × Tok)) (k : Nat),l.map (·.1) = Txt.split a b→EP X pins σ Q (.ref s.heap.objs.size) { s with heap:=s.heap.push { cls:=.type "list",data:=.seq (strValues l).toArray },toks:=k }:=fun l k e=>by
    refine ⟨.ref s.heap.objs.size,_,I.laid (t':=k) (fun b o q=>Heap.get?_push_of_some _ q) (Nat.le_refl _) (show ObjOk X.prog X.w _ _ _ (.lst ((Txt.split a b).map V.str)) from ⟨?_,strValues l,0,?_,Heap.get?_push_size _ rfl⟩),rfl,q _ (I.hok.fresh (Nat.le_refl _))⟩
    · rw [List.length_map]; exact hz1
    · rw [← e]; exact strs_vals l
  cases h1 : (decide (a.length < b.length) || decide (strKind a < strKind b))
  · cases hf : (occurrences a b 0 a.length (a.length + 1)).isEmpty
    · refine call_meets F.slot_str_split (typeIs_str _ _ _) F.entry_str_split (F.args_str_split_2 _ _) (meets_str_split_sep a b t t' h1 hb hf hz hz2) ?_
      show wants _ _ _ { s with toks:=_,heap:=s.heap.push { cls:=.type "list",data:=.seq (strsFrom s.toks (partsBetween a (occurrences a b 0 a.length (a.length + 1)) b.length)).toArray } }
      rw [strsFrom_eq]
      exact fin (numbered s.toks _) _ ((numbered_texts _ _).trans ((if_neg (ne_true_of_eq_false h1)).trans (if_neg (ne_true_of_eq_false hf))).symm)
    · exact call_meets F.slot_str_split (typeIs_str _ _ _) F.entry_str_split (F.args_str_split_2 _ _) (meets_str_split_not_found a b t t' h1 hb hf)
        (fin [(a,t)] s.toks ((if_neg (ne_true_of_eq_false h1)).trans (if_pos hf)).symm)
  · exact call_meets F.slot_str_split (typeIs_str _ _ _) F.entry_str_split (F.args_str_split_2 _ _) (meets_str_split_cannot_occur a b t t' h1)
      (fin [(a,t)] s.toks (if_pos h1).symm)
def rInS (neg : Bool) : R2:=fun x y H Q=>∃ a b,x = .str a∧y = .str b∧Q (.bl (if neg then !Txt.contains b a else Txt.contains b a)) H
theorem op_notInS : OpR X (compareOp .NotIn) (rInS true):=by
  intro pins s σ H x y v u Q I rx ry h
  obtain ⟨a,b,rfl,rfl,q⟩:=h
  obtain ⟨t,rfl⟩:=rx
  obtain ⟨t',rfl⟩:=ry
  exact P.notIn_str ⟨.bl _,H,I,rfl,q⟩
theorem call_intS : CallR X (.type "int") (fun xs H Q=>∃ x n,xs = [.str x]∧intText? x = some n∧x.length ≤ 640∧Q (.int n) H):=by
  intro pins s σ H xs us Q I r h
  obtain ⟨x,n,rfl,hn,hl,q⟩:=h
  obtain ⟨u,rfl,t,rfl⟩:=vals1 r
  exact PySem.W.KIN.call_text hn hl ⟨.int n,H,I.tok _,⟨_,rfl⟩,q⟩
end
end L2

namespace L2
open PySem PySem.Spec PyProof.Rows
def Its (x : PySem.Str) : It:=⟨fun i _=>i < x.cps.size,fun i H v H'=>H' = H∧∃ c,x.cps[i]? = some c∧v = .str ⟨#[c]⟩,fun i _=>x.cps.size ≤ i⟩
theorem turn_str {P : Program} {w : World} {K : PySem.W.Frag} {tg : Expr} (it : Addr) (x : PySem.Str) (t : Tok) : Turn P w K tg (Its x) [it] it (fun i h=>h.IsStrIter it "str_ascii_iterator" x t i) where
  mem:=List.mem_singleton.mpr rfl
  obj:=fun i h st b hb=>by
    rw [List.mem_singleton.mp hb]
    obtain ⟨o,e,_,d⟩:=st
    exact ⟨o,e,fun v z=>by rw [d] at z; cases z⟩
  keep:=fun i h h' ⟨o,e,r⟩ k=>⟨o,k it (List.mem_singleton.mpr rfl) o e,r⟩
  item:=by
    intro X hP hw hK hc i pins s σ H E I hf st hg
    subst hP hw hK
    obtain ⟨f0,f1,f2,f3,f4,f5⟩:=hf it (List.mem_singleton.mpr rfl)
    have hx : x.cps[i]? = some x.cps[i]:=Array.getElem?_eq_getElem hg
    refine wpAny_pyNext_ascii_item st hx fun h' st' sb=>?_
    have I1 : Inv X pins σ H { s with heap:=h',toks:=s.toks + 1 }:=I.turned (fun b o hb e=>(sb.2 b hb).trans e) f0 f1 f3 f4 f5
    obtain ⟨o,e,c,d⟩:=id st'
    exact ⟨_,rfl,go_of (s:={ s with heap:=h',toks:=s.toks + 1 }) e c d (by decide) ⟨.str ⟨#[x.cps[i]]⟩,H,I1,⟨_,rfl⟩,⟨rfl,_,hx,rfl⟩,st',fun b hb=>(hf b hb).1⟩⟩
  done:=by
    intro X hP hw hK hc i pins s σ H E I hf st hg
    subst hP hw hK
    obtain ⟨f0,f1,f2,f3,f4,f5⟩:=hf it (List.mem_singleton.mpr rfl)
    exact wpAny_pyNext_ascii_end (I.ok.hd hc) st (Array.getElem?_eq_none hg) fun h' eb=>⟨rfl,I.turned (t':=s.toks) (fun b o hb e=>eb b o hb e) f0 f1 f3 f4 f5⟩
  self:=fun _ _ _ _ _ st h=>wpAny_pyIter_striter_ascii st h
section
variable {X : Cx} {tg : Expr}
def iStr (te : TE) : TI:=fun σ H R=>te σ H fun v H1=>∃ x,v = .str x∧x.cps.all (· < 128) = true∧R (Its x) H1
theorem pi_str {e : Expr} {te : TE} (he : PE X e te) : PI X tg e (iStr te):=by
  intro pins s σ H R I h
  refine thn (he pins s σ H _ I h) fun v s1 ⟨y,H1,I1,r1,q1⟩=>?_
  obtain ⟨x,rfl,ha,q⟩:=q1
  obtain ⟨t,rfl⟩:=r1
  refine wpAny_pyIter_ascii ha ?_
  have I2 : Inv X pins σ H1 { s1 with heap:=s1.heap.push { cls:=.type "str_ascii_iterator",data:=.fields #[.str x t,.int 0 0] } }:=I1.kept (t':=s1.toks) fun b o e=>Heap.get?_push_of_some _ e
  refine ⟨_,[s1.heap.objs.size],_,Its x,H1,rfl,I2,turn_str _ x t,⟨_,Heap.get?_push_size _ rfl,rfl,rfl⟩,fun b hb=>?_,q⟩
  rw [List.mem_singleton.mp hb]
  exact I1.fpOk (Nat.le_refl _) (I1.hok.fresh (Nat.le_refl _))
end
theorem for_str {x : PySem.Str} {g : TG} {tb : TS} {D : Ends} {σ : St} {H : Hp} (Pv : Nat→St→Hp→Prop) (h0 : Pv 0 σ H)
    (hs : ∀ i c σ H,x.cps.toList[i]? = some c→Pv i σ H→g (.str ⟨#[c]⟩) σ H fun σ2 H2=>tb { D with nx:=Pv (i + 1),ct:=Pv (i + 1),bk:=D.nx } σ2 H2) (hd : ∀ σ H,Pv x.cps.toList.length σ H→D.nx σ H) :
    ∃ W : Nat→Nat→St→Hp→Prop,(∃ m,W 0 m σ H)∧∀ i m σ H,W i m σ H →
      ((Its x).stop i H∧D.nx σ H)∨((Its x).go i H∧∃ N : St→Hp→Prop,(∀ σ' H',N σ' H'→∃ m',m' < m∧W (i + 1) m' σ' H')∧∀ v H',(Its x).yld i H v H'→g v σ H' fun σ2 H2=>tb { D with nx:=N,ct:=N,bk:=D.nx } σ2 H2):=by
  refine ⟨fun i m σ H=>m = x.cps.size - i∧i ≤ x.cps.size∧Pv i σ H,⟨_,rfl,Nat.zero_le _,h0⟩,?_⟩
  rintro i m σ H ⟨rfl,hi,p⟩
  by_cases hlt : i < x.cps.size
  · refine .inr ⟨hlt,Pv (i + 1),fun σ' H' z=>⟨_,by omega,rfl,hlt,z⟩,fun v H' ⟨e,c,hc,ev⟩=>?_⟩
    subst e ev
    exact hs i c σ H' (by rw [← hc,Array.getElem?_toList]) p
  · refine .inl ⟨Nat.le_of_not_lt hlt,hd σ H ?_⟩
    rw [Array.length_toList,show x.cps.size = i by omega]
    exact p
def Itv (K : PySem.W.Frag) (a : Addr) (n : Nat) : It :=
  ⟨fun i H=>i < n∧∃ xs,SqL K H a xs∧xs.length = n,fun i H x H'=>H' = H∧∀ xs,SqL K H a xs→xs[n - 1 - i]? = some x,fun i _=>i = n⟩
theorem turn_rev {P : Program} {w : World} {K : PySem.W.Frag} {tg : Expr} (a it : Addr) (n : Nat) : Turn P w K tg (Itv K a n) [it] it (fun i h=>h.IsRevIter it a ((n : Int) - 1 - (i : Int))) where
  mem:=List.mem_singleton.mpr rfl
  obj:=fun i h st b hb=>by
    rw [List.mem_singleton.mp hb]
    obtain ⟨o,e,_,d⟩:=st
    exact ⟨o,e,fun v z=>by rw [d] at z; cases z⟩
  keep:=fun i h h' st k=>st.at fun o e=>k it (List.mem_singleton.mpr rfl) o e
  item:=by
    intro X hP hw hK hc i pins s σ H E I hf st hg
    subst hP hw hK
    obtain ⟨hi,xs,hq,hn⟩:=hg
    obtain ⟨its,rv,p,hz⟩:=I.list hq
    have hl:=rv.length
    obtain ⟨f0,f1,f2,f3,f4,f5⟩:=hf it (List.mem_singleton.mpr rfl)
    have hx : xs[n - 1 - i]? = some xs[n - 1 - i]:=List.getElem?_eq_getElem (by omega)
    obtain ⟨u,hu,ru⟩:=rv.get hx
    have st : s.heap.IsRevIter it a (((n - 1 - i : Nat) : Nat) : Int):=by
      rw [show (((n - 1 - i : Nat) : Nat) : Int) = (n : Int) - 1 - (i : Int) by omega]
      exact st
    refine wpAny_pyNext_rev_item st p.isList (x:=u) (by simpa using hu) fun h' st' sb=>?_
    have I1 : Inv X pins σ H { s with heap:=h' }:=I.turned (t':=s.toks) (fun b o hb e=>(sb.2 b hb).trans e) f0 f1 f3 f4 f5
    rw [show (((n - 1 - i : Nat) : Nat) : Int) - 1 = (n : Int) - 1 - ((i + 1 : Nat) : Int) by omega] at st'
    obtain ⟨o,e,c,d⟩:=id st'
    exact ⟨u,rfl,go_of (s:={ s with heap:=h' }) e c d (by decide) ⟨_,H,I1,ru,⟨rfl,fun ys hy=>by rw [I.list_inj hy hq]; exact hx⟩,st',fun b hb=>(hf b hb).1⟩⟩
  done:=by
    intro X hP hw hK hc i pins s σ H E I hf st hg
    subst hP hw hK
    obtain ⟨f0,f1,f2,f3,f4,f5⟩:=hf it (List.mem_singleton.mpr rfl)
    have hg : i = n:=hg
    rw [hg,show (n : Int) - 1 - (n : Int) = -1 by omega] at st
    exact wpAny_pyNext_rev_end (I.ok.hd hc) st fun h' eb=>⟨rfl,I.turned (t':=s.toks) (fun b o hb e=>eb b o hb e) f0 f1 f3 f4 f5⟩
  self:=fun _ _ _ _ _ st h=>wpAny_pyIter_revIter st h
section
variable {X : Cx} {tg : Expr}
theorem boot_reversed : bootBuiltins "reversed" = some (.type "reversed"):=by decide +kernel
def iRev (K : PySem.W.Frag) (ta : TA) : TI:=fun σ H R=>ta σ H fun vs H1=>∃ a xs,vs = [.ref a]∧SqL K H1 a xs∧R (Itv K a xs.length) H1
theorem pi_reversed {a : Expr} {ta : TA} {p pos : Pos} (hg : Gl X "reversed") (hm : X.mg "reversed" = none) (ha : PA X [a] ta) (hs : starEach [a] X.env = [(false,eval a X.env)]:=by rfl) : PI X tg (.Call (.Name "reversed" p) [a] [] pos) (iRev X.K ta):=by
  intro pins s σ H R I h
  refine Call_ (ld_blt I hg hm boot_reversed (PyProof.Rows.callWith_type1 (thn (ha pos pins s σ H _ I h) fun us s1 ⟨vs,H1,I1,r1,q1⟩=>?_) hs rfl))
  obtain ⟨b,xs,e,hq,q⟩:=q1
  subst e
  obtain ⟨u,rfl,ru⟩:=r1.one
  cases ru
  obtain ⟨its,rv,pl,hz⟩:=I1.list hq
  have hl:=rv.length
  refine call_reversed_list pl.isList ?_
  have I2 : Inv X pins σ H1 { s1 with heap:=s1.heap.push (revObj b ((its.toArray.size : Int) - 1)) }:=I1.kept (t':=s1.toks) fun b o e=>Heap.get?_push_of_some _ e
  have st : (s1.heap.push (revObj b ((its.toArray.size : Int) - 1))).IsRevIter s1.heap.objs.size b ((xs.length : Int) - 1 - ((0 : Nat) : Int)):=⟨_,Heap.get?_push_size _ rfl,rfl,by
    show Data.fields _ = _
    rw [List.size_toArray,hl]
    simp⟩
  refine wpAny_pyIter_revIter (s:={ s1 with heap:=s1.heap.push (revObj b ((its.toArray.size : Int) - 1)) }) st ?_
  refine ⟨_,[s1.heap.objs.size],_,Itv X.K b xs.length,H1,rfl,I2,turn_rev b _ xs.length,st,fun c hc=>?_,q⟩
  rw [List.mem_singleton.mp hc]
  exact I1.fpOk (Nat.le_refl _) (I1.hok.fresh (Nat.le_refl _))
end
theorem for_rev {K : PySem.W.Frag} {a : Addr} {xs : List V} {g : TG} {tb : TS} {D : Ends} {σ : St} {H : Hp} (Pv : Nat→St→Hp→Prop) (h0 : Pv 0 σ H) (hl : ∀ i σ H,i ≤ xs.length→Pv i σ H→SqL K H a xs)
    (hs : ∀ i x σ H,xs.reverse[i]? = some x→Pv i σ H→g x σ H fun σ2 H2=>tb { D with nx:=Pv (i + 1),ct:=Pv (i + 1),bk:=D.nx } σ2 H2) (hd : ∀ σ H,Pv xs.length σ H→D.nx σ H) :
    ∃ W : Nat→Nat→St→Hp→Prop,(∃ m,W 0 m σ H)∧∀ i m σ H,W i m σ H →
      ((Itv K a xs.length).stop i H∧D.nx σ H)∨((Itv K a xs.length).go i H∧∃ N : St→Hp→Prop,(∀ σ' H',N σ' H'→∃ m',m' < m∧W (i + 1) m' σ' H')∧∀ v H',(Itv K a xs.length).yld i H v H'→g v σ H' fun σ2 H2=>tb { D with nx:=N,ct:=N,bk:=D.nx } σ2 H2):=by
  refine ⟨fun i m σ H=>m = xs.length - i∧i ≤ xs.length∧Pv i σ H,⟨_,rfl,Nat.zero_le _,h0⟩,?_⟩
  rintro i m σ H ⟨rfl,hi,p⟩
  have q:=hl i σ H hi p
  by_cases hlt : i < xs.length
  · refine .inr ⟨⟨hlt,xs,q,rfl⟩,Pv (i + 1),fun σ' H' z=>⟨_,by omega,rfl,hlt,z⟩,fun v H' ⟨e,hv⟩=>?_⟩
    subst e
    refine hs i v σ H' ?_ p
    rw [List.getElem?_reverse hlt]
    exact hv xs q
  · have e : i = xs.length:=by omega
    subst e
    exact .inl ⟨rfl,hd σ H p⟩
end L2

namespace PySem
namespace Zt
theorem draws_sq {prog : Program} {w : World} {A : Around} {k : SK} (hh : A.handled = none) (it a : Addr) (hne : a ≠ it) (items : Array Value) :
    Draws prog w A it [it,a] items.size (fun i v=>items[i]? = some v) (fun i h=>ItAt k h it a i∧SqAt k h a items) where
  live:=fun _ _ st=>by
    obtain ⟨o,ho,_⟩:=st.1.obj
    exact ⟨o,ho⟩
  frame:=fun _ _ _ st hk=>⟨st.1.at fun o e=>hk it (by simp) o e,st.2.at fun o e=>hk a (by simp) o e⟩
  item:=fun i s Q E hi st hQ=>by
    have hx : items[i]? = some items[i]:=Array.getElem?_eq_getElem hi
    exact next_item st.1 st.2 hx fun h' hit' hs'=>hQ _ h' s.toks hx ⟨hit',st.2.at fun o e=>hs'.extBut _ _ hne e⟩ hs'
  done:=fun s Q E st hE=>next_end hh st.1 st.2 (Array.getElem?_eq_none (Nat.le_refl _)) hE
abbrev enumObj (it : Addr) : Obj:={ cls:=.type "enumerate",data:=.fields #[.none,.bool false,.ref it,rawInt 0,.none,.none] }
theorem meets_enum (k : SK) (l : Addr) (xs : Array Value) :
    Meets (Builtin.«enumerate.__new__» ⟨[.type "enumerate",.ref l],[]⟩) (fun _ R s=>SqAt k s.heap l xs∧R (.ok (.ret (.ref (g1 k s.heap l).objs.size))) { s with heap:=(g1 k s.heap l).push (enumObj s.heap.objs.size) }) :=
  .of_wp fun prog w A R s h=>by
    obtain ⟨hp,g,d,tk,os⟩:=s
    obtain ⟨hl,h⟩:=h
    have hsub:=sub_enumerate
    have L1 : SqAt k (Shared.heap ⟨hp,g,d,tk,os⟩) l xs:=hl
    wp_walk
    refine wpAny_stack_any fun st=>wpAny_pure ?_
    split
    · rename_i c _ _ _ _ _
      cases (c == Value.type "enumerate") <;> (wp_walk using pyIter_sq L1; exact ⟨_,rfl,h⟩)
    · wp_walk using pyIter_sq L1
      exact ⟨_,rfl,h⟩
theorem call_enum {prog : Program} {w : World} {A : Around} {E : Value→Shared→Prop} {s : Shared} {k : SK} {l : Addr} {xs : Array Value} {Q : Value→Shared→Prop} (hl : SqAt k s.heap l xs)
    (h : ∀ h',IsEnum h' (s.heap.objs.size + 1) s.heap.objs.size 0 .none→ItAt k h' s.heap.objs.size l 0→(∀ b o,s.heap.get? b = some o→h'.get? b = some o)→Q (.ref (s.heap.objs.size + 1)) { s with heap:=h' }) :
    wpAny (model prog w) A (call (.type "enumerate") [.ref l]) Q E s:=by
  refine callType_new F.called_enumerate (by decide) (F.typeCall_enumerate_1 _) (F.newCall_enumerate_1 _) (fun obj=>F.args_object_init_2 obj _) F.entry_enumerate_new (meets_enum k l xs) ⟨hl,?_⟩
  have z1 : (g1 k s.heap l).objs.size = s.heap.objs.size + 1:=Heap.size_push ..
  have e2 : ((g1 k s.heap l).push (enumObj s.heap.objs.size)).get? (g1 k s.heap l).objs.size = some (enumObj s.heap.objs.size):=Heap.get?_push_size _ rfl
  have e1 : ((g1 k s.heap l).push (enumObj s.heap.objs.size)).get? s.heap.objs.size = some (itObj k l):=Heap.get?_push_of_some _ (Heap.get?_push_size _ (by cases k <;> rfl))
  show _∧_
  rw [z1] at e2 ⊢
  exact ⟨⟨_,e2,rfl⟩,h _ e2 (itObj_at e1) fun b o x=>Heap.get?_push_of_some _ (Heap.get?_push_of_some _ x)⟩
end Zt
end PySem
namespace L2
open PySem PySem.Spec PyProof.Rows PySem.Zt
def Ite (k : SK) (K : PySem.W.Frag) (a : Addr) : It :=
  ⟨fun i H=>∃ xs x,SqK k K H a xs∧xs[i]? = some x,fun i H v H'=>∃ p,H p = none∧v = .ref p∧∀ xs x,SqK k K H a xs→xs[i]? = some x→H' = upd H p (.tup [.int i,x]),fun i H=>∃ xs,SqK k K H a xs∧xs.length = i⟩
theorem turn_enum {P : Program} {w : World} {K : PySem.W.Frag} {es : List Expr} {n : Nat} {tp : Pos} {k : SK} {e it : Addr} (a : Addr) (ne : e ≠ it) :
    Turn P w K (.Tuple es n tp) (Ite k K a) [e,it] e (fun i h=>(∃ old,IsEnum h e it (i : Nat) old)∧ItAt k h it a i) where
  mem:=by simp
  obj:=fun i h st b hb=>by
    obtain ⟨⟨old,he⟩,hit⟩:=st
    rcases List.mem_cons.mp hb with rfl | hb
    · exact ⟨_,he,fun v z=>by
        have z' : Data.fields _ = Data.cell v:=z
        cases z'⟩
    · rw [List.mem_singleton.mp hb]
      exact hit.obj
  keep:=fun i h h' ⟨⟨old,he⟩,hit⟩ k=>⟨⟨old,k e (by simp) _ he⟩,hit.at fun o q=>k it (by simp) o q⟩
  item:=by
    intro X hP hw hK hc i pins s σ H E I hf st hg
    subst hP hw hK
    obtain ⟨xs,x,ha,hx⟩:=hg
    obtain ⟨its,r,p,_⟩:=I.seqK ha
    obtain ⟨u,eu,ru⟩:=r.get hx
    have fe:=hf e (by simp)
    have fi:=hf it (by simp)
    have ae : a ≠ e:=I.off ha fe
    have ai : a ≠ it:=I.off ha fi
    obtain ⟨⟨old,he⟩,hit⟩:=st
    have eu' : its.toArray[i]? = some u:=by simpa using eu
    have hlt : i < its.toArray.size:=(Array.getElem?_eq_some_iff.mp eu').1
    refine wpAny_pyNext_enum_itemD (draws_sq (A:=X.A.in1) (k:=k) (I.ok.hd hc) it a ai its.toArray) he ⟨hit,p⟩ hlt ne (by simp [ne,ae.symm]) fun x' h1 tk hP O1 S1 T1 z1 kk=>?_
    rw [eu'] at hP
    cases hP
    refine ⟨_,rfl,wpAny_letOwnedTupleGo_enum O1 fun h2 E2 sb=>?_⟩
    have lt : ∀ {c o},s.heap.get? c = some o→c ≠ s.heap.objs.size:=fun q=>Nat.ne_of_lt (Heap.lt_size q)
    have te : s.heap.objs.size ≠ e:=(lt he).symm
    have ti : s.heap.objs.size ≠ it:=by
      obtain ⟨o,q,_⟩:=hit.obj
      exact (lt q).symm
    have T2:=sb.extBut _ _ te T1
    have k2 : ∀ c o,c ∉ [e,it]→s.heap.get? c = some o→h2.get? c = some o:=fun c o hc q=>by
      simp only [List.mem_cons,List.not_mem_nil,or_false,not_or] at hc
      exact sb.extBut c o hc.1 (kk c o hc.1 hc.2 q)
    have hn : H s.heap.objs.size = none:=I.fresh
    refine ⟨.ref s.heap.objs.size,upd H s.heap.objs.size (.tup [.int i,x]),I.turnedLaid (t':=tk + 1) (ch:=[e,it]) hf k2 (Nat.le_refl _) ⟨by show 2 ≤ sizeLine; decide,[.int i tk,u],.cons ⟨_,rfl⟩ (.cons ru .nil),⟨_,T2,rfl,_,rfl⟩⟩,rfl,
      ⟨_,hn,rfl,fun xs' x' ha' hx'=>?_⟩,⟨⟨_,E2⟩,S1.1.at fun o q=>sb.extBut _ _ ne.symm q⟩,fun c hc=>?_⟩
    · have:=I.seqK_inj ha ha'
      subst this
      rw [hx] at hx'
      cases hx'
      rfl
    · have hne : c ≠ s.heap.objs.size:=by
        rcases List.mem_cons.mp hc with rfl | hc
        · exact te.symm
        · rw [List.mem_singleton.mp hc]; exact ti.symm
      rw [upd_ne hne]
      exact (hf c hc).1
  done:=by
    intro X hP hw hK hc i pins s σ H E I hf st hg
    subst hP hw hK
    obtain ⟨xs,ha,hend⟩:=hg
    obtain ⟨its,r,p,_⟩:=I.seqK ha
    have l1:=r.length
    have fe:=hf e (by simp)
    have fi:=hf it (by simp)
    have ai : a ≠ it:=I.off ha fi
    obtain ⟨⟨old,he⟩,hit⟩:=st
    have ei : i = its.toArray.size:=by simp; omega
    subst ei
    refine wpAny_pyNext_enum_endD (draws_sq (A:=X.A.in1) (k:=k) (I.ok.hd hc) it a ai its.toArray) he ⟨hit,p⟩ fun h' kk=>⟨rfl,I.turnedL (t':=s.toks) (ch:=[e,it]) hf fun c o hc q=>?_⟩
    simp only [List.mem_cons,List.not_mem_nil,or_false,not_or] at hc
    exact kk c o hc.2 q
  self:=fun _ _ _ _ _ st h=>by
    obtain ⟨⟨old,he⟩,_⟩:=st
    exact wpAny_pyIter_enum he h
theorem boot_enum : bootBuiltins "enumerate" = some (.type "enumerate"):=by decide +kernel
def iEnum (K : PySem.W.Frag) (ta : TA) : TI:=fun σ H R=>ta σ H fun vs H1=>∃ k a xs,vs = [.ref a]∧SqK k K H1 a xs∧R (Ite k K a) H1
theorem pi_enum {X : Cx} {es : List Expr} {n : Nat} {tp : Pos} {a : Expr} {ta : TA} {p pos : Pos} (hg : Gl X "enumerate") (hm : X.mg "enumerate" = none) (ha : PA X [a] ta) (hs : starEach [a] X.env = [(false,eval a X.env)]:=by rfl) :
    PI X (.Tuple es n tp) (.Call (.Name "enumerate" p) [a] [] pos) (iEnum X.K ta):=by
  intro pins s σ H R I h
  refine Call_ (ld_blt I hg hm boot_enum (PyProof.Rows.callWith_type1 (thn (ha pos pins s σ H _ I h) fun us s1 ⟨vs,H1,I1,r1,q1⟩=>?_) hs rfl))
  obtain ⟨k,b,xs,e,hq,q⟩:=q1
  subst e
  obtain ⟨u,rfl,ru⟩:=r1.one
  cases ru
  obtain ⟨its,rv,pl,hz⟩:=I1.seqK hq
  refine call_enum pl fun h' E1 It1 kk=>wpAny_pyIter_enum (s:={ s1 with heap:=h' }) E1 ?_
  refine ⟨_,[s1.heap.objs.size + 1,s1.heap.objs.size],_,_,H1,rfl,I1.kept (t':=s1.toks) kk,turn_enum b (Nat.succ_ne_self _),⟨⟨_,E1⟩,It1⟩,fun c hc=>?_,q⟩
  have hle : s1.heap.objs.size ≤ c:=by
    rcases List.mem_cons.mp hc with rfl | hc
    · exact Nat.le_succ _
    · rw [List.mem_singleton.mp hc]; exact Nat.le_refl _
  exact I1.fpOk hle (I1.hok.fresh hle)
theorem for_enum {K : PySem.W.Frag} {k : SK} {a : Addr} {xs : List V} {g : TG} {tb : TS} {D : Ends} {σ : St} {H : Hp} (Pv : Nat→St→Hp→Prop) (h0 : Pv 0 σ H) (hl : ∀ i σ H,i ≤ xs.length→Pv i σ H→SqK k K H a xs)
    (hs : ∀ i x σ H p,xs[i]? = some x→Pv i σ H→H p = none→g (.ref p) σ (upd H p (.tup [.int i,x])) fun σ2 H2=>tb { D with nx:=Pv (i + 1),ct:=Pv (i + 1),bk:=D.nx } σ2 H2) (hd : ∀ σ H,Pv xs.length σ H→D.nx σ H) :
    ∃ W : Nat→Nat→St→Hp→Prop,(∃ m,W 0 m σ H)∧∀ i m σ H,W i m σ H →
      ((Ite k K a).stop i H∧D.nx σ H)∨((Ite k K a).go i H∧∃ N : St→Hp→Prop,(∀ σ' H',N σ' H'→∃ m',m' < m∧W (i + 1) m' σ' H')∧∀ v H',(Ite k K a).yld i H v H'→g v σ H' fun σ2 H2=>tb { D with nx:=N,ct:=N,bk:=D.nx } σ2 H2):=by
  refine ⟨fun i m σ H=>m = xs.length - i∧i ≤ xs.length∧Pv i σ H,⟨_,rfl,Nat.zero_le _,h0⟩,?_⟩
  rintro i m σ H ⟨rfl,hi,p⟩
  have q:=hl i σ H hi p
  by_cases hlt : i < xs.length
  · have hx : xs[i]? = some xs[i]:=List.getElem?_eq_getElem hlt
    refine .inr ⟨⟨xs,_,q,hx⟩,Pv (i + 1),fun σ' H' z=>⟨_,by omega,rfl,hlt,z⟩,fun v H' ⟨r,hr,ev,y⟩=>?_⟩
    subst ev
    rw [y xs _ q hx]
    exact hs i _ σ H r hx p hr
  · have e : i = xs.length:=by omega
    subst e
    exact .inl ⟨⟨xs,q,rfl⟩,hd σ H p⟩
end L2

namespace L2
open PySem PySem.Spec PyProof.Rows
structure TRow where
  x : PySem.Str
  i : Int
  t : Tok
  u : Tok
def TRow.en (w : World) (r : TRow) : DictEntry:=⟨PyData.keyHash w.params r.x,.str r.x r.t,.int r.i r.u⟩
def STab (w : World) (K : PySem.W.Frag) (a : Addr) (D : List (PySem.Str × Int)) : Prop :=
  (a == sysModules) = false∧(D.map (·.1)).Nodup∧∃ (L : List TRow) (n : Nat),K.lookup a = some ⟨.type "dict",none,.dict (L.map (TRow.en w)).toArray n,#[]⟩∧L.map (fun r=>(r.x,r.i)) = D
def tabV (D : List (PySem.Str × Int)) (z : PySem.Str) : Option Int:=(D.find? fun p=>p.1 = z).map (·.2)
theorem STab.dict {X : Cx} {pins : List (Addr × Obj)} {σ : St} {H : Hp} {s : Shared} {a : Addr} {D : List (PySem.Str × Int)} (I : Inv X pins σ H s) (h : STab X.w X.K a D) :
    ∃ kvs : List (PySem.Str × Value),s.heap.DictOf (PySem.strKind X.prog X.w) a kvs∧∀ z,(tabV D z = none→valueAt kvs z = none)∧∀ i,tabV D z = some i→∃ t,valueAt kvs z = some (.int i t):=by
  obtain ⟨_,nd,L,n,lk,rfl⟩:=h
  refine ⟨L.map fun r=>(r.x,.int r.i r.u),⟨_,_,_,I.kIn a _ lk,⟨rfl,rfl,rfl⟩,rfl,?_,?_,?_⟩,fun z=>?_⟩
  · intro e he
    obtain ⟨r,_,rfl⟩:=List.mem_map.mp (by simpa using he)
    exact ⟨r.x,PySem.strKind_is _ _ _ _,rfl⟩
  · clear lk nd
    show Pairs _ (L.map (TRow.en X.w)).toArray.toList _
    simp only []
    induction L with
    | nil=>exact .nil
    | cons r L ih=>exact .cons (PySem.strKind_is _ _ _ _) rfl ih
  · simpa [List.map_map,Function.comp_def] using nd
  · clear lk nd
    induction L with
    | nil=>exact ⟨fun _=>rfl,fun i e=>by cases e⟩
    | cons r L ih =>
      by_cases q : r.x = z
      · refine ⟨fun e=>?_,fun i e=>⟨r.u,?_⟩⟩
        · simp [tabV,q] at e
        · simp [tabV,q] at e
          simp [valueAt,q,e]
      · have e1 : tabV ((r :: L).map fun r=>(r.x,r.i)) z = tabV (L.map fun r=>(r.x,r.i)) z:=by simp [tabV,q]
        have e2 : valueAt ((r :: L).map fun r=>(r.x,Value.int r.i r.u)) z = valueAt (L.map fun r=>(r.x,Value.int r.i r.u)) z:=by simp [valueAt,q]
        rw [e1,e2]
        exact ih
section
variable {X : Cx}
def rInT (w : World) (K : PySem.W.Frag) (neg : Bool) : R2:=fun x y H Q=>∃ z a D,x = .str z∧y = .ref a∧STab w K a D∧Q (.bl (if neg then !(tabV D z).isSome else (tabV D z).isSome)) H
theorem some_of_tab {kvs : List (PySem.Str × Value)} {D : List (PySem.Str × Int)} {z : PySem.Str} (h : (tabV D z = none→valueAt kvs z = none)∧∀ i,tabV D z = some i→∃ t,valueAt kvs z = some (.int i t)) : (valueAt kvs z).isSome = (tabV D z).isSome:=by
  cases e : tabV D z with
  | none=>rw [h.1 e]; rfl
  | some i =>
    obtain ⟨t,q⟩:=h.2 i e
    rw [q]; rfl
theorem op_notInT : OpR X (compareOp .NotIn) (rInT X.w X.K true):=by
  intro pins s σ H x y v u Q I rx ry h
  obtain ⟨z,a,D,rfl,rfl,hd,q⟩:=h
  obtain ⟨t,rfl⟩:=rx
  cases ry
  obtain ⟨kvs,dd,hv⟩:=hd.dict I
  refine wpAny_notIn_of (PySem.strKind_is _ _ z t) hd.1 dd.mapOf ?_
  rw [some_of_tab (hv z)]
  exact ⟨.bl _,H,I.tok _,rfl,q⟩
def rIxD (w : World) (K : PySem.W.Frag) : R2:=fun x y H Q=>∃ a z D i,x = .ref a∧y = .str z∧STab w K a D∧tabV D z = some i∧Q (.int i) H
theorem ix_tab : IxR X (rIxD X.w X.K):=by
  intro value slice pins s σ H x y v u Q I rx ry h hs
  obtain ⟨a,z,D,i,rfl,rfl,hd,hi,q⟩:=h
  cases rx
  obtain ⟨t,rfl⟩:=ry
  obtain ⟨kvs,dd,hv⟩:=hd.dict I
  obtain ⟨t',e⟩:=(hv z).2 i hi
  exact subscriptTail_builtinR (x:=.int i t') dd.typeIs PySem.F.slot_dict_getitem.lookup
    (wpAny_getItem_of (Q:=fun r s'=>r = Value.int i t'∧EP X pins σ Q r s') (PySem.strKind_is _ _ z t) dd.mapOf e ⟨rfl,.int i,H,I.tok _,⟨_,rfl⟩,q⟩) hs
variable {o e f : Expr} {apos cpos : Pos} {td ty tx : TE}
def tTGet2 (w : World) (K : PySem.W.Frag) (td ty tx : TE) : TE:=fun σ H Q=>td σ H fun x H1=>∃ a D,x = .ref a∧STab w K a D∧ty σ H1 fun y H2=>tx σ H2 fun z H3=>∃ k j,y = .str k∧z = .int j∧Q (.int ((tabV D k).getD j)) H3
theorem pe_tget2 (ho : PE X o td) (he : PE X e ty) (hf : PE X f tx) (m : M2 X o "get" apos e f cpos) : PE X (.Call (.Attribute o "get" apos) [e,f] [] cpos) (tTGet2 X.w X.K td ty tx):=by
  intro pins s σ H Q I h
  refine wpAny_Call_method m.base m.few m.line PySem.F.plainAttrs_dict PySem.F.slot_dict_get PySem.F.type_dict_get (thn (ho pins s σ H _ I h) fun u s1 ⟨x,H1,I1,rx,a,D,ex,hd,q1⟩=>?_)
  subst ex
  obtain rfl : u = Value.ref a:=rx
  obtain ⟨kvs,dd,hv⟩:=hd.dict I1
  refine ⟨dd.typeIs,dd.mapOf.noDict,?_⟩
  rw [m.trees]
  refine Calls.callWith_builtin rfl (Calls.evalArgs_plain (Calls.spliced_cons (thn (he pins s1 σ H1 _ I1 q1) fun iv s2 ⟨y,H2,I2,ry,q2⟩ =>
    Calls.spliced_cons (thn (hf pins s2 σ H2 _ I2 q2) fun fv s3 ⟨z,H3,I3,rz,k,j,ey,ez,q3⟩=>Calls.spliced_nil ?_))))
  subst ey ez
  obtain ⟨t,rfl⟩:=ry
  obtain ⟨t',rfl⟩:=rz
  obtain ⟨kvs,dd,hv⟩:=hd.dict I3
  refine call_meetsIn PySem.F.slot_dict_get dd.typeIs PySem.F.entry_dict_get (PySem.F.args_dict_get_3 _ _ _) (meets_dict_get_default (PySem.strKind X.prog X.w) a (PySem.strKind_is _ _ k t) hd.1 (.int j t')) ⟨_,dd.mapOf,?_⟩
  refine ⟨.int ((tabV D k).getD j),H3,I3.tok _,?_,q3⟩
  cases e : tabV D k with
  | none=>rw [(hv k).1 e]; exact ⟨_,rfl⟩
  | some i =>
    obtain ⟨t2,q⟩:=(hv k).2 i e
    rw [q]
    exact ⟨_,rfl⟩
end
end L2

namespace L2
open PySem PySem.Spec PyProof.Rows
section
variable {X : Cx} {m : Str} {o e : Expr} {es : List Expr} {ta : TE} {t : TA} {apos pos : Pos}
end
end L2

namespace L2
open PySem PySem.W PySem.Spec PySem.Calls PyProof.Rows PySem.Builtin PySem.Builtin.ObjectAttr
def mroTail : List Value→Bool
  | []=>false
  | v :: r=>(v :: r) == bmVal || match v with
    | .ref _=>mroTail r
    | _=>false
structure XSet (K : Frag) (C : Addr) : Prop where
  sa : findIn K (.ref C) "__setattr__" = some (some (.builtin "object.__setattr__"))
  hm : mroIn K C (.type "object") = some true
  mt : (clsIn K C).any (fun cd=>mroTail cd.mro) = true
  hd : hasDictIn K C = true
theorem refuse_tail (self : Value) : ∀ {l : List Value},mroTail l = true→refuseLoop self "__setattr__" l = pure ()
  | [],e=>by cases e
  | v :: r,e=>by
    unfold mroTail at e
    rcases Bool.or_eq_true_iff.mp e with q | q
    · rw [beq_iff_eq.mp q]
      exact PySem.F.store_ValueError.passes self
    · cases v with
      | ref a=>rw [refuseLoop_ref]; exact refuse_tail self q
      | _=>cases q
section
variable {prog : Program} {w : World} {A : Around} {K : Frag} {x C : Addr} {s : Shared} {R : Result→Shared→Prop}
theorem osx_open {ox : Obj} {od : Option Obj} {name : Str} {tk : Tok} {v : Value} (X : K.In s.heap) (I : InstAt s.heap x ox C od) (c : XSet K C) (ht : takerIn K C name = some none)
    (h : ∀ b,wpAny (model prog w) A.in1 (storeInOwnDict (.ref x) (.ref C) (.str name tk) name v b)
      (fun fin s'=>match fin with | .done f=>R (.ok f) s' | .again c'=>c'.quiet = true∧codeAny (model prog w) A c' R s') (fun e s'=>R (.error e) s') s) :
    codeAny (model prog w) A (.call (.builtin "object.__setattr__") ⟨[.ref x,.str name tk,v],[]⟩) R s:=by
  have SF:=PySem.F.store_object
  obtain ⟨cd,hc,ho⟩:=any_some c.mt
  have sub : Looks (model prog w) s.heap (isInstance (.ref x) (.type "object")) true:=I.type.andThen (looks_mroIn X c.hm)
  have hm : Looks (model prog w) s.heap (mroOf (.ref C)) cd.mro:=(looks_clsIn X hc).andThen .now
  obtain ⟨attr,ha,hr⟩:=Option.bind_eq_some_iff.mp ht
  have L3 : Looks (model prog w) s.heap (storeTaker? attr) none:=by
    cases attr with
    | none=>exact .now
    | some a =>
      obtain ⟨b,hb,q⟩:=Option.map_eq_some_iff.mp hr
      refine (looks_takesIn X hb).andThen ?_
      cases b with
      | true=>cases q
      | false=>exact .now
  refine codeAny_call_builtin SF.slot.plain SF.entry (@check_slot (model prog w) _ _ s "object.__setattr__" "object" "__setattr__" (.ref x) [.str name tk,v] [] _ SF.kind SF.split sub (SF.args (.ref x) (.str name tk) v) ?_)
  rw [osa_eq,refuse_eq]
  refine wpAny_bind (wpAny_bind (I.type.here (wpAny_bind (hm.here ?_))))
  rw [refuse_tail _ ho]
  exact wpAny_pure (wpAny_bind (I.type.here (wpAny_bind ((looks_findIn X ha).here (wpAny_bind (L3.here (h _)))))))
theorem xset {E : Value→Shared→Prop} {cl : Value} {vs : Array Value} {sl : Array (Option Value)} {name : Str} {v : Value} {Q : Unit→Shared→Prop} (X : K.In s.heap) (hx : s.heap.get? x = some ⟨.ref C,none,.fields vs,sl⟩) (c : XSet K C) (ht : takerIn K C name = some none)
    (h : ∀ h',h'.Ns1 s.heap.objs.size (fun y=>if y = name then some v else none)→h'.get? x = some ⟨.ref C,some s.heap.objs.size,.fields vs,sl⟩→(∀ b o,b ≠ x→s.heap.get? b = some o→h'.get? b = some o)→Q () { s with heap:=h',toks:=s.toks + 2 }) :
    wpAny (model prog w) A (setAttr (.ref x) name v) Q E s:=by
  have I : InstAt s.heap x ⟨.ref C,none,.fields vs,sl⟩ C none:=⟨hx,rfl,rfl,trivial⟩
  refine set_plain X I c.sa (osx_open (s:={ s with toks:=s.toks + 1 }) X I c ht fun b=>?_)
  obtain ⟨cd,hc,hd'⟩:=any_some c.hd
  have hxs : x ≠ s.heap.objs.size:=Nat.ne_of_lt (Heap.lt_size hx)
  have hx1 : (s.heap.push { cls:=.type "dict",data:=.dict #[] }).get? x = some ⟨.ref C,none,.fields vs,sl⟩:=Heap.get?_push_of_some _ hx
  refine wpAny_bind (wpAny_pure (wpAny_bind (wpAny_bind (wpAny_loadPart hx (wpAny_bind ((looks_clsIn (M:=model prog w) X hc).here (s:={ s with toks:=s.toks + 1 }) ?_))))))
  rw [hd']
  refine wpAny_bind (wpAny_alloc (wpAny_bind (wpAny_update hx1 (wpAny_pure ?_))))
  generalize hg : (s.heap.push { cls:=.type "dict",data:=.dict #[] }).update x (fun o=>{ o with dict:=some s.heap.objs.size }) = h1
  have e1 : h1.get? s.heap.objs.size = some { cls:=.type "dict",data:=.dict #[] }:=by
    rw [← hg]
    exact (Heap.get?_update_other _ _ hxs).trans (Heap.get?_push_size s.heap rfl)
  have e2 : h1.get? x = some ⟨.ref C,some s.heap.objs.size,.fields vs,sl⟩:=by
    rw [← hg]
    exact Heap.get?_update_self _ hx1 rfl
  have e3 : ∀ b o,b ≠ x→s.heap.get? b = some o→h1.get? b = some o:=fun b o n q=>by
    rw [← hg]
    exact (Heap.get?_update_other _ _ (Ne.symm n)).trans (Heap.get?_push_of_some _ q)
  have n1 : h1.Ns s.heap.objs.size (fun _=>none):=⟨_,#[],_,e1,rfl,fun e he=>absurd he (by simp),fun _=>rfl⟩
  refine wpAny_bind (wpAny_pure (wpAny_bind ?_))
  refine wpAny_nsSet1 (Heap.Ns1.of_empty n1) fun h' hn2 hs2=>?_
  obtain ⟨oD,esD,epD,hoD,hdD,hcD⟩:=hn2.count (PySem.Within.cons name v PySem.Within.nil)
  refine wpAny_bind (wpAny_lookBehind hoD (by rw [hdD]; exact pastItsLine_dict (Nat.le_trans hcD (by rw [List.length_cons,List.length_nil,sizeLine_eq]; omega))) ?_)
  exact wpAny_pure (h _ hn2 ((hs2.2 _ hxs).trans e2) fun b o n q=>(hs2.2 b (Nat.ne_of_lt (Heap.lt_size q))).trans (e3 b o n q))
end
end L2

namespace L2
open PySem PySem.Spec PyProof.Rows
def XM (a C : Addr) (dd : Option Addr) (h : Heap) : Prop:=∃ t : Addr,h.get? a = some ⟨.ref C,dd,.fields #[.ref t,.none,.none,.none,.bool false,.none],#[]⟩
theorem xm_ok {P : Program} {w : World} {H : Hp} {h : Heap} {a C : Addr} {dd : Option Addr} (x : XM a C dd h) : ObjOk P w H h a (.ext (XM a C dd)):=by
  refine ⟨x,?_,fun h1 h2 p k=>?_⟩
  · obtain ⟨t,e⟩:=x
    exact ⟨_,e⟩
  · obtain ⟨t,e⟩:=p
    exact ⟨t,k _ e⟩
def xclsI (K : PySem.W.Frag) (C f : Addr) : Bool:=match K.lookup C with
  | some ⟨.type "type",_,.cls cd,sl⟩=>(match cd.mro,sl.toList with
    | .ref C' :: bm,[_,_,_,_,some (.builtin n),_]=>C' == C && n == "ValueError.__new__" && !cd.hasDel && PySem.W.tailIn K bmVal bm && PySem.W.nsOkIn K cd.ns && PySem.W.nsIn K cd.ns "__init__" == some (some (.ref f))
    | _,_=>false)
  | _=>false
def XObjI (h : Heap) (C f : Addr) : Prop:=∃ bm N nm qn bs hd sn sub ab col dd k0 k1 k2 k3 k5 mN,h.get? C = some (excClassObj nm qn C N bs bm hd sn sub ab col dd k0 k1 k2 k3 k5 "ValueError.__new__")∧h.Ns N mN∧mN "__init__" = some (.ref f)∧OwnTail h bmVal bm
theorem ns_has {K : PySem.W.Frag} {h : Heap} {N : Addr} {m : Str→Option Value} {x : Str} {v : Value} (X : K.In h) (G : h.Ns N m) (q : PySem.W.nsIn K N x = some (some v)) : m x = some v:=by
  obtain ⟨o,es,ep,e1,e2,_,e3⟩:=G
  unfold PySem.W.nsIn at q
  split at q
  case h_2=>cases q
  case h_1 lk =>
    have z:=e1.symm.trans (X _ _ lk)
    cases z
    cases e2
    split at q
    case h_2 =>
      split at q <;> cases q
    case h_1 fd =>
      rw [← e3]
      unfold nsFind findBy
      rw [← Array.find?_toList,fd]
      exact Option.some.inj q
theorem xclsI_obj {K : PySem.W.Frag} {C f : Addr} (x : xclsI K C f = true) {h : Heap} (I : K.In h) : XObjI h C f:=by
  unfold xclsI at x
  split at x
  case h_2=>cases x
  case h_1 dd cd sl lk =>
    split at x
    case h_2=>cases x
    case h_1 C2 bm k0 k1 k2 k3 nid k5 em es =>
      rw [Bool.and_eq_true,Bool.and_eq_true,Bool.and_eq_true,Bool.and_eq_true,Bool.and_eq_true] at x
      obtain ⟨⟨⟨⟨⟨x1,x2⟩,x3⟩,x4⟩,x5⟩,x6⟩:=x
      cases (beq_iff_eq.mp x1)
      cases (beq_iff_eq.mp x2)
      cases cd with
      | mk nm bs mro ns qn hd sn sub ab col del =>
        have e1 : mro = .ref C :: bm:=em
        have e2 : del = false:=by
          cases del with
          | false=>rfl
          | true=>cases x3
        have e3 : sl = #[k0,k1,k2,k3,some (.builtin "ValueError.__new__"),k5]:=by
          cases sl with
          | mk l =>
            have e : l = _:=es
            rw [e]
        rw [e1,e2,e3] at lk
        have hn : h.Ns ns (h.nsMap ns):=.of_isNs (PySem.W.isNs_of_in I x5)
        exact ⟨bm,ns,nm,qn,bs,hd,sn,sub,ab,col,dd,k0,k1,k2,k3,k5,_,I _ _ lk,hn,ns_has I hn (beq_iff_eq.mp x6),PySem.W.tail_of_in I x4⟩
section
variable {prog : Program} {w : World} {A : Around} {E : Value→Shared→Prop} {s : Shared} {C f : Addr}
theorem call_xinit {rest : List Value} {of : Obj} {Q : Value→Shared→Prop} (x : XObjI s.heap C f) (hfo : s.heap.get? f = some of) (hfc : of.cls = .type "function")
    (hq : ∀ h' e,Heap.MadeExcOf s.heap h' e (.ref C) rest→s.heap.objs.size ≤ e →
      wpAny (model prog w) (A.under (.builtin "type.__call__" ⟨.ref C :: rest,[]⟩)) (call (.ref f) (.ref e :: rest)) (fun r s'=>r = .none∧Q (.ref e) s') E { s with heap:=h' }) (hrest : rest.length ≤ sizeLine) :
    wpAny (model prog w) A (call (.ref C) rest) Q E s:=by
  obtain ⟨h,g,d,t,os⟩:=s
  obtain ⟨bm,N,nm,qn,bs,hd,sn,sub,ab,col,dd,k0,k1,k2,k3,k5,mN,hC,hn,hi,T⟩:=x
  have F:=PySem.F.excBase_ValueError
  have f1:=tc_lookup
  have f2:=tc_bind (.ref C)
  have hT : (⟨h,g,d,t,os⟩ : Shared).TypeIs (.ref C) "type" := ⟨_,hC,rfl⟩
  refine wpAny_call (codeAny_of_tree ?_)
  show wpAny _ _ (callAny (.ref C) _) _ _ _
  repeat (any_goals (first | assumption | with_reducible refine wpAny_loadPart_at hC ?_ | wp_step))
  refine ⟨rfl,codeAny_call_builtin_at (Code.quiet_builtin _ (by decide +kernel)) entry_typeCall (wpAny_check_type_call_sub hC ?_)⟩
  repeat (first | with_reducible refine wpAny_loadPart_at hC ?_ | with_reducible refine wpAny_madeBy_exc hC ?_ | wp_step)
  refine codeAny_call_builtin_code (Code.quiet_builtin _ F.quiet) (wpAny_check_new_subT F T hC (codeAny_exc_new_subT F T hC ?_ hrest))
  show wpAny _ _ _ _ _ ⟨(h.push { cls:=.type "tuple",data:=.seq rest.toArray }).push { cls:=.ref C,data:=.fields #[.ref h.objs.size,.none,.none,.none,.bool false,.none] },g,d,t,os⟩
  generalize ht : ({ cls:=.type "tuple",data:=.seq rest.toArray } : Obj) = ot
  generalize he : ({ cls:=.ref C,data:=.fields #[.ref h.objs.size,.none,.none,.none,.bool false,.none] } : Obj) = oe
  have kp : ∀ b o,h.get? b = some o→((h.push ot).push oe).get? b = some o:=fun b o q=>Heap.get?_push_of_some _ (Heap.get?_push_of_some _ q)
  have g1 : ((h.push ot).push oe).get? (h.objs.size + 1) = some oe:=Heap.get?_push_at (by rw [Heap.size_push]) (by rw [← he]; rfl)
  have g0 : ((h.push ot).push oe).get? h.objs.size = some ot:=Heap.get?_push_of_some _ (Heap.get?_push_at rfl (by rw [← ht]; rfl))
  have oc : oe.cls = .ref C:=by rw [← he]
  have cC : (Value.ref C :: bm).contains (.ref C) = true:=by simp
  have hC1:=kp _ _ hC
  have made : Heap.MadeExcOf h ((h.push ot).push oe) (h.objs.size + 1) (.ref C) rest:=by
    subst ht he
    exact ⟨kp,Heap.get?_none_of_le (Nat.le_succ _),h.objs.size,g1,Heap.get?_none_of_le (Nat.le_refl _),g0⟩
  unfold isInstance
  repeat (first | (with_reducible refine wpAny_loadPart_at g1 ?_; rw [oc]) | (with_reducible refine wpAny_isSubtype_exc hC1 ?_; rw [cC]) | wp_step)
  show wpAny _ _ (typeLookup (.ref C) _) _ _ _
  refine wpAny_typeLookup_tail hC1 (hn.keeps kp) (T.keeps kp) F.mroIs F.init.lookup ?_
  rw [hi]
  refine wpAny_holding (wpAny_bind ?_)
  unfold bindSpecial
  refine wpAny_bind (wpAny_typeOf (T := "function") ⟨_,kp _ _ hfo,hfc⟩ ?_)
  rw [if_pos (by decide)]
  refine wpAny_pure (wpAny_bind (wpAny_mono (hq _ _ made (Nat.le_succ _)) (fun r s' hr=>?_) fun _ _ z=>z))
  obtain ⟨rfl,q⟩:=hr
  wp_walk
  exact q
end
end L2

namespace L2
open PySem PySem.Spec PyProof.Rows
def sFldX (K : PySem.W.Frag) (ta tv : TE) (f : Str) : TS:=fun D σ H=>tv σ H fun y H1=>ta σ H1 fun x H2=>∃ a C,x = .ref a∧H2 a = some (.ext (XM a C none))∧XSet K C∧PySem.W.takerIn K C f = some none ∧
  ∀ d,H2 d = none→D.nx σ (upd (upd H2 d (.xd [(f,y)])) a (.ext (XM a C (some d))))
section
variable {X : Cx} {o value : Expr} {f : Str} {pos pos' : Pos} {ta tv : TE}
theorem ps_fldX (ha : PE X o ta) (hv : PE X value tv) (hs : swapsWith value (some (.Attribute o f pos')) pos.line X.env = pure false) : PS X (.Assign [.Attribute o f pos'] value pos) (sFldX X.K ta tv f):=by
  intro pins s σ H D I h
  refine plainObj_wpAny_Assign_Attribute (thn (hv pins s σ H _ I h) fun u s1 ⟨y,H1,I1,ry,q⟩=>thn (ha pins s1 σ H1 _ I1 q) fun ov s2 ⟨x,H2,I2,rx,a,C,ex,ea,c,n,q2⟩=>?_) hs
  subst ex
  obtain rfl : ov = Value.ref a:=rx
  obtain ⟨⟨t,hx⟩,_,_⟩:=(show ObjOk X.prog X.w H2 s2.heap a (.ext (XM a C none)) from I2.hok a _ ea)
  refine xset (cl:=.none) I2.kIn hx c n fun h' hn hx' hk=>⟨σ,_,?_,q2 s2.heap.objs.size (I2.hok.fresh (Nat.le_refl _))⟩
  obtain ⟨od,es,ep,e1,rest⟩:=hn
  have hfr:=(Heap.get?_some_iff.mp e1).2
  have g0 : (s2.heap.push od).get? s2.heap.objs.size = some od:=Heap.get?_push_size s2.heap hfr
  have I3:=I2.laid (a:=s2.heap.objs.size) (o:=.xd [(f,y)]) (h':=s2.heap.push od) (t':=s2.toks + 2) (fun b u' q=>Heap.get?_push_of_some _ q) (Nat.le_refl _) ⟨_,⟨od,es,ep,g0,rest⟩,fun g=>by
    show RelO (([(f,y)] : List (Str × V)).lookup g) (if g = f then some u else none)
    rw [List.lookup_cons]
    by_cases q : g = f
    · rw [if_pos q,beq_iff_eq.mpr q]
      exact ry
    · rw [if_neg q,beq_eq_false_iff_ne.mpr q]
      exact True.intro⟩
  have na : a ≠ s2.heap.objs.size:=Nat.ne_of_lt (Heap.lt_size hx)
  refine I3.write (x:=a) (e:=a) (o:=.ext (XM a C (some s2.heap.objs.size))) (h':=h') (t':=s2.toks + 2) (by rw [upd_ne na,ea]; exact True.intro) (.inl rfl) (fun b u' hb q=>?_) ⟨_,hx'⟩ (xm_ok ⟨t,hx'⟩)
  by_cases hd : b = s2.heap.objs.size
  · subst hd
    have z:=g0.symm.trans q
    cases z
    exact e1
  · refine hk b u' hb ?_
    have q' : (s2.heap.push od).get? b = some u':=q
    rw [Heap.get?_push_ne _ _ _ hd] at q'
    exact q'
end
def sInitX (C : Addr) (f : Str) : Sp:=fun vs H Q _=>∃ a v,vs = [.ref a,v]∧H a = some (.ext (XM a C none))∧∀ d,H d = none→Q .non (upd (upd H d (.xd [(f,v)])) a (.ext (XM a C (some d))))
section
variable {M : Model} {A : Around} {E : Value→Shared→Prop} {s : Shared} {env : Env}
theorem raise_xm {x : Sem Value} {Q : Flow→Shared→Prop} (hh : A.handled = none) (h : wpAny M A x (fun v s1=>∃ e C f dd,v = .ref e∧XObjI s1.heap C f∧XM e C dd s1.heap∧E (.ref e) s1) E s) : wpAny M A (raiseStmt env (some x) none) Q E s:=by
  unfold raiseStmt
  refine wpAny_bind (wpAny_mono h (fun v s1 h1=>?_) fun _ _ z=>z)
  obtain ⟨e,C,f,dd,rfl,⟨bm,N,nm,qn,bs,hd,sn,sub,ab,col,dd',k0,k1,k2,k3,k5,mN,hC,hn,hi,T⟩,⟨t,he⟩,hE⟩:=h1
  have cB : (Value.ref C :: bm).contains (.type "BaseException") = true:=by rw [List.contains_cons,T.hasType (b:=true) rfl,Bool.or_true]
  obtain ⟨hp,g,d,tk,os⟩:=s1
  repeat (first | with_reducible refine wpAny_loadPart_at he ?_ | with_reducible refine wpAny_loadPart_at hC ?_ | (with_reducible refine wpAny_isSubtype_exc hC ?_; rw [cB]) | wp_step)
  exact wpAny_raiseNew_none hh hE
end
end L2

namespace L2
open PySem PySem.Spec PyProof.Rows
def sans (H : Hp) (a : Addr) : Hp:=fun b=>if b = a then none else H b
theorem sans_ne {H : Hp} {a b : Addr} (h : b ≠ a) : sans H a b = H b:=if_neg h
theorem sans_some {H : Hp} {a b : Addr} {o : HO} (h : sans H a b = some o) : b ≠ a∧H b = some o:=by
  unfold sans at h
  split at h
  · cases h
  · rename_i n
    exact ⟨n,h⟩
section
variable {P : Program} {w : World} {K : PySem.W.Frag} {mg : Str→Option Value} {base : Heap} {N : List Str} {qual : Str} {scope : Scope} {f : Addr} {cd : Value} {A : Around} {outer : List Env} {s0 : Shared} {H0 : Hp} {E : XK}
theorem leaveF {pins : List (Addr × Obj)} {σ : St} {H : Hp} {s : Shared} {a C d : Addr} (I : Inv (cxOf (CX1 P w) P w K mg base N qual scope f cd A outer s0 H0 E) pins σ H s) (ha : H a = some (.ext (XM a C (some d)))) (young : s0.heap.get? a = none)
    (q : E (.ref C) (some d) (sans H a)) : (cxOf (CX1 P w) P w K mg base N qual scope f cd A outer s0 H0 E).xe (.ref a) s:=by
  obtain ⟨⟨t,hx⟩,_,_⟩:=(show ObjOk P w H s.heap a (.ext (XM a C (some d))) from I.hok a _ ha)
  have hfr:=I.ok.frames
  have sf : ∀ b,b ∈ frs (envOfC qual scope s0.heap.objs.size f cd :: outer)→H b = none:=fun b hb=>I.stkFree b hb
  have nb : ∀ b,b ∈ frs (envOfC qual scope s0.heap.objs.size f cd :: outer)→b ≠ a:=fun b hb e=>by
    have:=sf b hb
    rw [e,ha] at this
    cases this
  generalize hB : PySem.W.hideAll s.heap (a :: frs (envOfC qual scope s0.heap.objs.size f cd :: outer)) = B
  have Bs : B.StaysIn s.heap:=fun b o e=>by rw [← hB] at e; exact PySem.W.of_hideAll _ e
  have Bn : B.get? a = none:=by rw [← hB]; exact PySem.W.hideAll_none _ (List.mem_cons_self ..)
  have Bg : ∀ b o,s.heap.get? b = some o→b ≠ a→b ∉ frs (envOfC qual scope s0.heap.objs.size f cd :: outer)→B.get? b = some o:=fun b o e n1 n2=>by
    rw [← hB]
    exact PySem.W.hideAll_get _ e fun z=>(List.mem_cons.mp z).elim n1 n2
  have Bf : s.heap.FunFrames B (envOfC qual scope s0.heap.objs.size f cd :: outer):=by
    rw [← hB]
    exact PySem.W.funFrames_hide I.stack fun env he b hb=>List.mem_cons_of_mem _ (List.mem_filterMap.mpr ⟨env,he,hb⟩)
  have ns : ∀ b o,s0.heap.get? b = some o→b ∉ frs outer→b ∉ frs (envOfC qual scope s0.heap.objs.size f cd :: outer):=fun b o e hb z=>by
    rcases List.mem_cons.mp (I.stkSub b z) with e' | e'
    · exact absurd (Nat.lt_of_lt_of_le (Heap.lt_size e) I.ok.above) (by rw [e']; exact Nat.lt_irrefl _)
    · exact hb e'
  have na : ∀ b o,s0.heap.get? b = some o→b ≠ a:=fun b o e z=>by rw [z,young] at e; cases e
  refine firstK (M:=model P w) (A:=A.deeper (envOfC qual scope s0.heap.objs.size f cd)) (s:=s) (outer:=outer) (L:=s0.heap.objs.size) (base:=B) (a0:=.ref t) hfr Bf rfl hx Bs Bn rfl rfl rfl fun h2 F2 up kd=>?_
  refine ⟨a,.ref C,.ref t,sans H a,B,rfl,?_,F2,some d,fun D e=>?_,q⟩
  · refine ⟨I.os,I.bare,⟨fun b o e n hb _=>?_,fun b o e n hb _=>?_,fun b o e n _=>?_,fun b o e _=>?_,fun b xs e=>?_,fun b o u e=>?_,fun b ps e=>?_⟩,?_,fun b o e n hb=>?_,fun b o hb e=>?_,fun b o e hb=>?_⟩
    · exact F2.1 b o (Bg b o (I.base.keep b o e n hb (by simp [cxOf])) (na b o e) (ns b o e hb))
    · have hs : b ∈ frs (envOfC qual scope s0.heap.objs.size f cd :: outer):=by
        obtain ⟨env,he,hf⟩:=List.mem_filterMap.mp hb
        exact List.mem_filterMap.mpr ⟨env,List.mem_cons_of_mem _ he,hf⟩
      obtain ⟨z,e1⟩:=I.base.any e n (by simp [cxOf])
      obtain ⟨_,o',ho',hd⟩:=I.stack.mem hs
      have eo:=e1.symm.trans ho'
      cases eo
      obtain ⟨z2,e2⟩:=up b _ e1 (fun vs z=>hd vs z)
      exact ⟨z2,e2⟩
    · have:=I.base.free b o e n (by simp [cxOf])
      rw [sans_ne (na b o e)]
      exact this
    · obtain ⟨o',e1⟩:=I.base.there b o e (by simp [cxOf])
      by_cases hb : b ∈ frs (envOfC qual scope s0.heap.objs.size f cd :: outer)
      · obtain ⟨_,o2,ho2,hd⟩:=I.stack.mem hb
        obtain ⟨z2,e2⟩:=up b _ ho2 (fun vs z=>hd vs z)
        exact ⟨_,e2⟩
      · exact ⟨o',F2.1 b o' (Bg b o' e1 (na b o e) hb)⟩
    · have:=I.base.tups b xs e
      rw [sans_ne (fun z=>by rw [z,ha] at this; cases this)]
      exact this
    · have:=I.base.frzs b o u e
      rw [sans_ne (fun z=>by rw [z,ha] at this; cases this)]
      exact this
    · obtain ⟨more,this⟩:=I.base.tbls b ps e
      exact ⟨more,by rw [sans_ne (fun z=>by rw [z,ha] at this; cases this)]; exact this⟩
    · intro b u e
      obtain ⟨n,e⟩:=sans_some e
      refine (I.hok b u e).stay (fun c v hc z=>?_) (fun c z=>?_) fun c xs z=>?_
      · have tr : H c ≠ none:=by
          rcases hc with rfl | hc
          · rw [e]; intro z; cases z
          · rw [hc]; intro z; cases z
        have nc : c ≠ a:=by
          rcases hc with rfl | hc
          · exact n
          · intro z; rw [z,ha] at hc; cases hc
        exact F2.1 c v (Bg c v z nc fun y=>tr (sf c y))
      · rw [sans_ne (fun y=>by rw [y,ha] at z; cases z)]
        exact z
      · rw [sans_ne (fun y=>by rw [y,ha] at z; cases z)]
        exact z
    · exact Bg b o (I.base.keep b o e n hb (by simp [cxOf])) (na b o e) (ns b o e hb)
    · cases hq : sans H a b with
      | none=>exact absurd hq hb
      | some u =>
        obtain ⟨n,e'⟩:=sans_some hq
        obtain ⟨v,hv⟩:=I.hok.thr e'
        have z:=Bg b v hv n fun y=>by have:=sf b y; rw [e'] at this; cases this
        have z2:=F2.1 b v z
        have e2 : h2.get? b = some o:=e
        rw [z2] at e2
        cases e2
        exact z
    · obtain ⟨o',e1⟩:=I.base.there b o e (by simp [cxOf])
      exact ⟨o',Bg b o' e1 (na b o e) (ns b o e hb)⟩
  · cases e
    exact kd _ _ ⟨_,hx,rfl⟩
end
end L2

namespace L2
open PySem PySem.Spec PyProof.Rows
theorem any_lookup {K : PySem.W.Frag} {g : Addr} (h : (K.lookup g).any (fun o=>o.cls == .type "function") = true) : ∃ o,K.lookup g = some o∧o.cls = .type "function" := by
  cases e : K.lookup g with
  | none=>rw [e] at h; cases h
  | some o =>
    rw [e] at h
    exact ⟨o,rfl,beq_iff_eq.mp h⟩
theorem sans_upd {H : Hp} {a d : Addr} {o1 o2 o3 : HO} (h : H a = none) (n : d ≠ a) : sans (upd (upd (upd H a o1) d o2) a o3) a = upd H d o2:=by
  funext b
  unfold sans upd
  by_cases e : b = a
  · subst e
    simp [h,Ne.symm n]
  · simp [e]
section
variable {P : Program} {w : World} {K : PySem.W.Frag} {mg : Str→Option Value} {base : Heap} {N : List Str} {qual : Str} {scope : Scope} {f : Addr} {cd : Value} {A : Around} {outer : List Env} {s0 : Shared} {H0 : Hp} {E : XK}
  {x fld : Str} {C g : Addr} {e : Expr} {es : List Expr} {t : TA} {np cpos pos : Pos} {k : Nat} {fd : FuncData} {ps : List Str}
def tRzF (C : Addr) (fld : Str) (E : XK) (t : TA) : TS:=fun _ σ H=>t σ H fun vs H1=>∃ v,vs = [v]∧∀ d,H1 d = none→E (.ref C) (some d) (upd H1 d (.xd [(fld,v)]))
structure XInit (P : Program) (w : World) (K : PySem.W.Frag) (mg : Str→Option Value) (base : Heap) (x : Str) (C g : Addr) (fd : FuncData) (ps : List Str) (k : Nat) (fld : Str) : Prop where
  ok : FnOk P w K mg base CX0 k g fd ps (sInitX C fld)
  c : xclsI K C g = true
  fn : (K.lookup g).any (fun o=>o.cls == .type "function") = true
  kp : PySem.W.keepIn K (.ref C) = true
  gl : mg x = some (.ref C)
  b : Binds K fd ps []
theorem ps_raiseF (c : XInit P w K mg base x C g fd ps k fld) (hc : (A.deeper (envOfC qual scope s0.heap.objs.size f cd)).handled = none) (hr : Room (k + 1) (cxOf (CX1 P w) P w K mg base N qual scope f cd A outer s0 H0 E).A) (ha : PA (cxOf (CX1 P w) P w K mg base N qual scope f cd A outer s0 H0 E) (e :: es) t)
    (hg : Gl (cxOf (CX1 P w) P w K mg base N qual scope f cd A outer s0 H0 E) x:=by rfl)
    (he : starEach (e :: es) (cxOf (CX1 P w) P w K mg base N qual scope f cd A outer s0 H0 E).env = (false,eval e (cxOf (CX1 P w) P w K mg base N qual scope f cd A outer s0 H0 E).env) :: starEach es (cxOf (CX1 P w) P w K mg base N qual scope f cd A outer s0 H0 E).env:=by rfl)
    (hpl : (backTo cpos (starEach es (cxOf (CX1 P w) P w K mg base N qual scope f cd A outer s0 H0 E).env)).any (·.1) = false:=by rfl) (hdb : (x == ("__debug__" : Str)) = false:=by decide) :
    PS (cxOf (CX1 P w) P w K mg base N qual scope f cd A outer s0 H0 E) (.Raise (some (.Call (.Name x np) (e :: es) [] cpos)) none pos) (tRzF C fld E t):=by
  intro pins s σ H D I h
  rw [arm_exec_Raise]
  refine wpAny_bind (wpAny_standAt (raise_xm hc ?_))
  refine wpAny_bind (wpAny_mono (wpAny_Call_Name_kw (ld_glob I hg c.gl ?_ hdb)) (fun v s3 h3=>wpAny_bind (wpAny_standAt (wpAny_pure h3))) fun _ _ z=>z)
  refine PySem.W.callWith_K (h₀:=base) I.ok.mod.kin c.kp (wpAny_mono (ha cpos pins s σ H _ I h) (fun us s1 hq=>?_) (fun _ _ z=>z)) he hpl
  obtain ⟨vs,H1,I1,r,v,rfl,q⟩:=hq
  refine ⟨I1.kIn,?_⟩
  have kp1:=I1.bk
  obtain ⟨of,lk,hof⟩:=any_lookup c.fn
  have r2 : ∀ e',Vals (V.ref e' :: [v]) (Value.ref e' :: us):=fun e'=>.cons rfl r
  have hu : us.length = 1:=r.length.symm
  refine call_xinit (xclsI_obj c.c I1.kIn) (I1.kIn _ _ lk) hof (fun h' e' hx le=>?_) (by rw [List.nil_append,hu]; decide)
  obtain ⟨tt,het,_,_⟩:=hx.there
  have He : H1 e' = none:=I1.hok.fresh le
  have I2:=I1.laid (a:=e') (o:=.ext (XM e' C none)) (t':=s1.toks) hx.keeps le (xm_ok ⟨tt,het⟩)
  have hsp : sInitX C fld [.ref e',v] (upd H1 e' (.ext (XM e' C none))) (fun v2 H2=>v2 = .non∧∃ d,H1 d = none∧d ≠ e'∧H2 = upd (upd (upd H1 e' (.ext (XM e' C none))) d (.xd [(fld,v)])) e' (.ext (XM e' C (some d)))) E0:=by
    refine ⟨e',v,rfl,upd_same,fun d hd=>⟨rfl,d,?_,?_,rfl⟩⟩
    · have n : d ≠ e':=fun z=>by rw [z,upd_same] at hd; cases hd
      rw [upd_ne n] at hd
      exact hd
    · intro z
      rw [z,upd_same] at hd
      cases hd
  have hl : (Value.ref e' :: us).length = ps.length:=by
    have e1:=(r2 e').length
    rw [c.ok.len _ _ _ _ hsp] at e1
    exact e1.symm
  refine wpAny_call (codeAny_mono (c.ok.run _ _ _ _ ⟨Value.ref e' :: us,[]⟩ (Value.ref e' :: us) _ _ E0 (hr.make C us []) (I2.env0.make C us []) (by have:=c.b _ (Value.ref e' :: us) I2.kIn (by rw [List.append_nil]; exact hl); rw [List.append_nil] at this; exact this) (r2 e') hsp) fun rr s' hq'=>?_)
  cases rr with
  | error e=>exact False.elim hq'
  | ok fl =>
    cases fl with
    | ret u =>
      obtain ⟨v2,H3,I3,rv,ev,d,hd,dn,e3⟩:=I2.after hq'
      subst ev
      have h3 : H3 e' = some (.ext (XM e' C (some d))):=by rw [e3]; exact upd_same
      refine ⟨rv,e',C,g,some d,rfl,xclsI_obj c.c I3.kIn,?_,leaveF I3 h3 ?_ ?_⟩
      · obtain ⟨p,_,_⟩:=(show ObjOk P w H3 s'.heap e' (.ext (XM e' C (some d))) from I3.hok e' _ h3)
        exact p
      · exact Heap.get?_none_of_le (Nat.le_trans I1.sz le)
      · rw [e3,sans_upd He dn]
        exact q d hd
    | next=>exact False.elim hq'
    | brk=>exact False.elim hq'
    | cont=>exact False.elim hq'
end
end L2

namespace L2
open PySem PySem.Spec PyProof.Rows
def XAny (K : PySem.W.Frag) (C : Addr) : Prop:=XCls K C∨∃ g,xclsI K C g = true
def XObA (h : Heap) (C : Addr) : Prop:=∃ bm N nm qn bs hd sn sub ab col dd k0 k1 k2 k3 k5,h.get? C = some (excClassObj nm qn C N bs bm hd sn sub ab col dd k0 k1 k2 k3 k5 "ValueError.__new__")∧OwnTail h bmVal bm
theorem XAny.obj {K : PySem.W.Frag} {C : Addr} (x : XAny K C) {h : Heap} (I : K.In h) : XObA h C:=by
  rcases x with x | ⟨g,x⟩
  · obtain ⟨bm,N,nm,qn,bs,hd,sn,sub,ab,col,dd,k0,k1,k2,k3,k5,mN,h1,h2,h3,h4⟩:=x.obj I
    exact ⟨bm,N,nm,qn,bs,hd,sn,sub,ab,col,dd,k0,k1,k2,k3,k5,h1,h4⟩
  · obtain ⟨bm,N,nm,qn,bs,hd,sn,sub,ab,col,dd,k0,k1,k2,k3,k5,mN,h1,h2,h3,h4⟩:=xclsI_obj x I
    exact ⟨bm,N,nm,qn,bs,hd,sn,sub,ab,col,dd,k0,k1,k2,k3,k5,h1,h4⟩
def xsub (K : PySem.W.Frag) (C C1 : Addr) : Option Bool:=match K.lookup C with
  | some ⟨_,_,.cls cd,_⟩=>some (cd.mro.contains (.ref C1))
  | _=>none
theorem xmatch {M : Model} {A : Around} {E : Value→Shared→Prop} {s : Shared} {K : PySem.W.Frag} {C C1 a : Addr} {b : Bool} {Q : Bool→Shared→Prop} (X : K.In s.heap) (c : XAny K C) (c1 : XAny K C1) (hs : xsub K C C1 = some b) (ho : ObC a C s.heap) (hq : Q b s) :
    wpAny M A (excMatches (.ref a) (.ref C1)) Q E s:=by
  obtain ⟨bm,N,nm,qn,bs,hd,sn,sub,ab,col,dd,k0,k1,k2,k3,k5,hC,T⟩:=c.obj X
  obtain ⟨bm1,N1,nm1,qn1,bs1,hd1,sn1,sub1,ab1,col1,dd1,j0,j1,j2,j3,j5,hC1,T1⟩:=c1.obj X
  have hc : (Value.ref C :: bm).contains (.ref C1) = b:=by
    unfold xsub at hs
    split at hs
    · rename_i lk
      have z:=hC.symm.trans (X _ _ lk)
      cases z
      exact Option.some.inj hs
    · cases hs
  have cB : (Value.ref C1 :: bm1).contains (.type "BaseException") = true:=by rw [List.contains_cons,T1.hasType (b:=true) rfl,Bool.or_true]
  obtain ⟨o,he,ec⟩:=ho
  obtain ⟨h,g,d,t,os⟩:=s
  have f:=tc_notTuple
  unfold excMatches
  repeat (first | (with_reducible refine wpAny_loadPart_at he ?_; rw [ec]) | with_reducible refine wpAny_loadPart_at hC1 ?_ | (with_reducible refine wpAny_isSubtype_exc hC1 ?_; rw [cB]) | (with_reducible refine wpAny_isSubtype_exc hC ?_; rw [hc]) | wp_step)
  cases b <;> (repeat wp_step) <;> exact hq
section
variable {X : Cx} {pins : List (Addr × Obj)} {σ : St} {H : Hp} {s : Shared}
theorem Inv.addE {a : Addr} {φ : Heap→Prop} (I : Inv X pins σ H s) (h0 : ∀ b o,X.s₀.heap.get? b = some o→b ∉ X.ex→b ≠ a) (hn : H a = none) (hl : X.env.locals ≠ a) (hc : ∀ x c,X.env.cells.lookup x = some c→c ≠ a) (hp : ∀ p ∈ X.pn ++ pins,p.1 ≠ a)
    (ob : ObjOk X.prog X.w (upd H a (.ext φ)) s.heap a (.ext φ)) : Inv X pins σ (upd H a (.ext φ)) s:=by
  have ne : ∀ {b : Addr} {u : HO},H b = some u→b ≠ a:=fun e=>ne_of_none e hn
  refine ⟨I.ok,I.os,I.bare,⟨I.base.keep,I.base.slot,fun b o q n hx=>?_,I.base.there,fun b xs q=>?_,fun b o u q=>?_,fun b ps q=>?_⟩,I.loc,I.cell,?_,fun x c e=>?_,fun p hq=>?_,fun b u e=>?_,I.len⟩
  · rw [upd_ne (h0 b o q hx)]
    exact I.base.free b o q n hx
  · have:=I.base.tups b xs q
    rw [upd_ne (ne this)]
    exact this
  · have:=I.base.frzs b o u q
    rw [upd_ne (ne this)]
    exact this
  · obtain ⟨more,this⟩:=I.base.tbls b ps q
    exact ⟨more,by rw [upd_ne (ne this)]; exact this⟩
  · rw [upd_ne hl]
    exact I.free
  · rw [upd_ne (hc x c e)]
    exact I.freeC x c e
  · obtain ⟨e,n,n1,n2,d⟩:=I.pin p hq
    exact ⟨e,by rw [upd_ne (hp p hq)]; exact n,n1,n2,d⟩
  · by_cases hb : b = a
    · subst hb
      rw [upd_same] at e
      cases e
      exact ob
    · rw [upd_ne hb] at e
      exact (I.hok b u e).stay (fun c v _ q=>q) (fun c q=>by rw [upd_ne (ne_of_none q hn)]; exact q) fun c xs q=>by rw [upd_ne (ne_of_none q hn)]; exact q
end
def ObX (a C : Addr) : Option Addr→Heap→Prop
  | none=>ObC a C
  | some D=>fun h=>∃ o,h.get? a = some o∧o.cls = .ref C∧o.dict = some D∧PySem.W.notCls o = true
theorem obx_ok {P : Program} {w : World} {H : Hp} {h : Heap} {a C : Addr} {dd : Option Addr} (o : ∃ ob,h.get? a = some ob∧ob.cls = .ref C∧PySem.W.notCls ob = true) (d : ∀ D,dd = some D→DictAt a D h) : ObjOk P w H h a (.ext (ObX a C dd)):=by
  obtain ⟨ob,e,c,nc⟩:=o
  cases dd with
  | none=>exact ⟨⟨ob,e,c⟩,⟨ob,e⟩,fun h1 h2 ⟨o,e,c⟩ k=>⟨o,k o e,c⟩⟩
  | some D =>
    obtain ⟨o',e',d'⟩:=d D rfl
    rw [e] at e'
    cases e'
    exact ⟨⟨ob,e,c,d',nc⟩,⟨ob,e⟩,fun h1 h2 ⟨o,e,c,d,n⟩ k=>⟨o,k o e,c,d,n⟩⟩
structure Fl (X : Cx) (pins : List (Addr × Obj)) (σ : St) (H : Hp) (s : Shared) (h : Heap) (a C : Addr) (dd : Option Addr) : Prop where
  ex : ∃ H1 s1 B a0,Inv X pins σ H1 s1∧Lies X.prog X.w X.stack H1 s1 H s B∧s.heap.UpToSlots h∧Heap.FlyingW B X.stack a (.ref C) a0 h∧s1.heap.get? a = none
  ha : H a = none
  dk : ∀ D,dd = some D→DictAt a D h
section
variable {X : Cx} {pins : List (Addr × Obj)} {σ : St} {H : Hp} {s : Shared} {h : Heap} {a C : Addr} {dd : Option Addr}
theorem Fl.inv (F : Fl X pins σ H s h a C dd) : Inv X pins σ H { s with heap:=h }:=by
  obtain ⟨H1,s1,B,a0,I,L,up,W,_⟩:=F.ex
  exact Lies.inv (t2:=s.toks) I L W.1 up
theorem Fl.ob (F : Fl X pins σ H s h a C dd) : ObC a C h:=by
  obtain ⟨H1,s1,B,a0,I,L,up,W,_⟩:=F.ex
  exact W.there
theorem Fl.ob2 (F : Fl X pins σ H s h a C dd) : ∃ ob,h.get? a = some ob∧ob.cls = .ref C∧PySem.W.notCls ob = true:=by
  obtain ⟨H1,s1,B,a0,I,L,up,W,_⟩:=F.ex
  obtain ⟨oe,vs,he,hc,hd,_⟩:=W.first
  exact ⟨oe,he,hc,by unfold PySem.W.notCls; rw [hd]⟩
theorem Fl.look (F : Fl X pins σ H s h a C dd) : Inv X pins σ (upd H a (.ext (ObX a C dd))) { s with heap:=h }:=by
  have J:=F.inv
  obtain ⟨H1,s1,B,a0,I,L,up,W,young⟩:=F.ex
  refine J.addE (fun b o e hx z=>?_) F.ha (fun z=>?_) (fun y k e z=>?_) (fun p hp z=>?_) (obx_ok F.ob2 F.dk)
  · obtain ⟨o',e'⟩:=I.base.there b o e hx
    rw [z,young] at e'
    cases e'
  · obtain ⟨m,⟨o,_,_,e,_⟩,_⟩:=I.loc
    rw [z,young] at e
    cases e
  · obtain ⟨w',o,e',_⟩:=I.cell y k e
    rw [z,young] at e'
    cases e'
  · have:=(I.pin p hp).1
    rw [z,young] at this
    cases this
theorem Fl.lands {M : Model} {A : Around} {E : Value→Shared→Prop} {Q : Unit→Shared→Prop} (F : Fl X pins σ H s h a C dd) (hQ : ∀ h',Fl X pins σ H s h' a C dd→Q () { s with heap:=h' }) : wpAny M A (setFlight (.ref a) none) Q E { s with heap:=h }:=by
  obtain ⟨H1,s1,B,a0,I,L,up,W,young⟩:=F.ex
  exact landsK2 (s:={ s with heap:=h }) W fun h' W' up' kd=>hQ h' ⟨⟨H1,s1,B,a0,I,L,up.trans up',W',young⟩,F.ha,fun D e=>kd _ _ (F.dk D e)⟩
end
def PH (X : Cx) (hs : List ExceptHandler) (th : Addr→Option Addr→TS) : Prop:=∀ (pins : List (Addr × Obj)) (σ : St) (H : Hp) (D : Ends) (s : Shared) (h : Heap) (a C : Addr) (dd : Option Addr),Fl X pins σ H s h a C dd→th C dd D σ H →
  wpAny (model X.prog X.w) X.A (handleBy (.ref a) X.env hs) (SP X pins D) X.xe { s with heap:=h }
abbrev thNo : Addr→Option Addr→TS:=fun _ _ _ _ _=>False
def thAs (K : PySem.W.Frag) (C1 : Addr) (i : Nat) (th : TS) (tr : Addr→Option Addr→TS) : Addr→Option Addr→TS:=fun C dd D σ H =>
  (C = C1∧∀ a,H a = none→th (D.sans i) (σ.set i (some (.ref a))) (upd H a (.ext (ObX a C dd))))∨(xsub K C C1 = some false∧XAny K C∧tr C dd D σ H)
section
variable {X : Cx} {suite : List Stmt} {b0 : Stmt} {i : Nat} {x n : Str} {C1 : Addr} {np hpos : Pos} {th : TS} {tr : Addr→Option Addr→TS} {rest : List ExceptHandler}
theorem ph_no : PH X [] thNo:=fun _ _ _ _ _ _ _ _ _ _ h=>h.elim
theorem ph_as (hN : X.N.Nodup) (hi : X.N[i]? = some n) (hk : X.env.scope.names.lookup n = some .local) (c : XAny X.K C1) (hm : X.mg x = some (.ref C1)) (hh : ∀ a,PSs (X.inH a) (b0 :: suite) th) (hr : PH X rest tr)
    (hg : Gl X x:=by rfl) (hdb : (x == ("__debug__" : Str)) = false:=by decide) : PH X (.ExceptHandler (some (.Name x np)) (some n) (b0 :: suite) hpos :: rest) (thAs X.K C1 i th tr):=by
  intro pins σ H D s h a C dd F q
  have I5:=F.inv
  have J5:=I5.inH a
  refine wpAny_handleBy_cons (codeAny_handlers_test (ld_glob J5 hg hm ?_ hdb)) (by intro q; cases q)
  rcases q with ⟨rfl,hts⟩ | ⟨hs,cC,q⟩
  · obtain ⟨bm,Nn,nm,qn,bs,hd,sn,sub,ab,col,dd',k0,k1,k2,k3,k5,h1,h4⟩:=c.obj I5.kIn
    obtain ⟨ob,hob,hobc⟩:=F.ob
    obtain ⟨sh,sg,sd,stk,sos⟩:=s
    refine wpAny_excMatches_sub_self h1 hob hobc (h4.hasType rfl) ?_
    refine codeAny_handlers_suite_as (F.lands fun h6 F6=>?_)
    have I7:=F6.look
    refine store_ok (v:=.ref a) I7 hN hi (.inl hk) rfl (fun s8 I8=>?_) (.inr hk)
    refine wpAny_mono (hh a pins _ _ _ (D.sans i) (I8.inH a) (hts a F.ha)) (fun fl s9 q=>?_) (fun _ _ z=>False.elim z)
    have q:=SP.unH (X:=X) I5.ok q
    cases fl with
    | next =>
      obtain ⟨σ',H9,I9,q⟩:=q
      exact goes_ok I9 hN hi hk fun s' I'=>⟨_,_,I',q⟩
    | brk =>
      obtain ⟨σ',H9,I9,q⟩:=q
      exact goes_ok I9 hN hi hk fun s' I'=>⟨_,_,I',q⟩
    | cont =>
      obtain ⟨σ',H9,I9,q⟩:=q
      exact goes_ok I9 hN hi hk fun s' I'=>⟨_,_,I',q⟩
    | ret u =>
      obtain ⟨v,σ',H9,I9,r,q⟩:=q
      exact goes_ok I9 hN hi hk fun s' I'=>⟨v,_,_,I',r,q⟩
  · exact xmatch I5.kIn cC c hs F.ob (hr pins σ H D s h a C dd F q)
end
def tTryH (tb : XK→TS) (th : Addr→Option Addr→TS) : TS:=fun D σ H=>tb (fun cls dd H'=>∃ C,cls = .ref C∧th C dd D σ H') D σ H
theorem ps_tryH {X : Cx} {body : List Stmt} {h0 : ExceptHandler} {hs : List ExceptHandler} {pos : Pos} {tb : XK→TS} {th : Addr→Option Addr→TS} (hst : X.stack = X.env :: X.outer) (hfr : X.env.frame = some X.env.locals) (hb : PX X body tb) (hh : PH X (h0 :: hs) th) :
    PS X (.Try body (h0 :: hs) [] [] pos) (tTryH tb th):=by
  intro pins s σ H D I h
  refine wpAny_Try_except (wpAny_mono (hb pins s σ H D _ I h) (fun fl s1 q=>?_) (fun e s1 hx=>?_))
  · cases fl with
    | next=>exact wpAny_execs_nil q
    | ret v=>exact q
    | brk=>exact q
    | cont=>exact q
  · obtain ⟨H1,s2,I1,a,cls,a0,H',B,rfl,L,F,dd,hdd,C,rfl,hts⟩:=hx
    obtain ⟨sh,sg,sd,stk,sos⟩:=s1
    -- the exception is younger than the call
    have young : s2.heap.get? a = none:=by
      cases e : s2.heap.get? a with
      | none=>rfl
      | some o =>
        obtain ⟨_,f2,f3,oe,vs,_,_,_,he,_,hd,_⟩:=id F
        by_cases hf : a ∈ frs X.stack
        · obtain ⟨_,o',ho',hnf⟩:=f3.mem hf
          have z:=ho'.symm.trans he
          cases z
          exact absurd hd (hnf vs)
        · obtain ⟨o',e'⟩:=L.c3 a o e hf
          rw [f2] at e'
          cases e'
    have Ha : H' a = none:=by
      cases e : H' a with
      | none=>rfl
      | some o =>
        obtain ⟨u,hu⟩:=L.hok.thr e
        have:=L.c2 a u (by rw [e]; intro z; cases z) hu
        rw [F.2.1] at this
        cases this
    have F':=F
    rw [hst] at F'
    refine looksK (s:=⟨sh,sg,sd,stk,sos⟩) (outer:=X.outer) (L:=X.env.locals) (by rw [I.ok.frames,hst]) hfr F' fun h4 Hd4 up4 kd4=>landsK (s:=⟨h4,sg,sd,stk,sos⟩) Hd4 fun h5 F5 up5 kd5=>?_
    refine hh pins σ H' D ⟨sh,sg,sd,stk,sos⟩ h5 a C dd ⟨⟨H1,s2,B,a0,I1,L,up4.trans up5,?_,young⟩,Ha,fun D e=>kd5 _ _ (kd4 _ _ (hdd D e))⟩ hts
    rw [hst]
    exact F5
section
variable {X : Cx} {f : Str}
structure XGet (K : PySem.W.Frag) (C : Addr) (f : Str) : Prop where
  ga : PySem.W.findIn K (.ref C) "__getattribute__" = some (some (.builtin "BaseException.__getattribute__"))
  gt : PySem.W.findIn K (.ref C) "__getattr__" = some none
  hb : PySem.W.mroIn K C (.type "BaseException") = some true
  hd : PySem.W.hasDictIn K C = true
  na : PySem.W.findIn K (.ref C) f = some none
end
end L2

namespace L2
open PySem PySem.W PySem.Spec PySem.Calls PyProof.Rows PySem.Builtin PySem.Builtin.ObjectAttr PySem.Builtin.Getset_descriptor
section
variable {prog : Program} {w : World} {A : Around} {E : Value→Shared→Prop} {K : Frag} {x C : Addr} {s : Shared} {ox od : Obj} {f : Str} {v : Value}
theorem fld_entry {tk : Tok} {Q : Fin→Shared→Prop} (X : K.In s.heap) (I : InstAt s.heap x ox C (some od)) (c : XGet K C f) (hl : lookIn f od = some (some v)) (k : Q (.done (.ret v)) s) :
    wpAny (model prog w) A (Builtin.«object.__getattribute__» ⟨[.ref x,.str f tk],[]⟩) Q E s:=by
  have T0:=I.type (M:=model prog w)
  have T1:=looks_find (M:=model prog w) X I (findObj_own c.hd c.na rfl hl)
  obtain ⟨hh,gg,dr,tt,ss⟩:=s
  unfold Builtin.«object.__getattribute__»
  repeat lk
  exact k
theorem fld_by {tk : Tok} {fill expr : Bool} {Q : Value→Shared→Prop} (X : K.In s.heap) (I : InstAt s.heap x ox C (some od)) (c : XGet K C f) (hl : lookIn f od = some (some v)) (hv : handedIn v = true) (k : Q v s) :
    wpAny (model prog w) A (getAttrBy (.ref x) (.str f tk) fill expr) Q E s:=by
  have T0:=I.type (M:=model prog w)
  have T1:=looks_findIn (M:=model prog w) X c.ga
  have T2:=looks_findIn (M:=model prog w) X c.gt
  have f3:=F.attr_ValueError.ga.bind (.ref x)
  have ob : ObC x C s.heap:=⟨ox,I.at_,I.cls⟩
  obtain ⟨hh,gg,dr,tt,ss⟩:=s
  unfold getAttrBy
  refine wpAny_holding (wpAny_bind (T0.at (wpAny_bind (T1.at ?_))))
  show wpAny _ _ (if (onTheHeap (Value.ref C) && Value.builtin "BaseException.__getattribute__" == Value.builtin "object.__getattribute__") = true then _ else _) _ _ _
  have z : (Value.builtin "BaseException.__getattribute__" == Value.builtin "object.__getattribute__") = false:=by decide +kernel
  rw [z,Bool.and_false,if_neg Bool.false_ne_true]
  unfold getAttrByItsOwn
  refine wpAny_bind (T2.at ?_)
  refine wpAny_bind (wpAny_attempt (wpAny_holding ?_))
  have hx0 : (expr && onTheHeap (Value.builtin "BaseException.__getattribute__")) = false:=by cases expr <;> rfl
  unfold callGetattribute
  rw [hx0]
  show wpAny _ _ (boundAndCalled _ _ _) _ _ _
  unfold boundAndCalled
  rw [f3]
  refine wpAny_bind (wpAny_pure (wpAny_call ?_))
  refine codeAny_call_builtin F.attr_ValueError.ga.plain F.entry_bexc_ga ?_
  refine ga_check X ob c.hb (fld_entry X I c hl ?_)
  show wpAny _ _ (handedOut v) _ _ _
  rw [handedOut_of hv]
  exact wpAny_pure k
theorem fld_get {expr : Bool} {Q : Value→Shared→Prop} (X : K.In s.heap) (I : InstAt s.heap x ox C (some od)) (c : XGet K C f) (hl : lookIn f od = some (some v)) (hv : handedIn v = true) (k : Q v { s with toks:=s.toks + 1 }) :
    wpAny (model prog w) A (getAttr (.ref x) f expr) Q E s:=by
  unfold getAttr
  exact wpAny_bind (wpAny_mkText (fld_by (s:={ s with toks:=s.toks + 1 }) X I c hl hv k))
end
def tFldX (K : Frag) (ta : TE) (f : Str) : TE:=fun σ H Q=>ta σ H fun x H1=>∃ a C d fs v,x = .ref a∧H1 a = some (.ext (ObX a C (some d)))∧H1 d = some (.xd fs)∧XGet K C f∧fs.lookup f = some v∧Q v H1
theorem pe_fldX {X : Cx} {e : Expr} {f : Str} {pos : Pos} {ta : TE} (he : PE X e ta) (hb : attributeBase e f X.env (eval e X.env) = eval e X.env) : PE X (.Attribute e f pos) (tFldX X.K ta f):=by
  intro pins s σ H Q I h
  refine attr_of hb (thn (he pins s σ H _ I h) fun u s1 ⟨x,H1,I1,rx,a,C,d,fs,v,ex,ea,ed,c,l,q⟩=>?_)
  subst ex
  obtain rfl : u = Value.ref a:=rx
  obtain ⟨⟨o,e1,e2,e3,nc⟩,_,_⟩:=(show ObjOk X.prog X.w H1 s1.heap a (.ext (ObX a C (some d))) from I1.hok a _ ea)
  obtain ⟨mA,ns,r⟩:=(show ObjOk X.prog X.w H1 s1.heap d (.xd fs) from I1.hok d _ ed)
  obtain ⟨od,ho,hl⟩:=lookIn_ns ns
  obtain ⟨u',hu,ru⟩:=RelO.some_of (v:=v) (o:=mA f) (by rw [← l]; exact r f)
  have Io : InstAt s1.heap a o C (some od):=⟨e1,e2,nc,by rw [e3]; exact ho⟩
  exact fld_get I1.kIn Io c (by rw [hl,hu]) (handed_of ru) ⟨v,H1,I1.tok _,ru,q⟩
end L2

namespace L2
open PySem PySem.Spec PyProof.Rows
section
variable {P : Program} {w : World} {K : PySem.W.Frag} {mg : Str→Option Value} {base : Heap} {N : List Str} {qual : Str} {scope : Scope} {f : Addr} {cd : Value} {A : Around} {outer : List Env} {s0 : Shared} {H0 : Hp} {E : XK}
  {k : Nat} {f' C : Addr} {fd : FuncData} {ps : List Str} {sp : Sp} {x : Str} {p pos : Pos} {e : Expr} {es : List Expr} {t : TA}
theorem pe_mX (c : Maker1 P w K mg base x C f' fd ps k sp) (hr : Room (k + 1) (cxOf (CX1 P w) P w K mg base N qual scope f cd A outer s0 H0 E).A) (ha : PA (cxOf (CX1 P w) P w K mg base N qual scope f cd A outer s0 H0 E) (e :: es) t)
    (hg : Gl (cxOf (CX1 P w) P w K mg base N qual scope f cd A outer s0 H0 E) x:=by rfl) (hdb : (x == ("__debug__" : Str)) = false:=by decide)
    (he : starEach (e :: es) (cxOf (CX1 P w) P w K mg base N qual scope f cd A outer s0 H0 E).env = (false,eval e (cxOf (CX1 P w) P w K mg base N qual scope f cd A outer s0 H0 E).env) :: starEach es (cxOf (CX1 P w) P w K mg base N qual scope f cd A outer s0 H0 E).env:=by rfl)
    (hpl : (backTo pos (starEach es (cxOf (CX1 P w) P w K mg base N qual scope f cd A outer s0 H0 E).env)).any (·.1) = false:=by rfl) :
    PE (cxOf (CX1 P w) P w K mg base N qual scope f cd A outer s0 H0 E) (.Call (.Name x p) (e :: es) [] pos) (tMake C sp [] E t) :=
  pe_make (X:=cxOf (CX1 P w) P w K mg base N qual scope f cd A outer s0 H0 E) (CX:=CX1 P w) c.mm c.ok hr hg c.g c.b .nil pass1 ha hdb he hpl
theorem calm {k : Nat} {f : Addr} {fd : FuncData} {ps : List Str} {sp : Sp} (F : FnOk P w K mg base (CX1 P w) k f fd ps sp) : FnOk P w K mg base CX0 k f fd ps (fun vs H Q _=>sp vs H Q E0) :=
  ⟨fun vs H Q E h=>F.len vs H Q E0 h,fun A outer s H args us vs Q E hr e0 hb r h=>codeAny_mono (F.run A outer s H args us vs Q E0 hr e0 hb r h) fun r s' hq=>by
    cases r with
    | error e =>
      obtain ⟨_,_,_,_,_,_,_,_,_,_,z⟩:=hq
      exact False.elim z
    | ok fl=>cases fl <;> exact hq⟩
end
section
variable {X : Cx}
theorem op_mulS : OpR X (binaryOp .Mult) (fun x y H Q=>∃ i n,x = .str i∧y = .int n∧0 ≤ n∧n ≤ 1000∧i.length ≤ 1000∧Q (.str (Txt.mul i n)) H):=by
  intro pins s σ H x y v u Q I rx ry h
  obtain ⟨i,n,rfl,rfl,h0,h1,h2,q⟩:=h
  obtain ⟨t,rfl⟩:=rx
  obtain ⟨t',rfl⟩:=ry
  refine SB.mul ⟨?_,fun a b=>?_,fun a b=>?_⟩ fun t' tk=>⟨.str (Txt.mul i n),H,I.tok _,⟨_,rfl⟩,q⟩
  · rw [Bool.or_eq_false_iff]
    exact ⟨decide_eq_false (by omega),decide_eq_false (by omega)⟩
  · have : (1000 : Int) ≤ (2 ^ 63 - 1) / n:=Int.le_ediv_of_mul_le (by omega) (by omega)
    omega
  · unfold Builtin.Str.tooLong
    have e2 : sizeLine = 16777216:=rfl
    rw [decide_eq_false_iff_not,e2]
    have : i.length * n.toNat ≤ 1000 * 1000:=Nat.mul_le_mul h2 (by omega)
    omega
end
end L2

namespace L2
open PySem PySem.Spec PyProof.Rows
section
variable {X : Cx} {body suite suite2 : List Stmt} {b0 c0 : Stmt} {i i2 : Nat} {x n x2 n2 : Str} {C1 C2 : Addr} {np hpos np2 hpos2 pos : Pos} {tb : XK→TS} {th th2 : TS}
theorem ps_tryAA (hst : X.stack = X.env :: X.outer) (hfr : X.env.frame = some X.env.locals) (hN : X.N.Nodup) (hi : X.N[i]? = some n) (hk : X.env.scope.names.lookup n = some .local) (c : XAny X.K C1) (hm : X.mg x = some (.ref C1))
    (hi2 : X.N[i2]? = some n2) (hk2 : X.env.scope.names.lookup n2 = some .local) (c2 : XAny X.K C2) (hm2 : X.mg x2 = some (.ref C2)) (hb : PX X body tb) (hh : ∀ a,PSs (X.inH a) (b0 :: suite) th) (hh2 : ∀ a,PSs (X.inH a) (c0 :: suite2) th2)
    (hg : Gl X x:=by rfl) (hdb : (x == ("__debug__" : Str)) = false:=by decide) (hg2 : Gl X x2:=by rfl) (hdb2 : (x2 == ("__debug__" : Str)) = false:=by decide) :
    PS X (.Try body [.ExceptHandler (some (.Name x np)) (some n) (b0 :: suite) hpos,.ExceptHandler (some (.Name x2 np2)) (some n2) (c0 :: suite2) hpos2] [] [] pos) (tTryH tb (thAs X.K C1 i th (thAs X.K C2 i2 th2 thNo))) :=
  ps_tryH hst hfr hb (ph_as hN hi hk c hm hh (ph_as hN hi2 hk2 c2 hm2 hh2 ph_no hg2 hdb2) hg hdb)
end
theorem pe_fldK {X : Cx} {K : PySem.W.Frag} {e : Expr} {f : Str} {pos : Pos} {ta : TE} (hK : X.K = K) (he : PE X e ta) (hb : attributeBase e f X.env (eval e X.env) = eval e X.env) : PE X (.Attribute e f pos) (tFldX K ta f):=by
  subst hK
  exact pe_fldX he hb
end L2

namespace L2
open PySem PySem.Spec PyProof.Rows
structure Bx (p : Prop) : Prop where
  of : p
theorem bx_in {X : Cx} {body : List Stmt} {q : TS→Prop} {t : TS} (h : Bx (PSs X body t)) (k : q t) : ∃ t,PSs X body t∧q t:=⟨t,h.of,k⟩
theorem w_pt {X : Cx} {e : Expr} {t : TT} (h : Bx (PW X e t)) : Bx (PT X e t):=⟨h.of.pt⟩
section
variable {X : Cx}
theorem w_pe_int {i j pos} : Bx (PE X (.Constant (.int i) j pos) (tC (.int i))):=⟨pe_int⟩
theorem w_pe_bl {b j pos} : Bx (PE X (.Constant (.bool b) j pos) (tC (.bl b))):=⟨pe_bl⟩
theorem w_pe_non {j pos} : Bx (PE X (.Constant .none j pos) (tC .non)):=⟨pe_non⟩
theorem w_pe_str {x j pos} : Bx (PE X (.Constant (.str x) j pos) (tC (.str x))):=⟨pe_str⟩
theorem w_pe_glob {x : Str} {v : V} {u : Value} {pos : Pos} (hg : Gl X x) (hm : X.mg x = some u) (r : RelV v u) (hd : (x == ("__debug__" : Str)) = false:=by decide) : Bx (PE X (.Name x pos) (tC v)):=⟨pe_glob hg hm r hd⟩
end
section
variable {X : Cx}
variable {a b : Expr} {ta tb : TE} {pos : Pos}
theorem w_pt_val {e : Expr} {t : TE} (h : Bx (PE X e t)) (he : ∀ whole,isTrue e X.env whole = (do let v ← whole; standAt e.pos; holding [v] (truthy v)):=by intro _; rfl) : Bx (PT X e (tB t)):=⟨pt_val h.of he⟩
end
section
variable {X : Cx}
variable {a b : Expr} {ta tb : TE} {pos : Pos}
variable {tA tB' : TT} {rest : List Expr}
theorem w_pw_or1 (ha : Bx (PT X a tA)) : Bx (PW X (.BoolOp .Or [a] pos) tA):=⟨pw_or1 ha.of⟩
theorem w_pw_or (ha : Bx (PT X a tA)) (hb : Bx (PW X (.BoolOp .Or (b :: rest) pos) tB')) : Bx (PW X (.BoolOp .Or (a :: b :: rest) pos) (tOr tA tB')):=⟨pw_or ha.of hb.of⟩
theorem w_pt_not (ha : Bx (PT X a tA)) : Bx (PT X (.UnaryOp .Not a pos) (tNot tA)):=⟨pt_not ha.of⟩
theorem w_pe_one {op} {t : TE} (h : Bx (PE X a t)) : Bx (PE X (.BoolOp op [a] pos) t):=⟨pe_one h.of⟩
theorem w_pe_and (ha : Bx (PE X a ta)) (hb : Bx (PE X (.BoolOp .And (b :: rest) pos) tb)) : Bx (PE X (.BoolOp .And (a :: b :: rest) pos) (tAndV ta tb)):=⟨pe_and ha.of hb.of⟩
theorem w_pe_or (ha : Bx (PE X a ta)) (hb : Bx (PE X (.BoolOp .Or (b :: rest) pos) tb)) : Bx (PE X (.BoolOp .Or (a :: b :: rest) pos) (tOrV ta tb)):=⟨pe_or ha.of hb.of⟩
theorem w_pe_not (ha : Bx (PE X a ta)) : Bx (PE X (.UnaryOp .Not a pos) (tNotV ta)):=⟨pe_not ha.of⟩
theorem w_pe_ifExp {c : Expr} (hc : Bx (PT X c tA)) (ha : Bx (PE X a ta)) (hb : Bx (PE X b tb)) : Bx (PE X (.IfExp c a b pos) (tIf tA ta tb)):=⟨pe_ifExp hc.of ha.of hb.of⟩
end
section
variable {X : Cx} {st : Stmt} {rest : List Stmt} {t u : TS} {e : Expr} {te : TE} {pos : Pos}
theorem w_pss_nil  : Bx (PSs X [] tNext):=⟨pss_nil⟩
theorem w_pss_cons (h1 : Bx (PS X st t)) (h2 : Bx (PSs X rest u)) : Bx (PSs X (st :: rest) (tSeq t u)):=⟨pss_cons h1.of h2.of⟩
theorem w_pss_one (h1 : Bx (PS X st t)) : Bx (PSs X [st] t):=⟨pss_one h1.of⟩
theorem w_ps_expr (he : Bx (PE X e te)) (hs : swapsWith e none pos.line X.env = pure false:=by rfl) : Bx (PS X (.Expr e pos) (tDrop te)):=⟨ps_expr he.of hs⟩
theorem w_ps_ret (he : Bx (PE X e te)) : Bx (PS X (.Return (some e) pos) (tRet te)):=⟨ps_ret he.of⟩
theorem w_ps_if {c : Expr} {a b : List Stmt} {tc : TT} (hc : Bx (PT X c tc)) (ha : Bx (PSs X a t)) (hb : Bx (PSs X b u)) : Bx (PS X (.If c a b pos) (tIfS tc t u)):=⟨ps_if hc.of ha.of hb.of⟩
end
section
variable {X : Cx} {pos : Pos}
theorem w_pg_name {i : Nat} {x : Str} (hN : X.N.Nodup) (hi : X.N[i]? = some x) (hx : Loc X.env.scope x) (hf : X.fn x = true∨X.env.scope.names.lookup x = some .local:=by first | exact .inl rfl | exact .inr rfl | assumption) : Bx (PG X (.Name x pos) (gName i)):=⟨pg_name hN hi hx hf⟩
theorem w_pgs_nil  : Bx (PGs X [] gNil):=⟨pgs_nil⟩
theorem w_pgs_cons {e : Expr} {es : List Expr} {t : TG} {u : TGs} (h1 : Bx (PG X e t)) (h2 : Bx (PGs X es u)) (hs : (assignEach (e :: es) X.env).map (·.2) = assign e X.env :: (assignEach es X.env).map (·.2):=by rfl) : Bx (PGs X (e :: es) (gCons t u)):=⟨pgs_cons h1.of h2.of hs⟩
theorem w_pg_tup {es : List Expr} {k : Nat} {t : TGs} {n : Nat} (hc : X.calm = true) (h : Bx (PGs X es t)) (hn : (assignEach es X.env).length = n:=by rfl) (hst : (assignEach es X.env).findIdx? (·.1) = none:=by rfl) : Bx (PG X (.Tuple es k pos) (gTup X.K n t)):=⟨pg_tup hc h.of hn hst⟩
theorem w_pg_sub {o i : Expr} {to ti : TE} {t : TSet} (ho : Bx (PE X o to)) (hi : Bx (PE X i ti)) (hs : PSet X t) (ha : ∀ v,assign (.Subscript o i pos) X.env v = (do
      let ov ← holding [v] (eval o X.env)
      let iv ← holding [v,ov] (eval i X.env)
      standAt pos
      holding [v,ov,iv] (setItem ov iv v)
      release [v,ov,iv] []):=by intro _; rfl) : Bx (PG X (.Subscript o i pos) (gSub to ti t)):=⟨pg_sub ho.of hi.of hs ha⟩
theorem w_ps_asg {tg e : Expr} {te : TE} {g : TG} (he : Bx (PE X e te)) (hg : Bx (PG X tg g)) (hs : swapsWithSole [tg] e pos.line X.env = pure false:=by rfl) (hw : swappedStores [tg] e X.env = pure none:=by rfl) (h1 : (assignEach [tg] X.env).map (·.2) = [assign tg X.env]:=by rfl) : Bx (PS X (.Assign [tg] e pos) (tAsg te g)):=⟨ps_asg he.of hg.of hs hw h1⟩
theorem w_ps_set {i : Nat} {x : Str} {e : Expr} {te : TE} {pos' : Pos} (hN : X.N.Nodup) (hi : X.N[i]? = some x) (hx : Loc X.env.scope x) (he : Bx (PE X e te)) (hs : swapsWith e (some (.Name x pos')) pos.line X.env = pure false:=by rfl) (hf : X.fn x = true∨X.env.scope.names.lookup x = some .local:=by first | exact .inl rfl | exact .inr rfl | assumption) : Bx (PS X (.Assign [.Name x pos'] e pos) (tAsg te (gName i))):=⟨ps_set hN hi hx he.of hs hf⟩
end
section
variable {X : Cx} {tg : Expr}
theorem w_pi_list {l : Expr} {tl : TE} (hl : Bx (PE X l tl)) : Bx (PI X tg l (iList X.K tl)):=⟨pi_list hl.of⟩
theorem w_pi_tup {l : Expr} {tl : TE} (hl : Bx (PE X l tl)) : Bx (PI X tg l (iTup X.K tl)):=⟨pi_tup hl.of⟩
theorem w_pi_range1 {a : Expr} {ta : TA} {p pos : Pos} (hg : Gl X "range") (hm : X.mg "range" = none) (ha : Bx (PA X [a] ta)) (hs : starEach [a] X.env = [(false,eval a X.env)]:=by rfl) : Bx (PI X tg (.Call (.Name "range" p) [a] [] pos) (iRng1 ta)):=⟨pi_range1 hg hm ha.of hs⟩
theorem w_pi_range2 {a b : Expr} {ta : TA} {p pos : Pos} (hg : Gl X "range") (hm : X.mg "range" = none) (ha : Bx (PA X [a,b] ta)) (hs : starEach [a,b] X.env = [(false,eval a X.env),(false,eval b X.env)]:=by rfl) (hs2 : starEach [b] X.env = [(false,eval b X.env)]:=by rfl) : Bx (PI X tg (.Call (.Name "range" p) [a,b] [] pos) (iRng2 ta)):=⟨pi_range2 hg hm ha.of hs hs2⟩
theorem w_ps_for {iter : Expr} {body : List Stmt} {wi : TI} {g : TG} {tb : TS} {pos : Pos} (hp : PassesOwn (model X.prog X.w) X.A X.env X.xe) (hc : X.calm = true) (hi : Bx (PI X tg iter wi)) (hg : Bx (PG X tg g)) (hb : Bx (PSs X body tb)) (hs : ∀ x,foldedSetIterable iter X.env x = pure x:=by intro _; rfl) : Bx (PS X (.For tg iter body [] pos) (tFor wi g tb)):=⟨ps_for hp hc hi.of hg.of hb.of hs⟩
end
section
variable {X : Cx} {a b c : Expr} {ta tb tc : TE} {pos : Pos}
theorem w_pe_op {op : Operator} {r : R2} (ho : OpR X (binaryOp op) r) (ha : Bx (PE X a ta)) (hb : Bx (PE X b tb)) : Bx (PE X (.BinOp a op b pos) (tOp r ta tb)):=⟨pe_op ho ha.of hb.of⟩
theorem w_pe_cmpR {op : CmpOp} {r : R2} (ho : OpR X (compareOp op) r) (ha : Bx (PE X a ta)) (hb : Bx (PE X b tb)) (hm : behindInMarks op b = false) : Bx (PE X (.Compare a [op] [b] pos) (tOp r ta tb)):=⟨pe_cmpR ho ha.of hb.of hm⟩
theorem w_pt_cmpR {op : CmpOp} {r : R2} (ho : OpR X (compareOp op) r) (ha : Bx (PE X a ta)) (hb : Bx (PE X b tb)) (hm : behindInMarks op b = false) : Bx (PT X (.Compare a [op] [b] pos) (tTest (tOp r ta tb))):=⟨pt_cmpR ho ha.of hb.of hm⟩
end
section
variable {X : Cx} {o e value : Expr} {f : Str} {pos pos' tpos : Pos} {ta tv : TE}
theorem w_pe_fld (he : Bx (PE X e ta)) (hb : attributeBase e f X.env (eval e X.env) = eval e X.env) : Bx (PE X (.Attribute e f pos) (tFld X.K ta f)):=⟨pe_fld he.of hb⟩
theorem w_ps_fld (ha : Bx (PE X o ta)) (hv : Bx (PE X value tv)) (hs : swapsWith value (some (.Attribute o f pos')) pos.line X.env = pure false) : Bx (PS X (.Assign [.Attribute o f pos'] value pos) (sFld X.K ta tv f)):=⟨ps_fld ha.of hv.of hs⟩
end
section
variable {X : Cx} {e : Expr} {es : List Expr} {te : TE} {t : TA} {pos : Pos}
theorem w_pa_nil  : Bx (PA X [] tNil):=⟨pa_nil⟩
theorem w_pa_cons (ha : Bx (PE X e te)) (hr : Bx (PA X es t)) (hs : starEach (e :: es) X.env = (false,eval e X.env) :: starEach es X.env:=by rfl) : Bx (PA X (e :: es) (tCons te t)):=⟨pa_cons ha.of hr.of hs⟩
theorem w_pe_tup {x1} (h : Bx (PA X es t)) : Bx (PE X (.Tuple es x1 pos) (tTup t)):=⟨pe_tup h.of⟩
theorem w_pe_lst (h : Bx (PA X es t)) : Bx (PE X (.List es pos) (tLst t)):=⟨pe_lst h.of⟩
end
section
variable {X : Cx} {CX : CXT} {k : Nat} {f C : Addr} {fd : FuncData} {ps : List Str} {sp : Sp} {dvs : List V} {ds : List Value} {E : XK} {x m : Str} {p pos apos : Pos} {e o : Expr} {es : List Expr} {ta : TE} {t : TA}
theorem w_pe_meth {pl : Sem Bool} (he : Bx (PE X o ta)) (c : Cls X.K C) (hm : Meth X.K C m f) (F : FnOk X.prog X.w X.K X.mg X.base CX k f fd ps sp) (hr : Room k X.A) (hb : Binds X.K fd ps ds) (hd : Vals dvs ds) (hx : Passes CX X E) (ha : Bx (PA X (e :: es) t)) (hst : starEach (e :: es) X.env = (false,eval e X.env) :: starEach es X.env:=by rfl) (hpl : (backTo pos (starEach es X.env)).any (·.1) = false:=by rfl) (ht : eval (.Call (.Attribute o m apos) (e :: es) [] pos) X.env = (do
      let ov ← eval o X.env
      standAt apos.atName
      let (f,first) ← holding [ov] (getMethod ov m pl)
      callWith pos f first (backTo pos (starEach (e :: es) X.env)) (backToKw pos (keywordEach [] X.env))):=by rfl) : Bx (PE X (.Call (.Attribute o m apos) (e :: es) [] pos) (tMeth C m sp dvs E ta t)):=⟨pe_meth he.of c hm F hr hb hd hx ha.of hst hpl ht⟩
end
section
variable {X : Cx} {CX : CXT} {k : Nat} {f C : Addr} {fd : FuncData} {ps ks : List Str} {sp : Sp} {E : XK} {x m : Str} {p pos apos kpos : Pos} {e o : Expr} {es : List Expr} {kws : List Keyword} {te ta : TE} {t tk : TA} {nm : Option Str}
end
section
variable {X : Cx} {CX : CXT} {k : Nat} {f C : Addr} {fd : FuncData} {ps ks : List Str} {sp : Sp} {E : XK} {x m : Str} {p pos apos kpos : Pos} {e o : Expr} {es : List Expr} {kws : List Keyword} {te ta : TE} {t tk : TA} {nm : Option Str}
variable {g : List Value→List Value→List Value} {gV : List V→List V→List V}
end
section
variable {X : Cx} {x : Str} {p pos : Pos} {e : Expr} {es : List Expr} {t : TA} {id T : String} {r : List V→Hp→VK→Prop}
theorem w_pe_callB (hc : CallR X (.builtin id) r) (hg : Gl X x) (hm : X.mg x = none) (hv : bootBuiltins x = some (.builtin id)) (ha : Bx (PA X (e :: es) t)) (hn : x ≠ "__name__" := by decide) (hdb : (x == ("__debug__" : Str)) = false:=by decide) (he : starEach (e :: es) X.env = (false,eval e X.env) :: starEach es X.env:=by rfl) (hpl : (backTo pos (starEach es X.env)).any (·.1) = false:=by rfl) : Bx (PE X (.Call (.Name x p) (e :: es) [] pos) (tCB r t)):=⟨pe_callB hc hg hm hv ha.of hn hdb he hpl⟩
theorem w_pe_callTy (hc : CallR X (.type T) r) (hg : Gl X x) (hm : X.mg x = none) (hv : bootBuiltins x = some (.type T)) (ha : Bx (PA X (e :: es) t)) (hn : x ≠ "__name__" := by decide) (hdb : (x == ("__debug__" : Str)) = false:=by decide) (he : starEach (e :: es) X.env = (false,eval e X.env) :: starEach es X.env:=by rfl) (hpl : (backTo pos (starEach es X.env)).any (·.1) = false:=by rfl) : Bx (PE X (.Call (.Name x p) (e :: es) [] pos) (tCB r t)):=⟨pe_callTy hc hg hm hv ha.of hn hdb he hpl⟩
end
section
variable {X : Cx} {e : Expr} {te : TE} {lo hi : Option Expr} {tl th : TO} {pos p2 : Pos}
theorem w_po_none  : Bx (PO X none tNoPart):=⟨po_none⟩
theorem w_po_some (h : Bx (PE X e te)) : Bx (PO X (some e) (tPart te)):=⟨po_some h.of⟩
theorem w_pe_slice {r : V→Option Int→Option Int→Hp→VK→Prop} (hr : SlR X r) (he : Bx (PE X e te)) (hl : Bx (PO X lo tl)) (hu : Bx (PO X hi th)) : Bx (PE X (.Subscript e (.Slice lo hi none p2) pos) (tSl r te tl th)):=⟨pe_slice hr he.of hl.of hu.of⟩
end
section
variable {X : Cx} {a b : Expr} {ta tb : TE} {pos : Pos}
theorem w_pe_ix {r : R2} (hr : IxR X r) (ha : Bx (PE X a ta)) (hb : Bx (PE X b tb)) (hs : PlainIx b) : Bx (PE X (.Subscript a b pos) (tOp r ta tb)):=⟨pe_ix hr ha.of hb.of hs⟩
end
section
variable {X : Cx} {a b : Expr} {ta tb : TE} {pos : Pos}
variable {o e : Expr} {es : List Expr} {to : TE} {t : TA} {name : Str} {apos cpos : Pos} {T id : String} {r : V→List V→Hp→VK→Prop}
theorem w_pe_bm (pa : PlainAttrs T) (slot : Slot T name id) (hty : typeOf (.builtin id) = pure (.type "method_descriptor")) (hm : MtR X id r) (ho : Bx (PE X o to)) (ha : Bx (PA X (e :: es) t)) (hbase : attributeBase o name X.env (eval o X.env) = eval o X.env:=by rfl) (hfew : ((backTo cpos (starEach (e :: es) X.env)).all (fun x=>!x.1) && (backToKw cpos (keywordEach [] X.env)).all (fun x=>x.1.isSome)
      && decide ((e :: es).length + ([] : List Keyword).length + (if ([] : List Keyword).isEmpty then 0 else 1) < 30)) = true:=by rfl) (hline : (apos.endLine == cpos.line) = true:=by rfl) (hs : starEach (e :: es) X.env = (false,eval e X.env) :: starEach es X.env:=by rfl) (hplain : (backTo cpos (starEach es X.env)).any (·.1) = false:=by rfl) : Bx (PE X (.Call (.Attribute o name apos) (e :: es) [] cpos) (tBM X.K T r to t)):=⟨pe_bm pa slot hty hm ho.of ha.of hbase hfew hline hs hplain⟩
end
section
variable {X : Cx} {o i e value : Expr} {pos pos' tpos : Pos} {td ty tv : TE}
end
section
variable {X : Cx} {pos : Pos}
end
section
end
section
variable {X : Cx} {o e f : Expr} {apos cpos : Pos} {td ty tx : TE}
end
section
variable {X : Cx}
theorem w_pv (i : Nat) {x : Str} {pos : Pos} (hN : X.N[i]? = some x:=by rfl) (hv : Vis X.env.scope x:=by first | exact Or.inl rfl | exact Or.inr (Or.inl rfl) | exact Or.inr (Or.inr rfl)) (hd : (x == ("__debug__" : Str)) = false:=by decide) (hcd : (x == ("__classdict__" : Str)) = false:=by decide) : Bx (PE X (.Name x pos) (tVar i)):=⟨pv i hN hv hd hcd⟩
end
section
theorem w_pss_cut {X : Cx} {st : Stmt} {rest : List Stmt} {t u : TS} (h1 : Bx (PS X st t)) (h2 : Bx (PSs X rest u)) : Bx (PSs X (st :: rest) (tSeqM t u)):=⟨pss_cut h1.of h2.of⟩
theorem w_pts_nil {X : Cx} : Bx (PTs X [] tYes):=⟨pts_nil⟩
theorem w_pts_one {X : Cx} {c : Expr} {t : TT} (h : Bx (PT X c t)) : Bx (PTs X [c] t):=⟨pts_one h.of⟩
end
section
variable {X : Cx} {tg iter elt : Expr} {ifs : List Expr} {scope : Scope} {pos : Pos} {N' : List Str} {t : Nat} {caps : List Nat} {g : Blk→TG} {tc : Blk→TT} {te : Blk→TE} {wi : TI}
theorem w_pe_comp (hc : X.calm = true) (S : CompOk X scope N' t caps) (hi : Bx (PI X tg iter wi)) (hg : ∀ b,Bx (PG (cxB X scope N' b) tg (g b))) (ht : ∀ b,Bx (PTs (cxB X scope N' b) ifs (tc b))) (he : ∀ b,Bx (PE (cxB X scope N' b) elt (te b))) (hs : ∀ x,foldedSetIterable iter X.env x = pure x:=by intro _; rfl) : Bx (PE X (.ListComp elt [⟨tg,iter,ifs,0⟩] scope pos) (tComp wi g tc te t caps)):=⟨pe_comp hc S hi.of (fun x0=>(hg x0).of) (fun x0=>(ht x0).of) (fun x0=>(he x0).of) hs⟩
theorem w_ps_setComp {i : Nat} {y : Str} {py spos : Pos} (hc : X.calm = true) (hN : X.N.Nodup) (hiy : X.N[i]? = some y) (hy : Loc X.env.scope y) (S : CompOk X scope N' t caps) (hi : Bx (PI X tg iter wi)) (hg : ∀ b,Bx (PG (cxB X scope N' b) tg (g b))) (ht : ∀ b,Bx (PTs (cxB X scope N' b) ifs (tc b))) (he : ∀ b,Bx (PE (cxB X scope N' b) elt (te b))) (hsw : swapsWith (.ListComp elt [⟨tg,iter,ifs,0⟩] scope pos) (some (.Name y py)) spos.line X.env = pure true:=by rfl) (hs : ∀ x,foldedSetIterable iter X.env x = pure x:=by intro _; rfl) (hf : X.fn y = true∨X.env.scope.names.lookup y = some .local:=by first | exact .inl rfl | exact .inr rfl | assumption) : Bx (PS X (.Assign [.Name y py] (.ListComp elt [⟨tg,iter,ifs,0⟩] scope pos) spos) (tAsg (tComp wi g tc te t caps) (gName i))):=⟨ps_setComp hc hN hiy hy S hi.of (fun x0=>(hg x0).of) (fun x0=>(ht x0).of) (fun x0=>(he x0).of) hsw hs hf⟩
end
section
variable {X : Cx} {k : Nat} {f C : Addr} {fd : FuncData} {ps : List Str} {sp : Sp} {x m : Str} {p pos apos : Pos} {e o : Expr} {es : List Expr} {ta : TE} {t : TA}
theorem w_pe_c (c : Callee X.prog X.w X.K X.mg X.base x f fd ps k sp) (hr : Room k X.A) (ha : Bx (PA X (e :: es) t)) (hg : Gl X x:=by rfl) (hdb : (x == ("__debug__" : Str)) = false:=by decide) (he : starEach (e :: es) X.env = (false,eval e X.env) :: starEach es X.env:=by rfl) (hpl : (backTo pos (starEach es X.env)).any (·.1) = false:=by rfl) : Bx (PE X (.Call (.Name x p) (e :: es) [] pos) (tCall sp [] E0 t)):=⟨pe_c c hr ha.of hg hdb he hpl⟩
theorem w_pe_m (c : Maker X.prog X.w X.K X.mg X.base x C f fd ps k sp) (hr : Room (k + 1) X.A) (ha : Bx (PA X (e :: es) t)) (hg : Gl X x:=by rfl) (hdb : (x == ("__debug__" : Str)) = false:=by decide) (he : starEach (e :: es) X.env = (false,eval e X.env) :: starEach es X.env:=by rfl) (hpl : (backTo pos (starEach es X.env)).any (·.1) = false:=by rfl) : Bx (PE X (.Call (.Name x p) (e :: es) [] pos) (tMake C sp [] E0 t)):=⟨pe_m c hr ha.of hg hdb he hpl⟩
theorem w_pe_meth0D {pl : Sem Bool} (he : Bx (PE X o ta)) (ht : eval (.Call (.Attribute o m apos) [] [] pos) X.env = (do
      let ov ← eval o X.env
      standAt apos.atName
      let (f,first) ← holding [ov] (getMethod ov m pl)
      callWith pos f first (backTo pos (starEach [] X.env)) (backToKw pos (keywordEach [] X.env))):=by rfl) : Bx (PE X (.Call (.Attribute o m apos) [] [] pos) (tMethD X m ta tNil)):=⟨pe_meth0D he.of ht⟩
end
section
theorem w_pe_cls {X : Cx} {x : Str} {C : Addr} {pos : Pos} (hm : X.mg x = some (.ref C)) (hg : Gl X x:=by rfl) (hd : (x == ("__debug__" : Str)) = false:=by decide) : Bx (PE X (.Name x pos) (tC (.ref C))):=⟨pe_cls hm hg hd⟩
theorem w_pe_bty {X : Cx} {x : Str} {n : String} {pos : Pos} (hm : X.mg x = none) (hv : bootBuiltins x = some (.type n)) (hg : Gl X x:=by rfl) (hn : x ≠ "__name__" := by decide) (hd : (x == ("__debug__" : Str)) = false:=by decide) : Bx (PE X (.Name x pos) (tC (.ty n))):=⟨pe_bty hm hv hg hn hd⟩
theorem w_pi_zip {X : Cx} {es : List Expr} {n : Nat} {tp : Pos} {a b : Expr} {ta : TA} {p pos : Pos} (hg : Gl X "zip") (hm : X.mg "zip" = none) (ha : Bx (PA X [a,b] ta)) (hs : starEach [a,b] X.env = [(false,eval a X.env),(false,eval b X.env)]:=by rfl) (hs2 : starEach [b] X.env = [(false,eval b X.env)]:=by rfl) : Bx (PI X (.Tuple es n tp) (.Call (.Name "zip" p) [a,b] [] pos) (iZip X.K ta)):=⟨pi_zip hg hm ha.of hs hs2⟩
end
section
variable {P : Program} {w : World} {A : Around} {R : Result→Shared→Prop} {I S : Addr} {fp wr : List Addr} {n : Nat} {Is : Nat→Value→Prop} {St : Nat→Heap→Prop} {kw : List (Str × Value)}
end
section
end
section
variable {X : Cx} {C : Addr} {x : Str} {p pos : Pos}
end
section
variable {X : Cx} {es : List Expr} {t : TA} {te : TE}
theorem w_pa_C {c j pos} (ha : Bx (PE X (.Constant c j pos) te)) (hr : Bx (PA X es t)) : Bx (PA X (.Constant c j pos :: es) (tCons te t)):=⟨pa_C ha.of hr.of⟩
theorem w_pa_K {f xs ks pos} (ha : Bx (PE X (.Call f xs ks pos) te)) (hr : Bx (PA X es t)) : Bx (PA X (.Call f xs ks pos :: es) (tCons te t)):=⟨pa_K ha.of hr.of⟩
theorem w_pa_B {l o r pos} (ha : Bx (PE X (.BinOp l o r pos) te)) (hr : Bx (PA X es t)) : Bx (PA X (.BinOp l o r pos :: es) (tCons te t)):=⟨pa_B ha.of hr.of⟩
theorem w_pa_N {x pos} (ha : Bx (PE X (.Name x pos) te)) (hr : Bx (PA X es t)) : Bx (PA X (.Name x pos :: es) (tCons te t)):=⟨pa_N ha.of hr.of⟩
end
section
variable {X : Cx}
end
section
variable {P : Program} {w : World} {K : PySem.W.Frag} {mg : Str→Option Value} {base : Heap} {N : List Str} {qual : Str} {scope : Scope} {f : Addr} {cd : Value} {A : Around} {outer : List Env} {s0 : Shared} {H0 : Hp} {E : XK}
end
section
variable {X : Cx} {k : Nat} {f C : Addr} {fd : FuncData} {ps : List Str} {sp : Sp} {dvs : List V} {ds : List Value} {x : Str} {p pos : Pos} {e : Expr} {es : List Expr} {t : TA}
theorem w_px_expr {te : XK→TE} (h : Bx (PV X e te)) (hs : swapsWith e none pos.line X.env = pure false:=by rfl) : Bx (PX X [.Expr e pos] (fun E=>tDrop (te E))):=⟨px_expr h.of hs⟩
end
section
end
section
variable {X : Cx} {k : Nat} {f C : Addr} {fd : FuncData} {ps : List Str} {sp : Sp} {x : Str} {p pos : Pos} {e : Expr} {es : List Expr} {t : TA}
theorem w_pv_c (c : Callee1 X.prog X.w X.K X.mg X.base x f fd ps k sp) (hr : Room k X.A) (ha : Bx (PA X.nox (e :: es) t)) (hg : Gl X x:=by rfl) (hdb : (x == ("__debug__" : Str)) = false:=by decide) (he : starEach (e :: es) X.env = (false,eval e X.env) :: starEach es X.env:=by rfl) (hpl : (backTo pos (starEach es X.env)).any (·.1) = false:=by rfl) : Bx (PV X (.Call (.Name x p) (e :: es) [] pos) (fun E=>tCall sp [] E t)):=⟨pv_c c hr ha.of hg hdb he hpl⟩
end
section
end
section
variable {X : Cx} {tg : Expr}
theorem w_pi_str {e : Expr} {te : TE} (he : Bx (PE X e te)) : Bx (PI X tg e (iStr te)):=⟨pi_str he.of⟩
theorem w_pi_reversed {a : Expr} {ta : TA} {p pos : Pos} (hg : Gl X "reversed") (hm : X.mg "reversed" = none) (ha : Bx (PA X [a] ta)) (hs : starEach [a] X.env = [(false,eval a X.env)]:=by rfl) : Bx (PI X tg (.Call (.Name "reversed" p) [a] [] pos) (iRev X.K ta)):=⟨pi_reversed hg hm ha.of hs⟩
end
section
theorem w_pi_enum {X : Cx} {es : List Expr} {n : Nat} {tp : Pos} {a : Expr} {ta : TA} {p pos : Pos} (hg : Gl X "enumerate") (hm : X.mg "enumerate" = none) (ha : Bx (PA X [a] ta)) (hs : starEach [a] X.env = [(false,eval a X.env)]:=by rfl) : Bx (PI X (.Tuple es n tp) (.Call (.Name "enumerate" p) [a] [] pos) (iEnum X.K ta)):=⟨pi_enum hg hm ha.of hs⟩
end
section
variable {X : Cx}
variable {o e f : Expr} {apos cpos : Pos} {td ty tx : TE}
theorem w_pe_tget2 (ho : Bx (PE X o td)) (he : Bx (PE X e ty)) (hf : Bx (PE X f tx)) (m : M2 X o "get" apos e f cpos) : Bx (PE X (.Call (.Attribute o "get" apos) [e,f] [] cpos) (tTGet2 X.w X.K td ty tx)):=⟨pe_tget2 ho.of he.of hf.of m⟩
end
section
variable {X : Cx} {m : Str} {o e : Expr} {es : List Expr} {ta : TE} {t : TA} {apos pos : Pos}
end
section
variable {X : Cx} {o value : Expr} {f : Str} {pos pos' : Pos} {ta tv : TE}
theorem w_ps_fldX (ha : Bx (PE X o ta)) (hv : Bx (PE X value tv)) (hs : swapsWith value (some (.Attribute o f pos')) pos.line X.env = pure false) : Bx (PS X (.Assign [.Attribute o f pos'] value pos) (sFldX X.K ta tv f)):=⟨ps_fldX ha.of hv.of hs⟩
end
section
variable {P : Program} {w : World} {K : PySem.W.Frag} {mg : Str→Option Value} {base : Heap} {N : List Str} {qual : Str} {scope : Scope} {f : Addr} {cd : Value} {A : Around} {outer : List Env} {s0 : Shared} {H0 : Hp} {E : XK}
theorem w_ps_raiseF (c : XInit P w K mg base x C g fd ps k fld) (hc : (A.deeper (envOfC qual scope s0.heap.objs.size f cd)).handled = none) (hr : Room (k + 1) (cxOf (CX1 P w) P w K mg base N qual scope f cd A outer s0 H0 E).A) (ha : Bx (PA (cxOf (CX1 P w) P w K mg base N qual scope f cd A outer s0 H0 E) (e :: es) t)) (hg : Gl (cxOf (CX1 P w) P w K mg base N qual scope f cd A outer s0 H0 E) x:=by rfl) (he : starEach (e :: es) (cxOf (CX1 P w) P w K mg base N qual scope f cd A outer s0 H0 E).env = (false,eval e (cxOf (CX1 P w) P w K mg base N qual scope f cd A outer s0 H0 E).env) :: starEach es (cxOf (CX1 P w) P w K mg base N qual scope f cd A outer s0 H0 E).env:=by rfl) (hpl : (backTo cpos (starEach es (cxOf (CX1 P w) P w K mg base N qual scope f cd A outer s0 H0 E).env)).any (·.1) = false:=by rfl) (hdb : (x == ("__debug__" : Str)) = false:=by decide) : Bx (PS (cxOf (CX1 P w) P w K mg base N qual scope f cd A outer s0 H0 E) (.Raise (some (.Call (.Name x np) (e :: es) [] cpos)) none pos) (tRzF C fld E t)):=⟨ps_raiseF c hc hr ha.of hg he hpl hdb⟩
end
section
variable {X : Cx} {suite : List Stmt} {b0 : Stmt} {i : Nat} {x n : Str} {C1 : Addr} {np hpos : Pos} {th : TS} {tr : Addr→Option Addr→TS} {rest : List ExceptHandler}
end
section
end
section
variable {P : Program} {w : World} {K : PySem.W.Frag} {mg : Str→Option Value} {base : Heap} {N : List Str} {qual : Str} {scope : Scope} {f : Addr} {cd : Value} {A : Around} {outer : List Env} {s0 : Shared} {H0 : Hp} {E : XK}
theorem w_pe_mX (c : Maker1 P w K mg base x C f' fd ps k sp) (hr : Room (k + 1) (cxOf (CX1 P w) P w K mg base N qual scope f cd A outer s0 H0 E).A) (ha : Bx (PA (cxOf (CX1 P w) P w K mg base N qual scope f cd A outer s0 H0 E) (e :: es) t)) (hg : Gl (cxOf (CX1 P w) P w K mg base N qual scope f cd A outer s0 H0 E) x:=by rfl) (hdb : (x == ("__debug__" : Str)) = false:=by decide) (he : starEach (e :: es) (cxOf (CX1 P w) P w K mg base N qual scope f cd A outer s0 H0 E).env = (false,eval e (cxOf (CX1 P w) P w K mg base N qual scope f cd A outer s0 H0 E).env) :: starEach es (cxOf (CX1 P w) P w K mg base N qual scope f cd A outer s0 H0 E).env:=by rfl) (hpl : (backTo pos (starEach es (cxOf (CX1 P w) P w K mg base N qual scope f cd A outer s0 H0 E).env)).any (·.1) = false:=by rfl) : Bx (PE (cxOf (CX1 P w) P w K mg base N qual scope f cd A outer s0 H0 E) (.Call (.Name x p) (e :: es) [] pos) (tMake C sp [] E t)):=⟨pe_mX c hr ha.of hg hdb he hpl⟩
end
section
variable {X : Cx} {body suite suite2 : List Stmt} {b0 c0 : Stmt} {i i2 : Nat} {x n x2 n2 : Str} {C1 C2 : Addr} {np hpos np2 hpos2 pos : Pos} {tb : XK→TS} {th th2 : TS}
theorem w_ps_tryAA (hst : X.stack = X.env :: X.outer) (hfr : X.env.frame = some X.env.locals) (hN : X.N.Nodup) (hi : X.N[i]? = some n) (hk : X.env.scope.names.lookup n = some .local) (c : XAny X.K C1) (hm : X.mg x = some (.ref C1)) (hi2 : X.N[i2]? = some n2) (hk2 : X.env.scope.names.lookup n2 = some .local) (c2 : XAny X.K C2) (hm2 : X.mg x2 = some (.ref C2)) (hb : Bx (PX X body tb)) (hh : ∀ a,Bx (PSs (X.inH a) (b0 :: suite) th)) (hh2 : ∀ a,Bx (PSs (X.inH a) (c0 :: suite2) th2)) (hg : Gl X x:=by rfl) (hdb : (x == ("__debug__" : Str)) = false:=by decide) (hg2 : Gl X x2:=by rfl) (hdb2 : (x2 == ("__debug__" : Str)) = false:=by decide) : Bx (PS X (.Try body [.ExceptHandler (some (.Name x np)) (some n) (b0 :: suite) hpos,.ExceptHandler (some (.Name x2 np2)) (some n2) (c0 :: suite2) hpos2] [] [] pos) (tTryH tb (thAs X.K C1 i th (thAs X.K C2 i2 th2 thNo)))):=⟨ps_tryAA hst hfr hN hi hk c hm hi2 hk2 c2 hm2 hb.of (fun x0=>(hh x0).of) (fun x0=>(hh2 x0).of) hg hdb hg2 hdb2⟩
end
section
theorem w_pe_fldK {X : Cx} {K : PySem.W.Frag} {e : Expr} {f : Str} {pos : Pos} {ta : TE} (hK : X.K = K) (he : Bx (PE X e ta)) (hb : attributeBase e f X.env (eval e X.env) = eval e X.env) : Bx (PE X (.Attribute e f pos) (tFldX K ta f)):=⟨pe_fldK hK he.of hb⟩
end
end L2

namespace L2
open PySem PySem.Spec PyProof.Rows PySem.Builtin PySem.Builtin.Str
section
variable {X : Cx}
def rSlS : V→Option Int→Option Int→Hp→VK→Prop:=fun x lo hi H Q=>∃ z,x = .str z∧z.length ≤ sizeLine∧Q (.str (Txt.slice z lo hi)) H
theorem sl_str : SlR X rSlS:=by
  intro pins s σ H x v vl vu lo hi sl Q I rx hs pl pu h
  obtain ⟨z,rfl,hz,q⟩:=h
  obtain ⟨t,rfl⟩:=rx
  refine ⟨"str",_,F.slot_str_getitem.lookup,typeIs_str _ _ _,?_⟩
  cases pl with
  | none =>
    cases pu with
    | none=>exact wpAny_getItem_str_slice (l:=none) (u:=none) (st:=none) hs rfl (post_val_or_str ⟨Nat.le_trans (Txt.slice_le z _ _) hz,fun t' k=>⟨.str _,H,I.tok _,⟨_,rfl⟩,q⟩⟩)
    | int j u=>exact wpAny_getItem_str_slice (l:=none) (u:=some (j,u)) (st:=none) hs rfl (post_val_or_str ⟨Nat.le_trans (Txt.slice_le z _ _) hz,fun t' k=>⟨.str _,H,I.tok _,⟨_,rfl⟩,q⟩⟩)
  | int i v =>
    cases pu with
    | none=>exact wpAny_getItem_str_slice (l:=some (i,v)) (u:=none) (st:=none) hs rfl (post_val_or_str ⟨Nat.le_trans (Txt.slice_le z _ _) hz,fun t' k=>⟨.str _,H,I.tok _,⟨_,rfl⟩,q⟩⟩)
    | int j u=>exact wpAny_getItem_str_slice (l:=some (i,v)) (u:=some (j,u)) (st:=none) hs rfl (post_val_or_str ⟨Nat.le_trans (Txt.slice_le z _ _) hz,fun t' k=>⟨.str _,H,I.tok _,⟨_,rfl⟩,q⟩⟩)
end
end L2

namespace K04
open PySem L2 PySem.NumText PySem.W.KIN
theorem str_ext {x y : Str} (h : x.cps.toList = y.cps.toList) : x = y:=by
  apply Str.ext'
  exact Array.toList_inj.mp h
def dg (m : Nat) : List Nat:=(Nat.toDigits 10 m).map Char.toNat
theorem dg_lt {m : Nat} (h : m < 10) : dg m = [48 + m]:=by
  unfold dg
  rw [Nat.toDigits_of_lt_base h]
  have : ∀ d : Nat,d < 10→(Nat.digitChar d).toNat = 48 + d:=by decide
  show [(Nat.digitChar m).toNat] = _
  rw [this m h]
theorem dg_step {m : Nat} (h : ¬ m < 10) : dg m = dg (m / 10) ++ [48 + m % 10]:=by
  have hm : m % 10 < 10:=Nat.mod_lt m (by decide)
  have t : Nat.toDigits 10 (m / 10) ++ Nat.toDigits 10 (m % 10) = Nat.toDigits 10 (10 * (m / 10) + m % 10):=Nat.toDigits_append_toDigits (by decide) (by omega) hm
  rw [Nat.div_add_mod] at t
  rw [← dg_lt hm]
  unfold dg
  rw [← t,List.map_append]
theorem dg_all (m : Nat) : AllDigits (dg m):=by
  intro c hc
  obtain ⟨ch,hch,e⟩:=List.mem_map.mp hc
  have r:=PyProof.Rows.digit_range (Nat.isDigit_of_mem_toDigits (by decide) (by decide) hch)
  rw [← e]
  exact r
theorem dg_ne (m : Nat) : dg m ≠ []:=by
  by_cases h : m < 10
  · rw [dg_lt h]; simp
  · rw [dg_step h]; simp
theorem dg_len : ∀ (k m : Nat),m < 10 ^ (k + 1)→(dg m).length ≤ k + 1
  | 0,m,h=>by rw [dg_lt (by simpa using h)]; simp
  | k + 1,m,h=>by
    by_cases q : m < 10
    · rw [dg_lt q]; simp
    · rw [dg_step q,List.length_append]
      have:=dg_len k (m / 10) (by rw [Nat.pow_succ] at h; omega)
      simp
      omega
theorem dg_head (m : Nat) (h : 0 < m) : ∃ c r,dg m = c :: r∧49 ≤ c∧c ≤ 57:=by
  induction m using Nat.strongRecOn with
  | _ m ih =>
    by_cases q : m < 10
    · exact ⟨48 + m,[],dg_lt q,by omega,by omega⟩
    · obtain ⟨c,r,e,b⟩:=ih (m / 10) (by omega) (by omega)
      exact ⟨c,r ++ [48 + m % 10],by rw [dg_step q,e]; rfl,b⟩
theorem dg_val (m : Nat) : digitsVal (dg m) = m:=val_back m
def nT (i : Int) : Str:=toString i
theorem nT_nat (m : Nat) : (nT (m : Int)).cps.toList = dg m:=signs_num m
theorem nT_neg (m : Nat) : (nT (Int.negSucc m)).cps.toList = 45 :: dg (m + 1):=by
  unfold nT
  show (Str.ofString (toString (Int.negSucc m))).cps.toList = _
  rw [PyProof.Rows.signs_ofString]
  show ("-" ++ Nat.repr (m + 1)).toList.map Char.toNat = _
  rw [String.toList_append,List.map_append,Nat.toList_repr]
  rfl
abbrev Short (i : Int) : Prop:=-100000000000000000000 < i∧i < 100000000000000000000
theorem dg_short {m : Nat} (h : m < 100000000000000000000) : (dg m).length ≤ 20:=dg_len 19 m (by simpa using h)
theorem nT_len {i : Int} (h : Short i) : (nT i).length ≤ 21:=by
  show (nT i).cps.size ≤ 21
  rw [← Array.length_toList]
  obtain ⟨h1,h2⟩:=h
  cases i with
  | ofNat m =>
    have e : (nT (Int.ofNat m)).cps.toList = dg m:=nT_nat m
    rw [e]
    have h2 : (m : Int) < 100000000000000000000:=h2
    have:=dg_short (m:=m) (by omega)
    omega
  | negSucc m =>
    rw [nT_neg,List.length_cons]
    have:=dg_short (m:=m + 1) (by omega)
    omega
theorem nT_reads {i : Int} (h : Short i) : intText? (nT i) = some i:=by
  have hl:=nT_len h
  clear h
  cases i with
  | ofNat m =>
    have e : (nT (Int.ofNat m)).cps.toList = dg m:=nT_nat m
    have r:=intText_digits (x:=nT (Int.ofNat m)) (by rw [e]; exact dg_all m) (by rw [e]; exact dg_ne m) (by omega)
    rw [e,dg_val] at r
    exact r
  | negSucc m =>
    have r:=intText_neg (nT_neg m) (dg_all _) (dg_ne _) (by omega)
    rw [dg_val] at r
    exact r
theorem nT_sign {i : Int} {c : Nat} (h : c ∈ (nT i).cps.toList) : c = 45∨(48 ≤ c∧c ≤ 57):=by
  match i,h with
  | .ofNat m,h =>
    have e : (nT (Int.ofNat m)).cps.toList = dg m:=nT_nat m
    rw [e] at h
    exact .inr (dg_all m c h)
  | .negSucc m,h =>
    rw [nT_neg] at h
    rcases List.mem_cons.mp h with rfl | h
    · exact .inl rfl
    · exact .inr (dg_all _ c h)
theorem nT_first {i : Int} : ∃ c r,(nT i).cps.toList = c :: r∧(c = 45∨(48 ≤ c∧c ≤ 57)):=by
  cases e : (nT i).cps.toList with
  | nil =>
    match i,e with
    | .ofNat m,e =>
      have e' : (nT (Int.ofNat m)).cps.toList = dg m:=nT_nat m
      rw [e'] at e
      exact absurd e (dg_ne m)
    | .negSucc m,e=>rw [nT_neg] at e; cases e
  | cons c r=>exact ⟨c,r,rfl,nT_sign (by rw [e]; exact List.mem_cons_self ..)⟩
theorem starts_one (x : Str) (c : Nat) : Txt.startswith x ⟨#[c]⟩ = decide (x.cps.toList.head? = some c):=by
  rw [Bool.eq_iff_iff,decide_eq_true_eq]
  unfold Txt.startswith
  rw [Bool.and_eq_true,decide_eq_true_eq,StrLaws.subAt_one,List.head?_eq_getElem?]
theorem slice_from1 {x : Str} {c : Nat} {r : List Nat} (h : x.cps.toList = c :: r) : (Txt.slice x (some 1) none).cps.toList = r:=by
  have hl : x.length = r.length + 1:=by
    show x.cps.size = _
    rw [← Array.length_toList,h]; rfl
  have e:=eq_of_beq (PyProof.Rows.slice_closes_fromL (x:=x) (i:=1) (b:=x.length) (by decide) (by omega) rfl)
  rw [e,h]
  show ((List.drop 1 (c :: r)).take _) = r
  rw [List.drop_succ_cons,List.drop_zero]
  exact List.take_of_length_le (by omega)
theorem slice_to22 {x : Str} (h : x.length ≤ 22) : Txt.slice x none (some 22) = x:=by
  rw [PyProof.Rows.slice_to_beyond (by omega)]
  have e:=eq_of_beq (PyProof.Rows.slice_closes_toL (x:=x) (j:=x.length) (by omega) (by omega))
  rw [e]
  apply str_ext
  show ((x.cps.toList.drop 0).take _) = _
  rw [List.drop_zero]
  exact List.take_of_length_le (by rw [Array.length_toList]; show x.length ≤ _; omega)
def isFig (c : Nat) : Bool:=decide (c ∈ ("0123456789" : Str).cps.toList)
theorem isFig_of {c : Nat} (h : 48 ≤ c∧c ≤ 57) : isFig c = true:=by
  have : ∀ d : Nat,d < 58→48 ≤ d→isFig d = true:=by decide +kernel
  exact this c (by omega) h.1
def figsOf (x : Str) : Str:=if Txt.startswith x "-" then Txt.slice x (some 1) none else x
def tailW (x : Str) : Bool:=decide (figsOf x ≠ "") && (decide (x = "0") || !Txt.startswith (figsOf x) "0")
def numW (x : Str) : Bool:=(figsOf x).cps.toList.all isFig && tailW x
theorem minus_one : ("-" : Str) = ⟨#[45]⟩:=by decide +kernel
theorem zero_one : ("0" : Str) = ⟨#[48]⟩:=by decide +kernel
theorem figs_nat (m : Nat) : figsOf (nT (Int.ofNat m)) = nT (Int.ofNat m):=by
  unfold figsOf
  rw [minus_one,starts_one]
  have e : (nT (Int.ofNat m)).cps.toList = dg m:=nT_nat m
  rw [e]
  refine if_neg ?_
  rw [decide_eq_true_eq]
  intro z
  have:=dg_all m 45 (List.mem_of_mem_head? z)
  omega
theorem figs_neg (m : Nat) : (figsOf (nT (Int.negSucc m))).cps.toList = dg (m + 1):=by
  unfold figsOf
  rw [minus_one,starts_one,nT_neg]
  rw [if_pos (by rfl)]
  exact slice_from1 (nT_neg m)
theorem nT_num (i : Int) : numW (nT i) = true:=by
  have fin : ∀ {x f : Str} {m : Nat},figsOf x = f→f.cps.toList = dg m→(m = 0→x = "0")→numW x = true:=by
    intro x f m e1 e2 hz
    unfold numW tailW
    rw [e1,zero_one,starts_one,e2]
    have a1 : (dg m).all isFig = true:=List.all_eq_true.mpr fun c hc=>isFig_of (dg_all m c hc)
    have a2 : decide (f ≠ "") = true:=by
      rw [decide_eq_true_eq]
      intro z
      rw [z] at e2
      exact dg_ne m e2.symm
    rw [a1,a2]
    by_cases q : m = 0
    · rw [decide_eq_true (by rw [← zero_one]; exact hz q)]; rfl
    · obtain ⟨c,r,e,b⟩:=dg_head m (by omega)
      rw [e]
      have : decide ((c :: r).head? = some 48) = false:=by
        rw [decide_eq_false_iff_not]
        intro z
        have : c = 48:=by simpa using z
        omega
      rw [this]
      simp
  match i with
  | .ofNat m=>exact fin (figs_nat m) (nT_nat m) fun z=>by subst z; decide +kernel
  | .negSucc m=>exact fin rfl (figs_neg m) fun z=>by omega
theorem contains_one (x : Str) (c : Nat) : Txt.contains x ⟨#[c]⟩ = decide (c ∈ x.cps.toList):=StrLaws.found_one x c
def flat (c : Nat) : List (List Nat)→List Nat
  | []=>[]
  | [x]=>x
  | x :: y :: r=>x ++ c :: flat c (y :: r)
theorem join_flat (c : Nat) : ∀ ws : List Str,(Str.join ⟨#[c]⟩ ws).cps.toList = flat c (ws.map (·.cps.toList))
  | []=>rfl
  | [x]=>rfl
  | x :: y :: r=>by
    show (x ++ ⟨#[c]⟩ ++ Str.join ⟨#[c]⟩ (y :: r)).cps.toList = _
    rw [Str.cps_append,Str.cps_append,Array.toList_append,Array.toList_append,join_flat c (y :: r)]
    simp [flat]
theorem cut_inj {c : Nat} : ∀ {x y a b : List Nat},c ∉ x→c ∉ y→x ++ c :: a = y ++ c :: b→x = y∧a = b
  | [],[],a,b,_,_,h=>⟨rfl,by simpa using h⟩
  | [],y :: ys,a,b,_,hy,h=>by
    have : c = y:=by simpa using (List.cons.inj h).1
    exact absurd (this ▸ List.mem_cons_self ..) hy
  | x :: xs,[],a,b,hx,_,h=>by
    have : x = c:=by simpa using (List.cons.inj h).1
    exact absurd (this ▸ List.mem_cons_self ..) hx
  | x :: xs,y :: ys,a,b,hx,hy,h=>by
    have e:=List.cons.inj h
    obtain ⟨h1,h2⟩:=cut_inj (fun z=>hx (List.mem_cons_of_mem _ z)) (fun z=>hy (List.mem_cons_of_mem _ z)) e.2
    exact ⟨by rw [e.1,h1],h2⟩
theorem flat_inj {c : Nat} : ∀ {us vs : List (List Nat)},us ≠ []→vs ≠ []→(∀ u ∈ us,c ∉ u)→(∀ v ∈ vs,c ∉ v)→flat c us = flat c vs→us = vs
  | [u],[v],_,_,_,_,h=>by
    have : u = v:=h
    rw [this]
  | [u],v :: v' :: vs,_,_,hu,_,h=>by
    have h : u = v ++ c :: flat c (v' :: vs):=h
    have:=hu u (List.mem_singleton.mpr rfl)
    rw [h] at this
    exact absurd (by simp) this
  | u :: u' :: us,[v],_,_,_,hv,h=>by
    have h : u ++ c :: flat c (u' :: us) = v:=h
    have:=hv v (List.mem_singleton.mpr rfl)
    rw [← h] at this
    exact absurd (by simp) this
  | u :: u' :: us,v :: v' :: vs,_,_,hu,hv,h=>by
    have h : u ++ c :: flat c (u' :: us) = v ++ c :: flat c (v' :: vs):=h
    obtain ⟨e1,e2⟩:=cut_inj (hu u (List.mem_cons_self ..)) (hv v (List.mem_cons_self ..)) h
    have ih:=flat_inj (us:=u' :: us) (vs:=v' :: vs) (by simp) (by simp) (fun x hx=>hu x (List.mem_cons_of_mem _ hx)) (fun x hx=>hv x (List.mem_cons_of_mem _ hx)) e2
    rw [e1,ih]
theorem map_inj : ∀ {us vs : List Str},us.map (·.cps.toList) = vs.map (·.cps.toList)→us = vs
  | [],[],_=>rfl
  | [],_ :: _,h=>by cases h
  | _ :: _,[],h=>by cases h
  | u :: us,v :: vs,h=>by
    have e:=List.cons.inj h
    rw [str_ext e.1,map_inj e.2]
theorem split_ne (x y : Str) : Txt.split x y ≠ []:=by
  unfold Txt.split
  split
  · simp
  · split
    · simp
    · rw [StrLaws.partsBetween_eq]
      obtain ⟨p,r,e⟩:=StrLaws.partsFrom_ne x y.length 0 (Builtin.Str.occurrences x y 0 x.length (x.length + 1))
      rw [e]; simp
theorem split_join {c : Nat} {ws : List Str} (hn : ws ≠ []) (hf : ∀ w ∈ ws,c ∉ w.cps.toList) : Txt.split (Txt.join ⟨#[c]⟩ ws) ⟨#[c]⟩ = ws:=by
  have e0 : Txt.join ⟨#[c]⟩ ws = Str.join ⟨#[c]⟩ ws:=StrLaws.glued_eq_join _ _
  have e1:=StrLaws.join_split (Txt.join ⟨#[c]⟩ ws) ⟨#[c]⟩
  have e2 : (Str.join ⟨#[c]⟩ (Txt.split (Txt.join ⟨#[c]⟩ ws) ⟨#[c]⟩)).cps.toList = (Str.join ⟨#[c]⟩ ws).cps.toList:=by rw [e1,e0]
  rw [join_flat,join_flat] at e2
  refine map_inj (flat_inj (c:=c) (by simpa using split_ne _ _) (by simpa using hn) ?_ ?_ e2)
  · intro u hu
    obtain ⟨p,hp,rfl⟩:=List.mem_map.mp hu
    exact StrLaws.split_free _ c p hp
  · intro u hu
    obtain ⟨p,hp,rfl⟩:=List.mem_map.mp hu
    exact hf p hp
theorem parts_len (x y : Str) : (Builtin.Str.partsBetween x (Builtin.Str.occurrences x y 0 x.length (x.length + 1)) y.length).length ≤ x.length + 2:=by
  unfold Builtin.Str.partsBetween
  have:=StrLaws.occ_length_le x y 0 x.length (x.length + 1)
  simp
  omega
end K04

namespace K04
open PySem L2
abbrev allNs : List Str:=["worth", "me", "round", "lines", "to", "sum", "least", "most", "count"]
abbrev rowWs : List Str:=["start", "send", "when", "reckon"]
abbrev partsD : List (Str × Int):=[("add",2),("sub",2),("min",2),("max",2),("mod",2),("less",4)]
def numR (w : Str) (es : List Ex) : Option (List Ex):=match intText? w with
  | some n=>if w.length ≤ 22 then some (.num n :: es) else none
  | none=>none
def lessR : List Ex→Option (List Ex)
  | e1 :: e2 :: e3 :: e4 :: r=>some (.less e1 e2 e3 e4 :: r)
  | _=>none
def modR : List Ex→Option (List Ex)
  | e1 :: .num n :: r=>some (.mod e1 n :: r)
  | _=>none
def twoR (w : Str) : List Ex→Option (List Ex)
  | e1 :: e2 :: r=>some (.two w e1 e2 :: r)
  | _=>none
def stepR (w : Str) (es : List Ex) : Option (List Ex) :=
  if inV (.str w) (allNs.map V.str) = true then some (.name w :: es)
  else if numW w = true then numR w es
  else if w = "less" then lessR es
  else if w = "mod" then modR es
  else if w ∈ twoWs then twoR w es
  else none
theorem less_no : inV (.str "less") (allNs.map V.str) = false∧numW "less" = false∧tabV partsD "less" = some 4:=by decide +kernel
theorem mod_no : inV (.str "mod") (allNs.map V.str) = false∧numW "mod" = false∧tabV partsD "mod" = some 2:=by decide +kernel
theorem two_noR {w : Str} (h : TwoW w) : inV (.str w) (allNs.map V.str) = false∧numW w = false∧tabV partsD w = some 2:=by
  rcases h with rfl | rfl | rfl | rfl <;> decide +kernel
theorem two_ne {w : Str} (h : TwoW w) : w ≠ "less" ∧ w ≠ "mod" := by
  rcases h with rfl | rfl | rfl | rfl <;> decide +kernel
theorem tab_some {w : Str} {i : Int} (h : tabV partsD w = some i) : w = "less" ∨ w = "mod" ∨ TwoW w:=by
  unfold tabV at h
  obtain ⟨p,hp,_⟩:=Option.map_eq_some_iff.mp h
  have hm:=List.mem_of_find?_eq_some hp
  have he:=List.find?_some hp
  have he : p.1 = w:=by simpa using he
  subst he
  simp only [List.mem_cons,List.not_mem_nil,or_false] at hm
  rcases hm with rfl | rfl | rfl | rfl | rfl | rfl
  · exact .inr (.inr (.inl rfl))
  · exact .inr (.inr (.inr (.inl rfl)))
  · exact .inr (.inr (.inr (.inr (.inl rfl))))
  · exact .inr (.inr (.inr (.inr (.inr rfl))))
  · exact .inr (.inl rfl)
  · exact .inl rfl
theorem tab_none {w : Str} (h : inV (.str w) (allNs.map V.str) = true∨numW w = true) : tabV partsD w = none:=by
  cases e : tabV partsD w with
  | none=>rfl
  | some i =>
    have z : inV (.str w) (allNs.map V.str) = false∧numW w = false:=by
      rcases tab_some e with rfl | rfl | t
      · exact ⟨less_no.1,less_no.2.1⟩
      · exact ⟨mod_no.1,mod_no.2.1⟩
      · exact ⟨(two_noR t).1,(two_noR t).2.1⟩
    rw [z.1,z.2] at h
    rcases h with h | h <;> cases h
def rdO (w : Str) (acc : Option (List Ex)) : Option (List Ex):=acc.bind (stepR w)
theorem nT_noname (i : Int) : inV (.str (nT i)) (allNs.map V.str) = false:=by
  rw [Bool.eq_false_iff]
  intro h
  have h:=inV_str.mp h
  obtain ⟨c,r,e,hc⟩:=nT_first (i:=i)
  have : ∀ x ∈ allNs,∀ c,x.cps.toList.head? = some c→58 ≤ c:=by
    intro x hx c hc
    have all : allNs.all (fun x=>match x.cps.toList.head? with | some c=>decide (58 ≤ c) | none=>true) = true:=by decide +kernel
    have:=List.all_eq_true.mp all x hx
    rw [hc] at this
    simpa using this
  have:=this _ h c (by rw [e]; rfl)
  omega
theorem step_num {i : Int} (h : Short i) (st : List Ex) : stepR (nT i) st = some (.num i :: st):=by
  have hl:=nT_len h
  unfold stepR
  rw [if_neg (by rw [nT_noname]; simp),if_pos (nT_num i)]
  unfold numR
  rw [nT_reads h]
  exact if_pos (by omega)
theorem step_name {x : Str} (h : x ∈ allNs) (st : List Ex) : stepR x st = some (.name x :: st):=by
  unfold stepR
  exact if_pos (inV_str.mpr h)
theorem step_less (e1 e2 e3 e4 : Ex) (r : List Ex) : stepR "less" (e1 :: e2 :: e3 :: e4 :: r) = some (.less e1 e2 e3 e4 :: r):=by
  unfold stepR
  rw [if_neg (by rw [less_no.1]; simp),if_neg (by rw [less_no.2.1]; simp),if_pos rfl]
  rfl
theorem step_mod (e1 : Ex) (n : Int) (r : List Ex) : stepR "mod" (e1 :: .num n :: r) = some (.mod e1 n :: r):=by
  unfold stepR
  rw [if_neg (by rw [mod_no.1]; simp),if_neg (by rw [mod_no.2.1]; simp),if_neg (by decide +kernel),if_pos rfl]
  rfl
theorem step_two {w : Str} (h : TwoW w) (e1 e2 : Ex) (r : List Ex) : stepR w (e1 :: e2 :: r) = some (.two w e1 e2 :: r):=by
  unfold stepR
  rw [if_neg (by rw [(two_noR h).1]; simp),if_neg (by rw [(two_noR h).2.1]; simp),if_neg (two_ne h).1,if_neg (two_ne h).2,if_pos (by simpa using h)]
  rfl
theorem rd_words {names : List Str} (sub : ∀ x ∈ names,x ∈ allNs) : ∀ (e : Ex),e.ok names→∀ st,e.words.foldr rdO (some st) = some (e :: st)
  | .num i,o,st=>step_num o st
  | .name x,o,st=>step_name (sub x o) st
  | .two w e f,⟨hw,o1,o2⟩,st=>by
    show rdO w ((e.words ++ f.words).foldr rdO (some st)) = _
    rw [List.foldr_append,rd_words sub f o2,rd_words sub e o1]
    exact step_two hw e f st
  | .mod e n,⟨hn,o1⟩,st=>by
    show rdO "mod" ((e.words ++ [nT n]).foldr rdO (some st)) = _
    rw [List.foldr_append]
    show rdO "mod" (e.words.foldr rdO (stepR (nT n) st)) = _
    rw [step_num ⟨by omega,by omega⟩,rd_words sub e o1]
    exact step_mod e n st
  | .less e f g h,⟨o1,o2,o3,o4⟩,st=>by
    show rdO "less" ((e.words ++ (f.words ++ (g.words ++ h.words))).foldr rdO (some st)) = _
    rw [List.foldr_append,List.foldr_append,List.foldr_append,rd_words sub h o4,rd_words sub g o3,rd_words sub f o2,rd_words sub e o1]
    exact step_less e f g h st
def Plain (w : Str) : Prop:=(∀ c ∈ w.cps.toList,33 ≤ c∧c < 127)∧w.length ≤ 21
def plainB (w : Str) : Bool:=w.cps.toList.all (fun c=>decide (33 ≤ c∧c < 127)) && decide (w.length ≤ 21)
theorem plain_of {w : Str} (h : plainB w = true) : Plain w:=by
  unfold plainB at h
  obtain ⟨h1,h2⟩:=Bool.and_eq_true_iff.mp h
  exact ⟨fun c hc=>of_decide_eq_true (List.all_eq_true.mp h1 c hc),of_decide_eq_true h2⟩
theorem plain_num {i : Int} (h : Short i) : Plain (nT i):=⟨fun c hc=>by have:=nT_sign hc; omega,nT_len h⟩
theorem plain_all : ∀ x ∈ allNs,Plain x:=fun x hx=>by
  have : allNs.all plainB = true:=by decide +kernel
  exact plain_of (List.all_eq_true.mp this x hx)
theorem plain_row : ∀ x ∈ rowWs,Plain x:=fun x hx=>by
  have : rowWs.all plainB = true:=by decide +kernel
  exact plain_of (List.all_eq_true.mp this x hx)
theorem plain_two {w : Str} (h : TwoW w) : Plain w:=by
  rcases h with rfl | rfl | rfl | rfl <;> exact plain_of (by decide +kernel)
theorem plain_words {names : List Str} (sub : ∀ x ∈ names,x ∈ allNs) : ∀ (e : Ex),e.ok names→∀ w ∈ e.words,Plain w
  | .num i,o,w,hw=>by
    rw [List.mem_singleton.mp hw]
    exact plain_num o
  | .name x,o,w,hw=>by
    rw [List.mem_singleton.mp hw]
    exact plain_all x (sub x o)
  | .two v e f,⟨hv,o1,o2⟩,w,hw=>by
    rcases List.mem_cons.mp hw with rfl | hw
    · exact plain_two hv
    rcases List.mem_append.mp hw with hw | hw
    · exact plain_words sub e o1 w hw
    · exact plain_words sub f o2 w hw
  | .mod e n,⟨hn,o1⟩,w,hw=>by
    rcases List.mem_cons.mp hw with rfl | hw
    · exact plain_of (by decide +kernel)
    rcases List.mem_append.mp hw with hw | hw
    · exact plain_words sub e o1 w hw
    · rw [List.mem_singleton.mp hw]
      exact plain_num (i:=n) ⟨by omega,by omega⟩
  | .less e f g h,⟨o1,o2,o3,o4⟩,w,hw=>by
    rcases List.mem_cons.mp hw with rfl | hw
    · exact plain_of (by decide +kernel)
    rcases List.mem_append.mp hw with hw | hw
    · exact plain_words sub e o1 w hw
    rcases List.mem_append.mp hw with hw | hw
    · exact plain_words sub f o2 w hw
    rcases List.mem_append.mp hw with hw | hw
    · exact plain_words sub g o3 w hw
    · exact plain_words sub h o4 w hw
theorem sum_le {B : Nat} : ∀ {ws : List Str},(∀ w ∈ ws,w.length ≤ B)→(ws.map (·.length)).sum ≤ ws.length * B
  | [],_=>by simp
  | w :: ws,h=>by
    have:=sum_le (ws:=ws) fun x hx=>h x (List.mem_cons_of_mem _ hx)
    have:=h w (List.mem_cons_self ..)
    simp only [List.map_cons,List.sum_cons,List.length_cons,Nat.succ_mul]
    omega
theorem join_len {c B : Nat} {ws : List Str} (h : ∀ w ∈ ws,w.length ≤ B) : (Txt.join ⟨#[c]⟩ ws).length ≤ ws.length * B + ws.length:=by
  have e0 : Txt.join ⟨#[c]⟩ ws = Str.join ⟨#[c]⟩ ws:=StrLaws.glued_eq_join _ _
  rw [e0]
  have h1:=StrLaws.join_length_le ⟨#[c]⟩ ws
  have h2:=sum_le h
  have e : (⟨#[c]⟩ : Str).length = 1:=rfl
  rw [e] at h1
  omega
theorem join_ok {c B : Nat} {ws : List Str} (h : ∀ w ∈ ws,w.length ≤ B) (hz : ws.length * B + ws.length ≤ 100000) : JoinOk ⟨#[c]⟩ ws = true:=by
  unfold JoinOk
  rw [StrLaws.joinTotal,Bool.not_eq_true']
  have h2:=sum_le h
  have e : (⟨#[c]⟩ : Str).length = 1:=rfl
  rw [e]
  unfold Builtin.Str.tooLong
  have e2 : sizeLine = 16777216:=rfl
  rw [decide_eq_false_iff_not,e2,Nat.mul_one]
  omega
theorem mem_flat {c d : Nat} : ∀ {ws : List (List Nat)},d ∈ flat c ws→d = c∨∃ w ∈ ws,d ∈ w
  | [],h=>by cases h
  | [x],h=>.inr ⟨x,List.mem_singleton.mpr rfl,h⟩
  | x :: y :: r,h=>by
    have h : d ∈ x ++ c :: flat c (y :: r):=h
    rcases List.mem_append.mp h with h | h
    · exact .inr ⟨x,List.mem_cons_self ..,h⟩
    rcases List.mem_cons.mp h with h | h
    · exact .inl h
    · rcases mem_flat h with h | ⟨w,hw,h⟩
      · exact .inl h
      · exact .inr ⟨w,List.mem_cons_of_mem _ hw,h⟩
theorem mem_join {c d : Nat} {ws : List Str} (h : d ∈ (Txt.join ⟨#[c]⟩ ws).cps.toList) : d = c∨∃ w ∈ ws,d ∈ w.cps.toList:=by
  have e0 : Txt.join ⟨#[c]⟩ ws = Str.join ⟨#[c]⟩ ws:=StrLaws.glued_eq_join _ _
  rw [e0,join_flat] at h
  rcases mem_flat h with h | ⟨w,hw,h⟩
  · exact .inl h
  · obtain ⟨p,hp,rfl⟩:=List.mem_map.mp hw
    exact .inr ⟨p,hp,h⟩
def rowT (first : Str) (e : Ex) : Str:=Txt.join " " (first :: e.words)
def progT (e1 e2 e3 e4 : Ex) : Str:=Txt.join "\n" [rowT "start" e1,rowT "send" e2,rowT "when" e3,rowT "reckon" e4]
theorem blank_one : (" " : Str) = ⟨#[32]⟩:=by decide +kernel
theorem feed_one : ("\n" : Str) = ⟨#[10]⟩:=by decide +kernel
structure Rdb (e : Ex) : Prop where
  pl : ∀ w ∈ e.words,Plain w
  rd : ∀ st,e.words.foldr rdO (some st) = some (e :: st)
  sz : e.size ≤ 60
theorem rdb_of {names : List Str} (sub : ∀ x ∈ names,x ∈ allNs) {e : Ex} (o : e.ok names) (z : e.size ≤ 60) : Rdb e:=⟨plain_words sub e o,rd_words sub e o,z⟩
section
variable {first : Str} {e : Ex} (hf : first ∈ rowWs) (h : Rdb e)
include hf h
theorem row_plain : ∀ w ∈ first :: e.words,Plain w:=fun w hw=>by
  rcases List.mem_cons.mp hw with rfl | hw
  · exact plain_row _ hf
  · exact h.pl w hw
theorem row_cnt : (first :: e.words).length ≤ 61:=by
  have:=h.sz
  rw [List.length_cons,e.words_len]
  omega
theorem row_ok : JoinOk " " (first :: e.words) = true:=by
  rw [blank_one]
  have:=row_cnt hf h
  exact join_ok (B:=21) (fun w hw=>(row_plain hf h w hw).2) (by omega)
theorem row_len : (rowT first e).length ≤ 1342:=by
  unfold rowT
  rw [blank_one]
  have:=row_cnt hf h
  have:=join_len (c:=32) (B:=21) (fun w hw=>(row_plain hf h w hw).2)
  omega
theorem row_split : Txt.split (rowT first e) " " = first :: e.words:=by
  unfold rowT
  rw [blank_one]
  exact split_join (by simp) fun w hw z=>by have:=(row_plain hf h w hw).1 _ z; omega
theorem row_nofeed : 10 ∉ (rowT first e).cps.toList:=by
  unfold rowT
  rw [blank_one]
  intro z
  rcases mem_join z with z | ⟨w,hw,z⟩
  · cases z
  · have:=(row_plain hf h w hw).1 _ z
    omega
end
section
variable {e1 e2 e3 e4 : Ex} (h1 : Rdb e1) (h2 : Rdb e2) (h3 : Rdb e3) (h4 : Rdb e4)
include h1 h2 h3 h4
theorem rows_len : ∀ w ∈ [rowT "start" e1,rowT "send" e2,rowT "when" e3,rowT "reckon" e4],w.length ≤ 1342:=fun w hw=>by
  simp only [List.mem_cons,List.not_mem_nil,or_false] at hw
  rcases hw with rfl | rfl | rfl | rfl
  · exact row_len (by simp) h1
  · exact row_len (by simp) h2
  · exact row_len (by simp) h3
  · exact row_len (by simp) h4
theorem prog_ok : JoinOk "\n" [rowT "start" e1,rowT "send" e2,rowT "when" e3,rowT "reckon" e4] = true:=by
  rw [feed_one]
  exact join_ok (rows_len h1 h2 h3 h4) (by simp)
theorem prog_len : (progT e1 e2 e3 e4).length ≤ 5372:=by
  unfold progT
  rw [feed_one]
  have:=join_len (c:=10) (rows_len h1 h2 h3 h4)
  simpa using this
theorem prog_split : Txt.split (progT e1 e2 e3 e4) "\n" = [rowT "start" e1,rowT "send" e2,rowT "when" e3,rowT "reckon" e4]:=by
  unfold progT
  rw [feed_one]
  refine split_join (by simp) fun w hw=>?_
  simp only [List.mem_cons,List.not_mem_nil,or_false] at hw
  rcases hw with rfl | rfl | rfl | rfl
  · exact row_nofeed (by simp) h1
  · exact row_nofeed (by simp) h2
  · exact row_nofeed (by simp) h3
  · exact row_nofeed (by simp) h4
end
end K04

namespace K04
open PySem L2 PySem.NumText PySem.W.KIN
theorem cl_app (x y : Str) : (x ++ y).cps.toList = x.cps.toList ++ y.cps.toList:=by rw [Str.cps_append,Array.toList_append]
theorem fold_app : ∀ (n : Nat) (z y : Array Nat),((List.replicate n y).foldl (· ++ ·) z).toList = z.toList ++ (List.replicate n y.toList).flatten
  | 0,z,y=>by simp
  | n + 1,z,y=>by
    rw [List.replicate_succ,List.foldl_cons,fold_app n (z ++ y) y,List.replicate_succ]
    simp
theorem cl_mul (x : Str) (n : Nat) : (Txt.mul x n).cps.toList = (List.replicate n x.cps.toList).flatten:=by
  unfold Txt.mul
  by_cases h1 : (n : Int) < 1
  · have : n = 0:=by omega
    subst this
    rw [if_pos h1]
    rfl
  · rw [if_neg h1]
    by_cases h2 : ((n : Int) == 1 || x.length == 0) = true
    · rw [if_pos h2]
      rcases Bool.or_eq_true_iff.mp h2 with h | h
      · have : n = 1:=by have:=beq_iff_eq.mp h; omega
        subst this
        simp
      · have h : x.cps.toList = []:=by
          have : x.cps.size = 0:=beq_iff_eq.mp h
          exact List.eq_nil_of_length_eq_zero (by rw [Array.length_toList]; exact this)
        rw [h]
        symm
        rw [List.flatten_eq_nil_iff]
        intro l hl
        exact (List.mem_replicate.mp hl).2
    · rw [if_neg h2]
      show ((List.replicate (n : Int).toNat x.cps).foldl (· ++ ·) #[]).toList = _
      rw [fold_app]
      simp
theorem cl_join (ws : List Str) : (Txt.join " " ws).cps.toList = flat 32 (ws.map (·.cps.toList)):=by
  rw [blank_one]
  have e0 : Txt.join ⟨#[32]⟩ ws = Str.join ⟨#[32]⟩ ws:=StrLaws.glued_eq_join _ _
  rw [e0,join_flat]
theorem cl_len (x : Str) : x.cps.toList.length = x.length:=Array.length_toList
theorem slice22 (x : Str) : (Txt.slice x none (some 22)).cps.toList = x.cps.toList.take 22:=by
  by_cases h : x.length ≤ 22
  · rw [slice_to22 h,List.take_of_length_le (by rw [cl_len]; exact h)]
  · have e:=eq_of_beq (PyProof.Rows.slice_closes_toL (x:=x) (j:=22) (by omega) (by omega))
    rw [show (some 22 : Option Int) = some ((22 : Nat) : Int) from rfl] at e ⊢
    rw [e]
    show ((x.cps.toList.drop 0).take _) = _
    rw [List.drop_zero]
    rfl
theorem fig_all {l : List Nat} (h : l.all isFig = true) : AllDigits l:=fun c hc=>by
  have:=List.all_eq_true.mp h c hc
  have:=of_decide_eq_true this
  have e : ("0123456789" : Str).cps.toList = [48,49,50,51,52,53,54,55,56,57]:=by decide +kernel
  rw [e] at this
  simp only [List.mem_cons,List.not_mem_nil,or_false] at this
  omega
def numG (w : Str) : Int:=(intText? (Txt.slice w none (some 22))).getD 0
theorem num_reads {x : Str} (h : numW x = true) : intText? (Txt.slice x none (some 22)) = some (numG x):=by
  have key : ∃ n,intText? (Txt.slice x none (some 22)) = some n:=by
    unfold numW at h
    rw [Bool.and_eq_true] at h
    obtain ⟨h1,h2⟩:=h
    have d1:=fig_all h1
    have hl : (Txt.slice x none (some 22)).length ≤ 22:=by
      rw [← cl_len,slice22]
      exact Nat.le_trans (List.length_take_le _ _) (Nat.le_refl _)
    have ne : figsOf x ≠ "" := by
      unfold tailW at h2
      rw [Bool.and_eq_true] at h2
      exact of_decide_eq_true h2.1
    have ne' : (figsOf x).cps.toList ≠ []:=fun z=>ne (str_ext (by rw [z]; decide +kernel))
    by_cases q : Txt.startswith x "-" = true
    · have q':=q
      rw [minus_one,starts_one,decide_eq_true_eq] at q'
      cases e : x.cps.toList with
      | nil=>rw [e] at q'; cases q'
      | cons c r =>
        rw [e] at q'
        have hc : c = 45:=Option.some.inj q'
        subst hc
        have ef : (figsOf x).cps.toList = r:=by
          unfold figsOf
          rw [if_pos q]
          exact slice_from1 e
        rw [ef] at d1 ne'
        refine ⟨_,intText_neg (cs:=r.take 21) ?_ (fun c hc=>d1 c (List.mem_of_mem_take hc)) ?_ (by omega)⟩
        · rw [slice22,e]
          rfl
        · intro z
          cases r with
          | nil=>exact ne' rfl
          | cons a b=>cases z
    · have ef : figsOf x = x:=by
        unfold figsOf
        exact if_neg q
      rw [ef] at d1 ne'
      refine ⟨_,intText_digits (x:=Txt.slice x none (some 22)) ?_ ?_ (by omega)⟩
      · rw [slice22]
        exact fun c hc=>d1 c (List.mem_of_mem_take hc)
      · rw [slice22]
        intro z
        cases hx : x.cps.toList with
        | nil=>exact ne' hx
        | cons a b=>rw [hx] at z; cases z
  obtain ⟨n,e⟩:=key
  unfold numG
  rw [e]
  rfl
def stepG (w : Str) (es : List Ex) : Option (List Ex) :=
  if inV (.str w) (allNs.map V.str) = true then some (.name w :: es)
  else if numW w = true then some (.num (numG w) :: es)
  else if w = "less" then lessR es
  else if w = "mod" then modR es
  else if w ∈ twoWs then twoR w es
  else none
theorem step_g {w : Str} {es es' : List Ex} (h : stepR w es = some es') : stepG w es = some es':=by
  unfold stepR at h
  unfold stepG
  split at h
  · rename_i h1
    rw [if_pos h1]
    exact h
  · rename_i h1
    rw [if_neg h1]
    split at h
    · rename_i h2
      rw [if_pos h2]
      unfold numR at h
      split at h
      · rename_i n hn
        split at h
        · rename_i hl
          rw [← h]
          unfold numG
          rw [slice_to22 hl,hn]
          rfl
        · cases h
      · cases h
    · rename_i h2
      rw [if_neg h2]
      exact h
def rdG (w : Str) (acc : Option (List Ex)) : Option (List Ex):=acc.bind (stepG w)
theorem rdG_none : ∀ ws : List Str,ws.foldr rdG none = none
  | []=>rfl
  | w :: ws=>by
    show rdG w (ws.foldr rdG none) = none
    rw [rdG_none ws]; rfl
theorem rd_g : ∀ {ws : List Str} {st es : List Ex},ws.foldr rdO (some st) = some es→ws.foldr rdG (some st) = some es
  | [],_,_,h=>h
  | w :: ws,st,es,h=>by
    have h : rdO w (ws.foldr rdO (some st)) = some es:=h
    show rdG w (ws.foldr rdG (some st)) = some es
    cases e : ws.foldr rdO (some st) with
    | none=>rw [e] at h; cases h
    | some m =>
      rw [e] at h
      rw [rd_g e]
      exact step_g h
def oneG : Option (List Ex)→Option Ex
  | some [e]=>some e
  | _=>none
def readG (ws : List Str) : Option Ex:=oneG (ws.foldr rdG (some []))
def rowG (first row : Str) : Option Ex:=match Txt.split row " " with
  | w :: ws=>if w = first then readG ws else none
  | []=>none
theorem rowG_of {first row : Str} {ws : List Str} (h : Txt.split row " " = first :: ws) : rowG first row = readG ws:=by
  unfold rowG
  rw [h]
  exact if_pos rfl
theorem rowG_T {first : Str} {e : Ex} (hf : first ∈ rowWs) (h : Rdb e) : rowG first (rowT first e) = some e:=by
  rw [rowG_of (row_split hf h)]
  unfold readG
  rw [rd_g (h.rd [])]
  rfl
theorem stepG_cases {w : Str} {es : List Ex} (h1 : inV (.str w) (allNs.map V.str) = false) (h2 : numW w = false) :
    (tabV partsD w = none∧stepG w es = none)∨(w = "less" ∧ stepG w es = lessR es)∨(w = "mod" ∧ stepG w es = modR es)∨(TwoW w∧stepG w es = twoR w es):=by
  unfold stepG
  rw [if_neg (by rw [h1]; simp),if_neg (by rw [h2]; simp)]
  by_cases h3 : w = "less"
  · exact .inr (.inl ⟨h3,if_pos h3⟩)
  rw [if_neg h3]
  by_cases h4 : w = "mod"
  · exact .inr (.inr (.inl ⟨h4,if_pos h4⟩))
  rw [if_neg h4]
  by_cases h5 : w ∈ twoWs
  · exact .inr (.inr (.inr ⟨by simpa using h5,if_pos h5⟩))
  · refine .inl ⟨?_,if_neg h5⟩
    cases e : tabV partsD w with
    | none=>rfl
    | some i =>
      rcases tab_some e with h | h | h
      · exact absurd h h3
      · exact absurd h h4
      · exact absurd (by simpa using h) h5
theorem stepG_rest {w : Str} {es es' : List Ex} (h : stepG w es = some es') : ∃ e',es' = e' :: es.drop ((tabV partsD w).getD 0).toNat:=by
  by_cases h1 : inV (.str w) (allNs.map V.str) = true
  · unfold stepG at h
    rw [if_pos h1] at h
    cases h
    exact ⟨_,by rw [tab_none (.inl h1)]; rfl⟩
  by_cases h2 : numW w = true
  · unfold stepG at h
    rw [if_neg h1,if_pos h2] at h
    cases h
    exact ⟨_,by rw [tab_none (.inr h2)]; rfl⟩
  rcases stepG_cases (es:=es) (Bool.eq_false_iff.mpr h1) (Bool.eq_false_iff.mpr h2) with ⟨_,e⟩ | ⟨rfl,e⟩ | ⟨rfl,e⟩ | ⟨t,e⟩
  · rw [e] at h; cases h
  · rw [e] at h
    match es,h with
    | e1 :: e2 :: e3 :: e4 :: r,h=>cases h; exact ⟨_,by rw [less_no.2.2]; rfl⟩
  · rw [e] at h
    match es,h with
    | e1 :: .num n :: r,h=>cases h; exact ⟨_,by rw [mod_no.2.2]; rfl⟩
  · rw [e] at h
    match es,h with
    | e1 :: e2 :: r,h=>cases h; exact ⟨_,by rw [(two_noR t).2.2]; rfl⟩
end K04

namespace K04
open PySem L2 PySem.NumText PySem.W.KIN
theorem flat_app {c : Nat} : ∀ {us vs : List (List Nat)},us ≠ []→vs ≠ []→flat c (us ++ vs) = flat c us ++ c :: flat c vs
  | [u],v :: vs,_,_=>rfl
  | u :: u' :: us,v :: vs,_,h=>by
    show u ++ c :: flat c (u' :: us ++ v :: vs) = (u ++ c :: flat c (u' :: us)) ++ c :: flat c (v :: vs)
    rw [flat_app (us:=u' :: us) (by simp) h]
    simp
theorem blank_cl : (" " : Str).cps.toList = [32]:=by decide +kernel
theorem join_app {us vs : List Str} (hu : us ≠ []) (hv : vs ≠ []) : Txt.join " " us ++ " " ++ Txt.join " " vs = Txt.join " " (us ++ vs):=by
  apply str_ext
  rw [cl_app,cl_app,cl_join,cl_join,cl_join,List.map_append,flat_app (by simpa using hu) (by simpa using hv),blank_cl]
  simp
theorem join_one (x : Str) : Txt.join " " [x] = x:=by
  apply str_ext
  rw [cl_join]
  rfl
theorem join_mul {p : Str} {us : List Str} (hu : us ≠ []) (hp : p = Txt.join " " us ++ " ") : ∀ n : Nat,(Txt.mul p ((n + 1 : Nat) : Int)) = Txt.join " " (List.replicate (n + 1) us).flatten ++ " " := by
  intro n
  apply str_ext
  rw [cl_mul,cl_app,cl_join,blank_cl]
  have e : p.cps.toList = flat 32 (us.map (·.cps.toList)) ++ [32]:=by rw [hp,cl_app,cl_join,blank_cl]
  induction n with
  | zero =>
    simp [e]
  | succ n ih =>
    have hr : ((List.replicate (n + 1) us).flatten).map (·.cps.toList) ≠ []:=by
      rw [List.replicate_succ,List.flatten_cons,List.map_append]
      intro z
      have:=(List.append_eq_nil_iff.mp z).1
      exact hu (by simpa using this)
    rw [List.replicate_succ,List.flatten_cons,ih,List.replicate_succ (n:=n + 1),List.flatten_cons,List.map_append,flat_app (by simpa using hu) hr,e]
    simp
theorem join_behind {x y : Str} {q : Str} (hq : q = " " ++ y) : ∀ n : Nat,x ++ Txt.mul q (n : Int) = Txt.join " " (x :: List.replicate n y):=by
  intro n
  apply str_ext
  rw [cl_app,cl_mul,cl_join,hq,cl_app,blank_cl]
  induction n generalizing x with
  | zero=>simp [flat]
  | succ n ih =>
    have ih:=ih (x:=y)
    rw [List.replicate_succ,List.flatten_cons,List.replicate_succ]
    show x.cps.toList ++ ([32] ++ y.cps.toList ++ _) = x.cps.toList ++ 32 :: flat 32 ((y :: List.replicate n y).map (·.cps.toList))
    rw [← ih]
    simp
theorem rdG_app (us vs : List Str) : readG (us ++ vs) = oneG (us.foldr rdG (vs.foldr rdG (some []))):=by
  unfold readG
  rw [List.foldr_append]
theorem rdG_some (w : Str) (l : List Ex) : rdG w (some l) = stepG w l:=rfl
theorem sg_name {x : Str} (h : x ∈ allNs) (st : List Ex) : stepG x st = some (.name x :: st):=by
  unfold stepG
  exact if_pos (inV_str.mpr h)
theorem sg_num {x : Str} (h1 : inV (.str x) (allNs.map V.str) = false) (h2 : numW x = true) (st : List Ex) : stepG x st = some (.num (numG x) :: st):=by
  unfold stepG
  rw [if_neg (by rw [h1]; simp),if_pos h2]
theorem sg_less (e1 e2 e3 e4 : Ex) (r : List Ex) : stepG "less" (e1 :: e2 :: e3 :: e4 :: r) = some (.less e1 e2 e3 e4 :: r):=step_g (step_less e1 e2 e3 e4 r)
theorem sg_mod (e1 : Ex) (n : Int) (r : List Ex) : stepG "mod" (e1 :: .num n :: r) = some (.mod e1 n :: r):=step_g (step_mod e1 n r)
theorem sg_two {w : Str} (h : TwoW w) (e1 e2 : Ex) (r : List Ex) : stepG w (e1 :: e2 :: r) = some (.two w e1 e2 :: r):=step_g (step_two h e1 e2 r)
structure Fg (x : Str) (n : Int) : Prop where
  no : inV (.str x) (allNs.map V.str) = false
  nw : numW x = true
  v : numG x = n
theorem Fg.st {x : Str} {n : Int} (h : Fg x n) (st : List Ex) : stepG x st = some (.num n :: st):=by rw [sg_num h.no h.nw,h.v]
theorem fg1 : Fg "1" 1:=⟨by decide +kernel,by decide +kernel,by decide +kernel⟩
theorem fg2 : Fg "2" 2:=⟨by decide +kernel,by decide +kernel,by decide +kernel⟩
theorem fg3 : Fg "3" 3:=⟨by decide +kernel,by decide +kernel,by decide +kernel⟩
theorem fg5 : Fg "5" 5:=⟨by decide +kernel,by decide +kernel,by decide +kernel⟩
theorem fg0 : Fg "0" 0:=⟨by decide +kernel,by decide +kernel,by decide +kernel⟩
theorem fgm7 : Fg "-7" (-7):=⟨by decide +kernel,by decide +kernel,by decide +kernel⟩
theorem fgbig : Fg "1000000001" 1000000001:=⟨by decide +kernel,by decide +kernel,by decide +kernel⟩
def Wd (w : Str) : Prop:=(∀ c ∈ w.cps.toList,33 ≤ c∧c < 127)∧w.length ≤ 70
def wdB (w : Str) : Bool:=w.cps.toList.all (fun c=>decide (33 ≤ c∧c < 127)) && decide (w.length ≤ 70)
theorem wd_of {w : Str} (h : wdB w = true) : Wd w:=by
  unfold wdB at h
  rw [Bool.and_eq_true,List.all_eq_true] at h
  exact ⟨fun c hc=>of_decide_eq_true (h.1 c hc),of_decide_eq_true h.2⟩
def namesAt (at_ : Nat) : List Str:=(([["me", "lines"],["worth", "me", "round", "lines", "to"],["worth", "me", "round", "lines", "to"],["worth", "me", "round", "lines", "sum", "least", "most", "count"]] : List (List Str))[at_]?).getD []
structure OddOk (at_ : Nat) (odd : Str) : Prop where
  ex : ∃ ws e,odd = Txt.join " " ws∧ws ≠ []∧(∀ w ∈ ws,Wd w)∧ws.length ≤ 400∧readG ws = some e∧¬ (e.ok (namesAt at_)∧e.dep ≤ 8)
section
variable {at_ : Nat} {word great : Str} {g : Int}
theorem wd_cons {w : Str} {ws : List Str} (h : Wd w) (t : ∀ x ∈ ws,Wd x) : ∀ x ∈ w :: ws,Wd x:=fun x hx=>by
  rcases List.mem_cons.mp hx with rfl | hx
  · exact h
  · exact t x hx
theorem wd_nil : ∀ x ∈ ([] : List Str),Wd x:=fun x hx=>by cases hx
theorem odd0 (h : word ∈ allNs) (hw : Wd word) (hn : word ∉ namesAt at_) : OddOk at_ word :=
  ⟨[word],.name word,(join_one word).symm,by simp,wd_cons hw wd_nil,by simp,by
    show oneG (rdG word (some [])) = _
    rw [rdG_some,sg_name h]; rfl,fun z=>hn z.1⟩
theorem odd1 (h : word ∈ allNs) (hw : Wd word) (hn : word ∉ namesAt at_) : OddOk at_ ("add 1 " ++ word) :=
  ⟨["add", "1",word],.two "add" (.num 1) (.name word),by
    rw [show ("add 1 " : Str) = Txt.join " " ["add", "1"] ++ " " by decide +kernel]
    conv=>lhs; rw [← join_one word]
    exact join_app (by simp) (by simp),by simp,wd_cons (wd_of (by decide +kernel)) (wd_cons (wd_of (by decide +kernel)) (wd_cons hw wd_nil)),by simp,by
    show oneG (rdG "add" (rdG "1" (rdG word (some [])))) = _
    rw [rdG_some,sg_name h,rdG_some,fg1.st,rdG_some,sg_two (.inl rfl)]; rfl,fun z=>hn z.1.2.2⟩
theorem odd2 (h : word ∈ allNs) (hw : Wd word) (hn : word ∉ namesAt at_) : OddOk at_ ("less 1 2 3 " ++ word) :=
  ⟨["less", "1", "2", "3",word],.less (.num 1) (.num 2) (.num 3) (.name word),by
    rw [show ("less 1 2 3 " : Str) = Txt.join " " ["less", "1", "2", "3"] ++ " " by decide +kernel]
    conv=>lhs; rw [← join_one word]
    exact join_app (by simp) (by simp),by simp,wd_cons (wd_of (by decide +kernel)) (wd_cons (wd_of (by decide +kernel)) (wd_cons (wd_of (by decide +kernel)) (wd_cons (wd_of (by decide +kernel)) (wd_cons hw wd_nil)))),by simp,by
    show oneG (rdG "less" (rdG "1" (rdG "2" (rdG "3" (rdG word (some [])))))) = _
    rw [rdG_some,sg_name h,rdG_some,fg3.st,rdG_some,fg2.st,rdG_some,fg1.st,rdG_some,sg_less]; rfl,fun z=>hn z.1.2.2.2⟩
theorem odd3 (h : word ∈ allNs) (hw : Wd word) (hn : word ∉ namesAt at_) : OddOk at_ ("mod " ++ word ++ " 5") :=
  ⟨["mod",word, "5"],.mod (.name word) 5,by
    rw [show ("mod " : Str) = Txt.join " " ["mod"] ++ " " by decide +kernel,show (" 5" : Str) = " " ++ Txt.join " " ["5"] by decide +kernel]
    conv=>lhs; rw [← join_one word]
    rw [join_app (by simp) (by simp)]
    apply str_ext
    have e:=congrArg (fun x : Str=>x.cps.toList) (join_app (us:=["mod",word]) (vs:=["5"]) (by simp) (by simp))
    simp only [cl_app] at e ⊢
    rw [← List.append_assoc]
    exact e,by simp,wd_cons (wd_of (by decide +kernel)) (wd_cons hw (wd_cons (wd_of (by decide +kernel)) wd_nil)),by simp,by
    show oneG (rdG "mod" (rdG word (rdG "5" (some [])))) = _
    rw [rdG_some,fg5.st,rdG_some,sg_name h,rdG_some,sg_mod]; rfl,fun z=>hn z.1.2⟩
theorem odd4 (hg : Fg great g) (hw : Wd great) (hn : ¬ Short g) : OddOk at_ great :=
  ⟨[great],.num g,(join_one great).symm,by simp,wd_cons hw wd_nil,by simp,by
    show oneG (rdG great (some [])) = _
    rw [rdG_some,hg.st]; rfl,fun z=>hn z.1⟩
theorem odd5 (hg : Fg great g) (hw : Wd great) (hn : ¬ Short g) : OddOk at_ ("max " ++ great ++ " 1") :=
  ⟨["max",great, "1"],.two "max" (.num g) (.num 1),by
    rw [show ("max " : Str) = Txt.join " " ["max"] ++ " " by decide +kernel,show (" 1" : Str) = " " ++ Txt.join " " ["1"] by decide +kernel]
    conv=>lhs; rw [← join_one great]
    rw [join_app (by simp) (by simp)]
    apply str_ext
    have e:=congrArg (fun x : Str=>x.cps.toList) (join_app (us:=["max",great]) (vs:=["1"]) (by simp) (by simp))
    simp only [cl_app] at e ⊢
    rw [← List.append_assoc]
    exact e,by simp,wd_cons (wd_of (by decide +kernel)) (wd_cons hw (wd_cons (wd_of (by decide +kernel)) wd_nil)),by simp,by
    show oneG (rdG "max" (rdG great (rdG "1" (some [])))) = _
    rw [rdG_some,fg1.st,rdG_some,hg.st,rdG_some,sg_two (.inr (.inr (.inr rfl)))]; rfl,fun z=>hn z.1.2.1⟩
theorem odd6 {x : Str} {n : Int} (hx : Fg x n) (hw : Wd x) (hn : ¬ (1 ≤ n∧n ≤ 1000000000)) (y : Str) (hy : y = Txt.join " " ["mod", "5",x]) : OddOk at_ y :=
  ⟨["mod", "5",x],.mod (.num 5) n,hy,by simp,wd_cons (wd_of (by decide +kernel)) (wd_cons (wd_of (by decide +kernel)) (wd_cons hw wd_nil)),by simp,by
    show oneG (rdG "mod" (rdG "5" (rdG x (some [])))) = _
    rw [rdG_some,hx.st,rdG_some,fg5.st,rdG_some,sg_mod]; rfl,fun z=>hn z.1.1⟩
theorem odd9 (hg : Fg great g) (hw : Wd great) (hn : ¬ Short g) : OddOk at_ ("min 1 mod 5 " ++ great) :=
  ⟨["min", "1", "mod", "5",great],.two "min" (.num 1) (.mod (.num 5) g),by
    rw [show ("min 1 mod 5 " : Str) = Txt.join " " ["min", "1", "mod", "5"] ++ " " by decide +kernel]
    conv=>lhs; rw [← join_one great]
    exact join_app (by simp) (by simp),by simp,wd_cons (wd_of (by decide +kernel)) (wd_cons (wd_of (by decide +kernel)) (wd_cons (wd_of (by decide +kernel)) (wd_cons (wd_of (by decide +kernel)) (wd_cons hw wd_nil)))),by simp,by
    show oneG (rdG "min" (rdG "1" (rdG "mod" (rdG "5" (rdG great (some [])))))) = _
    rw [rdG_some,hg.st,rdG_some,fg5.st,rdG_some,sg_mod,rdG_some,fg1.st,rdG_some,sg_two (.inr (.inr (.inl rfl)))]; rfl,fun z=>hn ⟨by have:=z.1.2.2.1; omega,by have:=z.1.2.2.1; omega⟩⟩
def twoN (w : Str) (e : Ex) : Nat→Ex
  | 0=>e
  | n + 1=>.two w (.num 1) (twoN w e n)
theorem twoN_dep (w : Str) (e : Ex) : ∀ n,n + 1 ≤ (twoN w e n).dep
  | 0=>e.dep_pos
  | n + 1=>by
    show n + 2 ≤ max _ (twoN w e n).dep + 1
    have:=twoN_dep w e n
    omega
theorem rd_twoN {w : Str} (hw : TwoW w) (e : Ex) (st : List Ex) : ∀ n,((List.replicate n [w, "1"]).flatten).foldr rdG (some (e :: st)) = some (twoN w e n :: st)
  | 0=>rfl
  | n + 1=>by
    rw [List.replicate_succ,List.flatten_cons,List.foldr_append,rd_twoN hw e st n]
    show rdG w (stepG "1" _) = _
    rw [fg1.st]
    exact sg_two hw _ _ _
theorem mem_rep {w : Str} {us : List Str} {n : Nat} (h : w ∈ (List.replicate n us).flatten) : w ∈ us:=by
  obtain ⟨l,hl,hw⟩:=List.mem_flatten.mp h
  rw [(List.mem_replicate.mp hl).2] at hw
  exact hw
theorem len_rep (us : List Str) : ∀ n,(List.replicate n us).flatten.length = n * us.length
  | 0=>by simp
  | n + 1=>by
    rw [List.replicate_succ,List.flatten_cons,List.length_append,len_rep us n,Nat.succ_mul]
    omega
theorem oddT {w p last : Str} {k : Int} (hw : TwoW w) (hww : Wd w) (hp : p = Txt.join " " [w, "1"] ++ " ") (hl : Fg last k) (hlw : Wd last) (n : Nat) (h8 : 8 ≤ n + 1) (h200 : n + 1 ≤ 199) : OddOk at_ (Txt.mul p ((n + 1 : Nat) : Int) ++ last) :=
  ⟨(List.replicate (n + 1) [w, "1"]).flatten ++ [last],twoN w (.num k) (n + 1),by
    rw [join_mul (by simp) hp n]
    conv=>lhs; rw [← join_one last]
    exact join_app (by rw [List.replicate_succ]; simp) (by simp),by simp,fun x hx=>by
      rcases List.mem_append.mp hx with hx | hx
      · rcases List.mem_cons.mp (mem_rep hx) with rfl | hx
        · exact hww
        · rw [List.mem_singleton.mp hx]; exact wd_of (by decide +kernel)
      · rw [List.mem_singleton.mp hx]; exact hlw,by
      rw [List.length_append,len_rep]
      simp
      omega,by
      rw [rdG_app]
      show oneG (List.foldr rdG (stepG last []) _) = _
      rw [hl.st,rd_twoN hw]
      rfl,fun z=>by have:=twoN_dep w (.num k) (n + 1); have:=z.2; omega⟩
def modN (e : Ex) : Nat→Ex
  | 0=>e
  | n + 1=>.mod (modN e n) 2
theorem modN_dep (e : Ex) : ∀ n,n + 1 ≤ (modN e n).dep
  | 0=>e.dep_pos
  | n + 1=>by
    show n + 2 ≤ (modN e n).dep + 1
    have:=modN_dep e n
    omega
theorem rd_modN (e : Ex) : ∀ k m,(List.replicate k ("mod" : Str)).foldr rdG (some (e :: List.replicate (k + m) (.num 2))) = some (modN e k :: List.replicate m (.num 2))
  | 0,m=>by simp [modN]
  | k + 1,m=>by
    rw [List.replicate_succ]
    show rdG "mod" ((List.replicate k ("mod" : Str)).foldr rdG (some (e :: List.replicate (k + 1 + m) (.num 2)))) = _
    rw [show k + 1 + m = k + (m + 1) by omega,rd_modN e k (m + 1)]
    exact sg_mod _ _ _
theorem rd_twos : ∀ n,(List.replicate n ("2" : Str)).foldr rdG (some []) = some (List.replicate n (.num 2))
  | 0=>rfl
  | n + 1=>by
    rw [List.replicate_succ]
    show rdG "2" ((List.replicate n ("2" : Str)).foldr rdG (some [])) = _
    rw [rd_twos n]
    exact fg2.st _
theorem oddM (n : Nat) (h8 : 8 ≤ n + 1) (h200 : n + 1 ≤ 199) : OddOk at_ (Txt.mul "mod " ((n + 1 : Nat) : Int) ++ "1" ++ Txt.mul " 2" ((n + 1 : Nat) : Int)) :=
  ⟨List.replicate (n + 1) ("mod" : Str) ++ ("1" : Str) :: List.replicate (n + 1) ("2" : Str),modN (.num 1) (n + 1),by
    have e1:=join_mul (p := "mod ") (us:=["mod"]) (by simp) (by decide +kernel) n
    have e2:=join_behind (x := "1") (y := "2") (q := " 2") (by decide +kernel) (n + 1)
    have e3 : (List.replicate (n + 1) (["mod"] : List Str)).flatten = List.replicate (n + 1) ("mod" : Str):=by
      induction n + 1 with
      | zero=>rfl
      | succ m ih=>rw [List.replicate_succ,List.flatten_cons,ih]; rfl
    rw [e3] at e1
    apply str_ext
    have e4:=congrArg (fun x : Str=>x.cps.toList) (join_app (us:=List.replicate (n + 1) ("mod" : Str)) (vs:=("1" : Str) :: List.replicate (n + 1) ("2" : Str)) (by rw [List.replicate_succ]; simp) (by simp))
    rw [← e2] at e4
    rw [e1]
    simp only [cl_app] at e4 ⊢
    rw [← e4]
    simp,by simp,fun x hx=>by
      rcases List.mem_append.mp hx with hx | hx
      · rw [(List.mem_replicate.mp hx).2]; exact wd_of (by decide +kernel)
      · rcases List.mem_cons.mp hx with rfl | hx
        · exact wd_of (by decide +kernel)
        · rw [(List.mem_replicate.mp hx).2]; exact wd_of (by decide +kernel),by
      simp
      omega,by
      rw [rdG_app]
      show oneG (List.foldr rdG (rdG "1" ((List.replicate (n + 1) ("2" : Str)).foldr rdG (some []))) _) = _
      rw [rd_twos]
      show oneG (List.foldr rdG (stepG "1" _) _) = _
      rw [fg1.st,rd_modN (.num 1) (n + 1) 0]
      rfl,fun z=>by have:=modN_dep (.num 1) (n + 1); have:=z.2; omega⟩
end
end K04

namespace K04
open PySem L2
def top (i : Nat) : Stmt:=PySem.Challenge.pw_beatless_k11_texts_of_no_program.main.body.getD i (.Pass ⟨0,0,0,0⟩)
abbrev st_qa : Stmt:=top 14
abbrev st_qb : Stmt:=top 26
abbrev st_qc : Stmt:=top 27
abbrev st_qd : Stmt:=top 28
abbrev st_qe : Stmt:=top 29
abbrev st_qf : Stmt:=top 30
abbrev st_qg : Stmt:=top 31
abbrev st_qh : Stmt:=top 33
abbrev st_qi : Stmt:=top 34
abbrev st_qj : Stmt:=top 35
abbrev st_qk : Stmt:=top 36
abbrev st_ql : Stmt:=top 37
abbrev st_qm : Stmt:=top 38
abbrev st_qn : Stmt:=top 39
abbrev st_qo : Stmt:=top 41
abbrev st_qp : Stmt:=top 42
abbrev st_qq : Stmt:=top 43
abbrev st_qr : Stmt:=top 44
abbrev st_qs : Stmt:=top 45
abbrev st_qt : Stmt:=top 46
abbrev st_qu : Stmt:=top 47
abbrev st_qv : Stmt:=top 48
abbrev st_qw : Stmt:=top 49
abbrev st_qx : Stmt:=top 50
abbrev st_qy : Stmt:=top 51
abbrev st_qz : Stmt:=inClass (top 8) 0
abbrev st_qA : Stmt:=inClass (top 8) 3
abbrev st_qB : Stmt:=inClass (top 9) 0
abbrev st_qC : Stmt:=inClass (top 9) 3
abbrev st_qD : Stmt:=inClass (top 10) 0
abbrev st_qE : Stmt:=inClass (top 10) 3
abbrev st_qF : Stmt:=inClass (top 11) 0
abbrev st_qG : Stmt:=inClass (top 11) 3
abbrev st_qH : Stmt:=inClass (top 12) 0
abbrev st_qI : Stmt:=inClass (top 12) 3
abbrev st_qJ : Stmt:=inClass (top 32) 0
abbrev st_qK : Stmt:=inClass (top 4) 0
theorem sc_qa : FnScope ["value"] ["value"] (defScope st_qa):=⟨rfl,rfl,rfl,by decide +kernel,rfl,by decide +kernel,by decide +kernel⟩
theorem sc_qb : FnScope ["value"] ["value"] (defScope st_qb):=⟨rfl,rfl,rfl,by decide +kernel,rfl,by decide +kernel,by decide +kernel⟩
theorem sc_qc : FnScope ["word", "words"] ["word", "words"] (defScope st_qc):=⟨rfl,rfl,rfl,by decide +kernel,rfl,by decide +kernel,by decide +kernel⟩
theorem sc_qd : FnScope ["number"] ["number"] (defScope st_qd):=⟨rfl,rfl,rfl,by decide +kernel,rfl,by decide +kernel,by decide +kernel⟩
theorem sc_qe : FnScope ["parts", "names", "deep", "part"] ["parts", "names", "deep"] (defScope st_qe):=⟨rfl,rfl,rfl,by decide +kernel,rfl,by decide +kernel,by decide +kernel⟩
theorem sc_qf : FnScope ["expr", "names", "deep"] ["expr", "names", "deep"] (defScope st_qf):=⟨rfl,rfl,rfl,by decide +kernel,rfl,by decide +kernel,by decide +kernel⟩
theorem sc_qg : FnScope ["exprs"] ["exprs"] (defScope st_qg):=⟨rfl,rfl,rfl,by decide +kernel,rfl,by decide +kernel,by decide +kernel⟩
theorem sc_qh : FnScope ["program", "exprs"] ["program"] (defScope st_qh):=⟨rfl,rfl,rfl,by decide +kernel,rfl,by decide +kernel,by decide +kernel⟩
theorem sc_qi : FnScope ["word", "figures", "figure"] ["word"] (defScope st_qi):=⟨rfl,rfl,rfl,by decide +kernel,rfl,by decide +kernel,by decide +kernel⟩
theorem sc_qj : FnScope ["word"] ["word"] (defScope st_qj):=⟨rfl,rfl,rfl,by decide +kernel,rfl,by decide +kernel,by decide +kernel⟩
theorem sc_qk : FnScope ["word", "parts"] ["word", "parts"] (defScope st_qk):=⟨rfl,rfl,rfl,by decide +kernel,rfl,by decide +kernel,by decide +kernel⟩
theorem sc_ql : FnScope ["words", "parts", "word", "part"] ["words"] (defScope st_ql):=⟨rfl,rfl,rfl,by decide +kernel,rfl,by decide +kernel,by decide +kernel⟩
theorem sc_qm : FnScope ["row", "first", "words"] ["row", "first"] (defScope st_qm):=⟨rfl,rfl,rfl,by decide +kernel,rfl,by decide +kernel,by decide +kernel⟩
theorem sc_qn : FnScope ["text", "rows", "exprs", "at", "first", "expr"] ["text"] (defScope st_qn):=⟨rfl,rfl,rfl,by decide +kernel,rfl,by decide +kernel,by decide +kernel⟩
theorem sc_qo : FnScope ["_law_script", "_law_k"] ["_law_script", "_law_k"] (defScope st_qo):=⟨rfl,rfl,rfl,by decide +kernel,rfl,by decide +kernel,by decide +kernel⟩
theorem sc_qp : FnScope ["_law_state", "_law_base", "_law_cell", "_law_found", "_law_number"] ["_law_state", "_law_base"] (defScope st_qp):=⟨rfl,rfl,rfl,by decide +kernel,rfl,by decide +kernel,by decide +kernel⟩
theorem sc_qq : FnScope ["_law_state", "_law_names", "_law_deep", "_law_kind", "_law_number", "_law_word", "_law_one", "_law_parts"] ["_law_state", "_law_names", "_law_deep"] (defScope st_qq):=⟨rfl,rfl,rfl,by decide +kernel,rfl,by decide +kernel,by decide +kernel⟩
theorem sc_qr : FnScope ["_law_told"] ["_law_told"] (defScope st_qr):=⟨rfl,rfl,rfl,by decide +kernel,rfl,by decide +kernel,by decide +kernel⟩
theorem sc_qs : FnScope ["_law_state", "_law_names", "_law_deep", "_law_told"] ["_law_state", "_law_names", "_law_deep"] (defScope st_qs):=⟨rfl,rfl,rfl,by decide +kernel,rfl,by decide +kernel,by decide +kernel⟩
theorem sc_qt : FnScope ["_law_told"] ["_law_told"] (defScope st_qt):=⟨rfl,rfl,rfl,by decide +kernel,rfl,by decide +kernel,by decide +kernel⟩
theorem sc_qu : FnScope ["_law_state", "_law_ahead", "_law_at_send", "_law_at_end", "_law_start", "_law_send", "_law_when"] ["_law_state"] (defScope st_qu):=⟨rfl,rfl,rfl,by decide +kernel,rfl,by decide +kernel,by decide +kernel⟩
theorem sc_qv : FnScope ["_law_four_here"] ["_law_four_here"] (defScope st_qv):=⟨rfl,rfl,rfl,by decide +kernel,rfl,by decide +kernel,by decide +kernel⟩
theorem sc_qw : FnScope ["_law_at", "_law_cell", "_law_name", "_law_word", "_law_great", "_law_many", "_law_some"] ["_law_at", "_law_cell"] (defScope st_qw):=⟨rfl,rfl,rfl,by decide +kernel,rfl,by decide +kernel,by decide +kernel⟩
theorem sc_qx : FnScope ["_law_text", "_law_word", "e"] ["_law_text"] (defScope st_qx):=⟨rfl,rfl,rfl,by decide +kernel,rfl,by decide +kernel,by decide +kernel⟩
theorem sc_qy : FnScope ["_law_script", "_law_heads", "_law_rows", "_law_k", "_law_cell", "_law_at", "_law_bad", "_law_other"] ["_law_script"] (defScope st_qy):=⟨rfl,rfl,rfl,by decide +kernel,rfl,by decide +kernel,by decide +kernel⟩
theorem sc_qz : FnScope ["self", "value"] ["self", "value"] (defScope st_qz):=⟨rfl,rfl,rfl,by decide +kernel,rfl,by decide +kernel,by decide +kernel⟩
theorem sc_qA : FnScope ["self"] ["self"] (defScope st_qA):=⟨rfl,rfl,rfl,by decide +kernel,rfl,by decide +kernel,by decide +kernel⟩
theorem sc_qB : FnScope ["self", "word"] ["self", "word"] (defScope st_qB):=⟨rfl,rfl,rfl,by decide +kernel,rfl,by decide +kernel,by decide +kernel⟩
theorem sc_qC : FnScope ["self"] ["self"] (defScope st_qC):=⟨rfl,rfl,rfl,by decide +kernel,rfl,by decide +kernel,by decide +kernel⟩
theorem sc_qD : FnScope ["self", "word", "one", "other"] ["self", "word", "one", "other"] (defScope st_qD):=⟨rfl,rfl,rfl,by decide +kernel,rfl,by decide +kernel,by decide +kernel⟩
theorem sc_qE : FnScope ["self"] ["self"] (defScope st_qE):=⟨rfl,rfl,rfl,by decide +kernel,rfl,by decide +kernel,by decide +kernel⟩
theorem sc_qF : FnScope ["self", "inner", "number"] ["self", "inner", "number"] (defScope st_qF):=⟨rfl,rfl,rfl,by decide +kernel,rfl,by decide +kernel,by decide +kernel⟩
theorem sc_qG : FnScope ["self"] ["self"] (defScope st_qG):=⟨rfl,rfl,rfl,by decide +kernel,rfl,by decide +kernel,by decide +kernel⟩
theorem sc_qH : FnScope ["self", "one", "other", "third", "fourth"] ["self", "one", "other", "third", "fourth"] (defScope st_qH):=⟨rfl,rfl,rfl,by decide +kernel,rfl,by decide +kernel,by decide +kernel⟩
theorem sc_qI : FnScope ["self"] ["self"] (defScope st_qI):=⟨rfl,rfl,rfl,by decide +kernel,rfl,by decide +kernel,by decide +kernel⟩
theorem sc_qJ : FnScope ["self", "start", "send", "when", "renew"] ["self", "start", "send", "when", "renew"] (defScope st_qJ):=⟨rfl,rfl,rfl,by decide +kernel,rfl,by decide +kernel,by decide +kernel⟩
theorem sc_qK : FnScope ["self", "row"] ["self", "row"] (defScope st_qK):=⟨rfl,rfl,rfl,by decide +kernel,rfl,by decide +kernel,by decide +kernel⟩
structure Ad where
  f_qa : Addr
  d_qa : FuncData
  f_qb : Addr
  d_qb : FuncData
  f_qc : Addr
  d_qc : FuncData
  f_qd : Addr
  d_qd : FuncData
  f_qe : Addr
  d_qe : FuncData
  f_qf : Addr
  d_qf : FuncData
  f_qg : Addr
  d_qg : FuncData
  f_qh : Addr
  d_qh : FuncData
  f_qi : Addr
  d_qi : FuncData
  f_qj : Addr
  d_qj : FuncData
  f_qk : Addr
  d_qk : FuncData
  f_ql : Addr
  d_ql : FuncData
  f_qm : Addr
  d_qm : FuncData
  f_qn : Addr
  d_qn : FuncData
  f_qo : Addr
  d_qo : FuncData
  f_qp : Addr
  d_qp : FuncData
  f_qq : Addr
  d_qq : FuncData
  f_qr : Addr
  d_qr : FuncData
  f_qs : Addr
  d_qs : FuncData
  f_qt : Addr
  d_qt : FuncData
  f_qu : Addr
  d_qu : FuncData
  f_qv : Addr
  d_qv : FuncData
  f_qw : Addr
  d_qw : FuncData
  f_qx : Addr
  d_qx : FuncData
  f_qy : Addr
  d_qy : FuncData
  f_qz : Addr
  d_qz : FuncData
  f_qA : Addr
  d_qA : FuncData
  f_qB : Addr
  d_qB : FuncData
  f_qC : Addr
  d_qC : FuncData
  f_qD : Addr
  d_qD : FuncData
  f_qE : Addr
  d_qE : FuncData
  f_qF : Addr
  d_qF : FuncData
  f_qG : Addr
  d_qG : FuncData
  f_qH : Addr
  d_qH : FuncData
  f_qI : Addr
  d_qI : FuncData
  f_qJ : Addr
  d_qJ : FuncData
  f_qK : Addr
  d_qK : FuncData
  c_Num : Addr
  c_Name : Addr
  c_Two : Addr
  c_Mod : Addr
  c_Less : Addr
  c_Program : Addr
  c_NoProgram : Addr
  c_NoWay : Addr
  c_BeatlessError : Addr
  c_NoText : Addr
  t_START_NAMES : Addr
  t_SEND_NAMES : Addr
  t_RENEW_NAMES : Addr
  t_TWO_WORDS : Addr
  t_MOST_WORDS : Tok
  t_MOST_DEEP : Tok
  t_ALL_NAMES : Addr
  t_ROW_WORDS : Addr
  t_PARTS : Addr
  t_FIGURES : Tok
structure Txt (w : World) (K : PySem.W.Frag) (mg : Str→Option Value) (a : Ad) : Prop where
  n_len : mg "len" = none
  n_int : mg "int" = none
  n_min : mg "min" = none
  n_max : mg "max" = none
  n_range : mg "range" = none
  n_isinstance : mg "isinstance" = none
  n_zip : mg "zip" = none
  n_abs : mg "abs" = none
  n_str : mg "str" = none
  n_sum : mg "sum" = none
  n_bool : mg "bool" = none
  n_tuple : mg "tuple" = none
  n_enumerate : mg "enumerate" = none
  n_reversed : mg "reversed" = none
  n_ValueError : mg "ValueError" = none
  F_qa : Fun K "is_whole" "is_whole" st_qa a.f_qa a.d_qa
  b_qa : Binds K a.d_qa ["value"] []
  g_qa : mg "is_whole" = some (.ref a.f_qa)
  F_qb : Fun K "is_short_number" "is_short_number" st_qb a.f_qb a.d_qb
  b_qb : Binds K a.d_qb ["value"] []
  g_qb : mg "is_short_number" = some (.ref a.f_qb)
  F_qc : Fun K "is_word_of" "is_word_of" st_qc a.f_qc a.d_qc
  b_qc : Binds K a.d_qc ["word", "words"] []
  g_qc : mg "is_word_of" = some (.ref a.f_qc)
  F_qd : Fun K "is_divisor" "is_divisor" st_qd a.f_qd a.d_qd
  b_qd : Binds K a.d_qd ["number"] []
  g_qd : mg "is_divisor" = some (.ref a.f_qd)
  F_qe : Fun K "are_sound" "are_sound" st_qe a.f_qe a.d_qe
  b_qe : Binds K a.d_qe ["parts", "names", "deep"] []
  g_qe : mg "are_sound" = some (.ref a.f_qe)
  F_qf : Fun K "is_sound" "is_sound" st_qf a.f_qf a.d_qf
  b_qf : Binds K a.d_qf ["expr", "names", "deep"] []
  g_qf : mg "is_sound" = some (.ref a.f_qf)
  F_qg : Fun K "count_words" "count_words" st_qg a.f_qg a.d_qg
  b_qg : Binds K a.d_qg ["exprs"] []
  g_qg : mg "count_words" = some (.ref a.f_qg)
  F_qh : Fun K "program_text" "program_text" st_qh a.f_qh a.d_qh
  b_qh : Binds K a.d_qh ["program"] []
  g_qh : mg "program_text" = some (.ref a.f_qh)
  F_qi : Fun K "is_number_word" "is_number_word" st_qi a.f_qi a.d_qi
  b_qi : Binds K a.d_qi ["word"] []
  g_qi : mg "is_number_word" = some (.ref a.f_qi)
  F_qj : Fun K "number_of" "number_of" st_qj a.f_qj a.d_qj
  b_qj : Binds K a.d_qj ["word"] []
  g_qj : mg "number_of" = some (.ref a.f_qj)
  F_qk : Fun K "read_part" "read_part" st_qk a.f_qk a.d_qk
  b_qk : Binds K a.d_qk ["word", "parts"] []
  g_qk : mg "read_part" = some (.ref a.f_qk)
  F_ql : Fun K "read_words" "read_words" st_ql a.f_ql a.d_ql
  b_ql : Binds K a.d_ql ["words"] []
  g_ql : mg "read_words" = some (.ref a.f_ql)
  F_qm : Fun K "read_row" "read_row" st_qm a.f_qm a.d_qm
  b_qm : Binds K a.d_qm ["row", "first"] []
  g_qm : mg "read_row" = some (.ref a.f_qm)
  F_qn : Fun K "read_program" "read_program" st_qn a.f_qn a.d_qn
  b_qn : Binds K a.d_qn ["text"] []
  g_qn : mg "read_program" = some (.ref a.f_qn)
  F_qo : Fun K "_law_cell_at" "_law_cell_at" st_qo a.f_qo a.d_qo
  b_qo : Binds K a.d_qo ["_law_script", "_law_k"] []
  g_qo : mg "_law_cell_at" = some (.ref a.f_qo)
  F_qp : Fun K "_law_digit" "_law_digit" st_qp a.f_qp a.d_qp
  b_qp : Binds K a.d_qp ["_law_state", "_law_base"] []
  g_qp : mg "_law_digit" = some (.ref a.f_qp)
  F_qq : Fun K "_law_expr" "_law_expr" st_qq a.f_qq a.d_qq
  b_qq : Binds K a.d_qq ["_law_state", "_law_names", "_law_deep"] []
  g_qq : mg "_law_expr" = some (.ref a.f_qq)
  F_qr : Fun K "_law_made" "_law_made" st_qr a.f_qr a.d_qr
  b_qr : Binds K a.d_qr ["_law_told"] []
  g_qr : mg "_law_made" = some (.ref a.f_qr)
  F_qs : Fun K "_law_fits" "_law_fits" st_qs a.f_qs a.d_qs
  b_qs : Binds K a.d_qs ["_law_state", "_law_names", "_law_deep"] []
  g_qs : mg "_law_fits" = some (.ref a.f_qs)
  F_qt : Fun K "_law_size" "_law_size" st_qt a.f_qt a.d_qt
  b_qt : Binds K a.d_qt ["_law_told"] []
  g_qt : mg "_law_size" = some (.ref a.f_qt)
  F_qu : Fun K "_law_four" "_law_four" st_qu a.f_qu a.d_qu
  b_qu : Binds K a.d_qu ["_law_state"] []
  g_qu : mg "_law_four" = some (.ref a.f_qu)
  F_qv : Fun K "_law_program" "_law_program" st_qv a.f_qv a.d_qv
  b_qv : Binds K a.d_qv ["_law_four_here"] []
  g_qv : mg "_law_program" = some (.ref a.f_qv)
  F_qw : Fun K "_law_odd" "_law_odd" st_qw a.f_qw a.d_qw
  b_qw : Binds K a.d_qw ["_law_at", "_law_cell"] []
  g_qw : mg "_law_odd" = some (.ref a.f_qw)
  F_qx : Fun K "_law_refused" "_law_refused" st_qx a.f_qx a.d_qx
  b_qx : Binds K a.d_qx ["_law_text"] []
  g_qx : mg "_law_refused" = some (.ref a.f_qx)
  F_qy : Fun K "law" "law" st_qy a.f_qy a.d_qy
  b_qy : Binds K a.d_qy ["_law_script"] []
  b0_qy : ∀ (s : Shared) (u : Value),BindsTo s a.d_qy ⟨[u],[]⟩ [("_law_script",u)]
  g_qy : mg "law" = some (.ref a.f_qy)
  F_qz : Fun K "__init__" "Num.__init__" st_qz a.f_qz a.d_qz
  b_qz : Binds K a.d_qz ["self", "value"] []
  F_qA : Fun K "words" "Num.words" st_qA a.f_qA a.d_qA
  b_qA : Binds K a.d_qA ["self"] []
  mt_qA : Meth K a.c_Num "words" a.f_qA
  F_qB : Fun K "__init__" "Name.__init__" st_qB a.f_qB a.d_qB
  b_qB : Binds K a.d_qB ["self", "word"] []
  F_qC : Fun K "words" "Name.words" st_qC a.f_qC a.d_qC
  b_qC : Binds K a.d_qC ["self"] []
  mt_qC : Meth K a.c_Name "words" a.f_qC
  F_qD : Fun K "__init__" "Two.__init__" st_qD a.f_qD a.d_qD
  b_qD : Binds K a.d_qD ["self", "word", "one", "other"] []
  F_qE : Fun K "words" "Two.words" st_qE a.f_qE a.d_qE
  b_qE : Binds K a.d_qE ["self"] []
  mt_qE : Meth K a.c_Two "words" a.f_qE
  F_qF : Fun K "__init__" "Mod.__init__" st_qF a.f_qF a.d_qF
  b_qF : Binds K a.d_qF ["self", "inner", "number"] []
  F_qG : Fun K "words" "Mod.words" st_qG a.f_qG a.d_qG
  b_qG : Binds K a.d_qG ["self"] []
  mt_qG : Meth K a.c_Mod "words" a.f_qG
  F_qH : Fun K "__init__" "Less.__init__" st_qH a.f_qH a.d_qH
  b_qH : Binds K a.d_qH ["self", "one", "other", "third", "fourth"] []
  F_qI : Fun K "words" "Less.words" st_qI a.f_qI a.d_qI
  b_qI : Binds K a.d_qI ["self"] []
  mt_qI : Meth K a.c_Less "words" a.f_qI
  F_qJ : Fun K "__init__" "Program.__init__" st_qJ a.f_qJ a.d_qJ
  b_qJ : Binds K a.d_qJ ["self", "start", "send", "when", "renew"] []
  F_qK : Fun K "__init__" "NoText.__init__" st_qK a.f_qK a.d_qK
  b_qK : Binds K a.d_qK ["self", "row"] []
  g_Num : mg "Num" = some (.ref a.c_Num)
  cl_Num : Cls K a.c_Num
  mk_Num : Mk K a.c_Num a.f_qz
  ty_Num : ∀ (H : Hp) (p dx : Addr) (fs : List (Str × V)),H p = some (.ins a.c_Num dx fs)→TyOf K H (.ref p) (.ref a.c_Num)
  na_Num_value : NoAttr K a.c_Num "value"
  g_Name : mg "Name" = some (.ref a.c_Name)
  cl_Name : Cls K a.c_Name
  mk_Name : Mk K a.c_Name a.f_qB
  ty_Name : ∀ (H : Hp) (p dx : Addr) (fs : List (Str × V)),H p = some (.ins a.c_Name dx fs)→TyOf K H (.ref p) (.ref a.c_Name)
  na_Name_word : NoAttr K a.c_Name "word"
  g_Two : mg "Two" = some (.ref a.c_Two)
  cl_Two : Cls K a.c_Two
  mk_Two : Mk K a.c_Two a.f_qD
  ty_Two : ∀ (H : Hp) (p dx : Addr) (fs : List (Str × V)),H p = some (.ins a.c_Two dx fs)→TyOf K H (.ref p) (.ref a.c_Two)
  na_Two_word : NoAttr K a.c_Two "word"
  na_Two_one : NoAttr K a.c_Two "one"
  na_Two_other : NoAttr K a.c_Two "other"
  g_Mod : mg "Mod" = some (.ref a.c_Mod)
  cl_Mod : Cls K a.c_Mod
  mk_Mod : Mk K a.c_Mod a.f_qF
  ty_Mod : ∀ (H : Hp) (p dx : Addr) (fs : List (Str × V)),H p = some (.ins a.c_Mod dx fs)→TyOf K H (.ref p) (.ref a.c_Mod)
  na_Mod_inner : NoAttr K a.c_Mod "inner"
  na_Mod_number : NoAttr K a.c_Mod "number"
  g_Less : mg "Less" = some (.ref a.c_Less)
  cl_Less : Cls K a.c_Less
  mk_Less : Mk K a.c_Less a.f_qH
  ty_Less : ∀ (H : Hp) (p dx : Addr) (fs : List (Str × V)),H p = some (.ins a.c_Less dx fs)→TyOf K H (.ref p) (.ref a.c_Less)
  na_Less_one : NoAttr K a.c_Less "one"
  na_Less_other : NoAttr K a.c_Less "other"
  na_Less_third : NoAttr K a.c_Less "third"
  na_Less_fourth : NoAttr K a.c_Less "fourth"
  g_Program : mg "Program" = some (.ref a.c_Program)
  cl_Program : Cls K a.c_Program
  mk_Program : Mk K a.c_Program a.f_qJ
  ty_Program : ∀ (H : Hp) (p dx : Addr) (fs : List (Str × V)),H p = some (.ins a.c_Program dx fs)→TyOf K H (.ref p) (.ref a.c_Program)
  na_Program_start : NoAttr K a.c_Program "start"
  na_Program_send : NoAttr K a.c_Program "send"
  na_Program_when : NoAttr K a.c_Program "when"
  na_Program_renew : NoAttr K a.c_Program "renew"
  k_Num_Num : PySem.W.kitOne K (.ref a.c_Num) (.ref a.c_Num) = some true
  k_Name_Num : PySem.W.kitOne K (.ref a.c_Name) (.ref a.c_Num) = some false
  k_Name_Name : PySem.W.kitOne K (.ref a.c_Name) (.ref a.c_Name) = some true
  k_Two_Num : PySem.W.kitOne K (.ref a.c_Two) (.ref a.c_Num) = some false
  k_Two_Name : PySem.W.kitOne K (.ref a.c_Two) (.ref a.c_Name) = some false
  k_Two_Two : PySem.W.kitOne K (.ref a.c_Two) (.ref a.c_Two) = some true
  k_Mod_Num : PySem.W.kitOne K (.ref a.c_Mod) (.ref a.c_Num) = some false
  k_Mod_Name : PySem.W.kitOne K (.ref a.c_Mod) (.ref a.c_Name) = some false
  k_Mod_Two : PySem.W.kitOne K (.ref a.c_Mod) (.ref a.c_Two) = some false
  k_Mod_Mod : PySem.W.kitOne K (.ref a.c_Mod) (.ref a.c_Mod) = some true
  k_Less_Num : PySem.W.kitOne K (.ref a.c_Less) (.ref a.c_Num) = some false
  k_Less_Name : PySem.W.kitOne K (.ref a.c_Less) (.ref a.c_Name) = some false
  k_Less_Two : PySem.W.kitOne K (.ref a.c_Less) (.ref a.c_Two) = some false
  k_Less_Mod : PySem.W.kitOne K (.ref a.c_Less) (.ref a.c_Mod) = some false
  k_Less_Less : PySem.W.kitOne K (.ref a.c_Less) (.ref a.c_Less) = some true
  k_tint_tint : PySem.W.kitOne K (.type "int") (.type "int") = some true
  k_tint_tbool : PySem.W.kitOne K (.type "int") (.type "bool") = some false
  k_tstr_tstr : PySem.W.kitOne K (.type "str") (.type "str") = some true
  k_ttuple_ttuple : PySem.W.kitOne K (.type "tuple") (.type "tuple") = some true
  k_tint_ttuple : PySem.W.kitOne K (.type "int") (.type "tuple") = some false
  k_tstr_ttuple : PySem.W.kitOne K (.type "str") (.type "tuple") = some false
  k_tint_tstr : PySem.W.kitOne K (.type "int") (.type "str") = some false
  k_tstr_tint : PySem.W.kitOne K (.type "str") (.type "int") = some false
  k_tstr_tbool : PySem.W.kitOne K (.type "str") (.type "bool") = some false
  k_Program_Program : PySem.W.kitOne K (.ref a.c_Program) (.ref a.c_Program) = some true
  k_NoProgram_NoWay : PySem.W.kitOne K (.ref a.c_NoProgram) (.ref a.c_NoWay) = some false
  k_NoProgram_BeatlessError : PySem.W.kitOne K (.ref a.c_NoProgram) (.ref a.c_BeatlessError) = some true
  k_NoProgram_tValueError : PySem.W.kitOne K (.ref a.c_NoProgram) (.type "ValueError") = some true
  g_START_NAMES : mg "START_NAMES" = some (.ref a.t_START_NAMES)
  s_START_NAMES : ∀ H : Hp,SqT K H a.t_START_NAMES [V.str "me",V.str "lines"]
  g_SEND_NAMES : mg "SEND_NAMES" = some (.ref a.t_SEND_NAMES)
  s_SEND_NAMES : ∀ H : Hp,SqT K H a.t_SEND_NAMES [V.str "worth",V.str "me",V.str "round",V.str "lines",V.str "to"]
  g_RENEW_NAMES : mg "RENEW_NAMES" = some (.ref a.t_RENEW_NAMES)
  s_RENEW_NAMES : ∀ H : Hp,SqT K H a.t_RENEW_NAMES [V.str "worth",V.str "me",V.str "round",V.str "lines",V.str "sum",V.str "least",V.str "most",V.str "count"]
  g_TWO_WORDS : mg "TWO_WORDS" = some (.ref a.t_TWO_WORDS)
  s_TWO_WORDS : ∀ H : Hp,SqT K H a.t_TWO_WORDS [V.str "add",V.str "sub",V.str "min",V.str "max"]
  g_MOST_WORDS : mg "MOST_WORDS" = some (.int 60 a.t_MOST_WORDS)
  g_MOST_DEEP : mg "MOST_DEEP" = some (.int 8 a.t_MOST_DEEP)
  g_ALL_NAMES : mg "ALL_NAMES" = some (.ref a.t_ALL_NAMES)
  s_ALL_NAMES : ∀ H : Hp,SqT K H a.t_ALL_NAMES [V.str "worth",V.str "me",V.str "round",V.str "lines",V.str "to",V.str "sum",V.str "least",V.str "most",V.str "count"]
  g_ROW_WORDS : mg "ROW_WORDS" = some (.ref a.t_ROW_WORDS)
  s_ROW_WORDS : ∀ H : Hp,SqT K H a.t_ROW_WORDS [V.str "start",V.str "send",V.str "when",V.str "reckon"]
  g_PARTS : mg "PARTS" = some (.ref a.t_PARTS)
  s_PARTS : STab w K a.t_PARTS [("add",2),("sub",2),("min",2),("max",2),("mod",2),("less",4)]
  g_FIGURES : mg "FIGURES" = some (.str "0123456789" a.t_FIGURES)
  g_NoProgram : mg "NoProgram" = some (.ref a.c_NoProgram)
  xc_NoProgram : XCls K a.c_NoProgram
  g_NoWay : mg "NoWay" = some (.ref a.c_NoWay)
  g_BeatlessError : mg "BeatlessError" = some (.ref a.c_BeatlessError)
  xi_NoProgram : XIs K a.c_NoProgram
  g_NoText : mg "NoText" = some (.ref a.c_NoText)
  xn_NoText : xclsI K a.c_NoText a.f_qK = true
  xf_NoText : (K.lookup a.f_qK).any (fun o=>o.cls == .type "function") = true
  xk_NoText : PySem.W.keepIn K (.ref a.c_NoText) = true
  xs_NoText : XSet K a.c_NoText
  xt_NoText : PySem.W.takerIn K a.c_NoText "row" = some none
  xg_NoText : XGet K a.c_NoText "row"
  xu_NoProgram_NoText : xsub K a.c_NoProgram a.c_NoText = some false
def Made (a : Ad) (H : Hp) : Ex→V→Prop
  | .num i,v=>∃ p dx,v = .ref p∧H p = some (.ins a.c_Num dx [("value",.int i)])
  | .name x,v=>∃ p dx,v = .ref p∧H p = some (.ins a.c_Name dx [("word",.str x)])
  | .two w e f,v=>∃ p dx u1 u2,v = .ref p∧H p = some (.ins a.c_Two dx [("word",.str w),("one",u1),("other",u2)])∧Made a H e u1∧Made a H f u2
  | .mod e n,v=>∃ p dx u1,v = .ref p∧H p = some (.ins a.c_Mod dx [("inner",u1),("number",.int n)])∧Made a H e u1
  | .less e f g h,v=>∃ p dx u1 u2 u3 u4,v = .ref p∧H p = some (.ins a.c_Less dx [("one",u1),("other",u2),("third",u3),("fourth",u4)])∧Made a H e u1∧Made a H f u2∧Made a H g u3∧Made a H h u4
theorem Made.mono {a : Ad} {H H' : Hp} (k : ∀ b C dx fs,H b = some (.ins C dx fs)→H' b = some (.ins C dx fs)) : ∀ {e : Ex} {v : V},Made a H e v→Made a H' e v
  | .num _,_,⟨p,dx,e,h⟩=>⟨p,dx,e,k _ _ _ _ h⟩
  | .name _,_,⟨p,dx,e,h⟩=>⟨p,dx,e,k _ _ _ _ h⟩
  | .two _ _ _,_,⟨p,dx,u1,u2,e,h,t1,t2⟩=>⟨p,dx,u1,u2,e,k _ _ _ _ h,t1.mono k,t2.mono k⟩
  | .mod _ _,_,⟨p,dx,u1,e,h,t1⟩=>⟨p,dx,u1,e,k _ _ _ _ h,t1.mono k⟩
  | .less _ _ _ _,_,⟨p,dx,u1,u2,u3,u4,e,h,t1,t2,t3,t4⟩=>⟨p,dx,u1,u2,u3,u4,e,k _ _ _ _ h,t1.mono k,t2.mono k,t3.mono k,t4.mono k⟩
theorem Made.same {a : Ad} {H H' : Hp} (k : Same H H') {e : Ex} {v : V} (t : Made a H e v) : Made a H' e v:=t.mono fun b C dx fs h=>k b _ h
section
variable {P : Program} {w : World} {K : PySem.W.Frag} {mg : Str→Option Value} {base : Heap} {a : Ad}
def spI1 (C : Addr) (x : Str) : Sp:=fun vs H Q _=>∃ (p dx : Addr) (v : V),vs = [.ref p,v]∧H p = some (.ins C dx [])∧Q .non (upd H p (.ins C dx [(x,v)]))
def spI2 (C : Addr) (x y : Str) : Sp:=fun vs H Q _=>∃ (p dx : Addr) (v u : V),vs = [.ref p,v,u]∧H p = some (.ins C dx [])∧Q .non (upd H p (.ins C dx [(x,v),(y,u)]))
def spI3 (C : Addr) (x y z : Str) : Sp:=fun vs H Q _=>∃ (p dx : Addr) (v u t : V),vs = [.ref p,v,u,t]∧H p = some (.ins C dx [])∧Q .non (upd H p (.ins C dx [(x,v),(y,u),(z,t)]))
def spI4 (C : Addr) (x y z o : Str) : Sp:=fun vs H Q _=>∃ (p dx : Addr) (v u t r : V),vs = [.ref p,v,u,t,r]∧H p = some (.ins C dx [])∧Q .non (upd H p (.ins C dx [(x,v),(y,u),(z,t),(o,r)]))
theorem ok_Num_init (T : Txt w K mg a) : FnOk P w K mg base CX0 1 a.f_qz a.d_qz ["self", "value"] (spI1 a.c_Num "value"):=by
  refine T.F_qz.ok sc_qz (fun vs H Q E h=>?_) (fun cdv A outer s H vs Q E hr h=>?_)
  · obtain ⟨p,dx,v,rfl,_⟩:=h
    rfl
  · obtain ⟨p,dx,v,rfl,hp,k⟩:=h
    refine bx_in (w_pss_one (w_ps_fld (w_pv 0) (w_pv 1) rfl)) ?_
    refine ⟨_,rfl,_,rfl,p,a.c_Num,dx,_,rfl,hp,T.cl_Num,T.na_Num_value,(by show 0 < 1000; decide),?_⟩
    exact k
theorem ok_Name_init (T : Txt w K mg a) : FnOk P w K mg base CX0 1 a.f_qB a.d_qB ["self", "word"] (spI1 a.c_Name "word"):=by
  refine T.F_qB.ok sc_qB (fun vs H Q E h=>?_) (fun cdv A outer s H vs Q E hr h=>?_)
  · obtain ⟨p,dx,v,rfl,_⟩:=h
    rfl
  · obtain ⟨p,dx,v,rfl,hp,k⟩:=h
    refine bx_in (w_pss_one (w_ps_fld (w_pv 0) (w_pv 1) rfl)) ?_
    refine ⟨_,rfl,_,rfl,p,a.c_Name,dx,_,rfl,hp,T.cl_Name,T.na_Name_word,(by show 0 < 1000; decide),?_⟩
    exact k
theorem ok_Two_init (T : Txt w K mg a) : FnOk P w K mg base CX0 1 a.f_qD a.d_qD ["self", "word", "one", "other"] (spI3 a.c_Two "word" "one" "other"):=by
  refine T.F_qD.ok sc_qD (fun vs H Q E h=>?_) (fun cdv A outer s H vs Q E hr h=>?_)
  · obtain ⟨p,dx,v,u,t,rfl,_⟩:=h
    rfl
  · obtain ⟨p,dx,v,u,t,rfl,hp,k⟩:=h
    refine bx_in (w_pss_cons (w_ps_fld (w_pv 0) (w_pv 1) rfl)
      (w_pss_cons (w_ps_fld (w_pv 0) (w_pv 2) rfl)
      (w_pss_one (w_ps_fld (w_pv 0) (w_pv 3) rfl)))) ?_
    refine ⟨_,rfl,_,rfl,p,a.c_Two,dx,_,rfl,hp,T.cl_Two,T.na_Two_word,(by show 0 < 1000; decide),?_⟩
    refine ⟨_,rfl,_,rfl,p,a.c_Two,dx,_,rfl,upd_same,T.cl_Two,T.na_Two_one,(by show 1 < 1000; decide),?_⟩
    refine ⟨_,rfl,_,rfl,p,a.c_Two,dx,_,rfl,upd_same,T.cl_Two,T.na_Two_other,(by show 2 < 1000; decide),?_⟩
    rw [upd_upd,upd_upd]
    exact k
theorem ok_Mod_init (T : Txt w K mg a) : FnOk P w K mg base CX0 1 a.f_qF a.d_qF ["self", "inner", "number"] (spI2 a.c_Mod "inner" "number"):=by
  refine T.F_qF.ok sc_qF (fun vs H Q E h=>?_) (fun cdv A outer s H vs Q E hr h=>?_)
  · obtain ⟨p,dx,v,u,rfl,_⟩:=h
    rfl
  · obtain ⟨p,dx,v,u,rfl,hp,k⟩:=h
    refine bx_in (w_pss_cons (w_ps_fld (w_pv 0) (w_pv 1) rfl)
      (w_pss_one (w_ps_fld (w_pv 0) (w_pv 2) rfl))) ?_
    refine ⟨_,rfl,_,rfl,p,a.c_Mod,dx,_,rfl,hp,T.cl_Mod,T.na_Mod_inner,(by show 0 < 1000; decide),?_⟩
    refine ⟨_,rfl,_,rfl,p,a.c_Mod,dx,_,rfl,upd_same,T.cl_Mod,T.na_Mod_number,(by show 1 < 1000; decide),?_⟩
    rw [upd_upd]
    exact k
theorem ok_Less_init (T : Txt w K mg a) : FnOk P w K mg base CX0 1 a.f_qH a.d_qH ["self", "one", "other", "third", "fourth"] (spI4 a.c_Less "one" "other" "third" "fourth"):=by
  refine T.F_qH.ok sc_qH (fun vs H Q E h=>?_) (fun cdv A outer s H vs Q E hr h=>?_)
  · obtain ⟨p,dx,v,u,t,r,rfl,_⟩:=h
    rfl
  · obtain ⟨p,dx,v,u,t,r,rfl,hp,k⟩:=h
    refine bx_in (w_pss_cons (w_ps_fld (w_pv 0) (w_pv 1) rfl)
      (w_pss_cons (w_ps_fld (w_pv 0) (w_pv 2) rfl)
      (w_pss_cons (w_ps_fld (w_pv 0) (w_pv 3) rfl)
      (w_pss_one (w_ps_fld (w_pv 0) (w_pv 4) rfl))))) ?_
    refine ⟨_,rfl,_,rfl,p,a.c_Less,dx,_,rfl,hp,T.cl_Less,T.na_Less_one,(by show 0 < 1000; decide),?_⟩
    refine ⟨_,rfl,_,rfl,p,a.c_Less,dx,_,rfl,upd_same,T.cl_Less,T.na_Less_other,(by show 1 < 1000; decide),?_⟩
    refine ⟨_,rfl,_,rfl,p,a.c_Less,dx,_,rfl,upd_same,T.cl_Less,T.na_Less_third,(by show 2 < 1000; decide),?_⟩
    refine ⟨_,rfl,_,rfl,p,a.c_Less,dx,_,rfl,upd_same,T.cl_Less,T.na_Less_fourth,(by show 3 < 1000; decide),?_⟩
    rw [upd_upd,upd_upd,upd_upd]
    exact k
end
end K04

namespace K04
open PySem L2
section
variable {P : Program} {w : World} {K : PySem.W.Frag} {mg : Str→Option Value} {base : Heap} {a : Ad}
def spDigit : Sp:=fun vs H Q _=>∃ (l : Addr) (n : Int),vs = [.ref l,.int n]∧StAt H l∧0 < n∧n.natAbs.log2 < 9000∧∀ (d : Int) (H' : Hp),0 ≤ d→d < n→StAt H' l→Ext l H H'→Q (.int d) H'
theorem ok_digit (T : Txt w K mg a) : FnOk P w K mg base CX0 1 a.f_qp a.d_qp ["_law_state", "_law_base"] spDigit:=by
  refine T.F_qp.ok sc_qp (fun vs H Q E h=>?_) (fun cdv A outer s H vs Q E hr h=>?_)
  · obtain ⟨l,n,rfl,_⟩:=h
    rfl
  · obtain ⟨l,n,rfl,⟨st,hst,ok⟩,hn,hlog,k⟩:=h
    refine bx_in (w_pss_cut (w_ps_if (w_pt_cmpR op_eq (w_pe_callB call_len_seq (by rfl) T.n_len bt_len (w_pa_N (w_pv 0) w_pa_nil)) w_pe_int (nomark _))
        (w_pss_cons (w_ps_set (i:=2) sc_qp.nd rfl (Or.inl rfl) (w_pe_ix ix_list (w_pv 0) w_pe_int (fun _ _=>rfl)))
        (w_pss_cons (w_ps_asg (w_pe_op op_mul (w_pv 2) (w_pe_callTy call_int1 (by rfl) T.n_int bt_int (w_pa_cons (w_pe_cmpR op_ge (w_pv 2) (w_pe_op op_pow w_pe_int w_pe_int) (nomark _)) w_pa_nil))) (w_pg_sub (w_pv 0) w_pe_int set_list))
        (w_pss_one (w_ps_expr (w_pe_bm PySem.F.plainAttrs_list PySem.F.slot_list_extend PySem.F.type_list_extend mt_extend (w_pv 0) (w_pa_cons (w_pe_lst (w_pa_B (w_pe_op op_mod (w_pv 2) w_pe_int) (w_pa_C w_pe_int w_pa_nil))) w_pa_nil))))))
        w_pss_nil)
      (w_pss_cons (w_ps_if (w_pt_cmpR op_gt (w_pe_ix ix_list (w_pv 0) w_pe_int (fun _ _=>rfl)) w_pe_int (nomark _))
        (w_pss_cons (w_ps_set (i:=3) sc_qp.nd rfl (Or.inl rfl) (w_pe_op op_mod (w_pe_ix ix_list (w_pv 0) w_pe_int (fun _ _=>rfl)) (w_pv 1)))
        (w_pss_cons (w_ps_asg (w_pe_op op_fdivG (w_pe_ix ix_list (w_pv 0) w_pe_int (fun _ _=>rfl)) (w_pv 1)) (w_pg_sub (w_pv 0) w_pe_int set_list))
        (w_pss_one (w_ps_ret (w_pv 3)))))
        w_pss_nil)
      (w_pss_cons (w_ps_asg (w_pe_op op_add (w_pe_ix ix_list (w_pv 0) w_pe_int (fun _ _=>rfl)) w_pe_int) (w_pg_sub (w_pv 0) w_pe_int set_list))
      (w_pss_cons (w_ps_set (i:=4) sc_qp.nd rfl (Or.inl rfl) (w_pe_op op_mod (w_pe_op op_mul (w_pe_op op_add (w_pe_op op_add (w_pe_ix ix_list (w_pv 0) w_pe_int (fun _ _=>rfl)) (w_pe_op op_mul w_pe_int (w_pe_ix ix_list (w_pv 0) w_pe_int (fun _ _=>rfl)))) w_pe_int) w_pe_int) w_pe_int))
      (w_pss_cons (w_ps_set (i:=4) sc_qp.nd rfl (Or.inl rfl) (w_pe_op op_mod (w_pe_op op_mul (w_pv 4) (w_pe_op op_add (w_pe_op op_fdivG (w_pv 4) w_pe_int) w_pe_int)) w_pe_int))
      (w_pss_one (w_ps_ret (w_pe_op op_mod (w_pe_op op_mod (w_pe_op op_mul (w_pv 4) (w_pe_op op_add (w_pe_op op_fdivG (w_pv 4) w_pe_int) w_pe_int)) w_pe_int) (w_pv 1))))))))) ?_
    refine ⟨fun σ' H'=>∃ (c0 : Option V) (x y z : Int),σ' = [some (.ref l),some (.int n),c0,none,none]∧H' l = some (.lst [.int x,.int y,.int z])∧Ext l H H',?_,?_⟩
    · -- if len(_law_state) == 1:
      refine ⟨_,rfl,l,st,rfl,.inl (SqL.of hst),rfl,_,rfl,?_⟩
      rcases ok with ⟨x,rfl⟩ | ⟨x,y,z,rfl⟩
      · refine iteB rfl ?_
        refine ⟨_,rfl,l,_,0,_,rfl,rfl,SqL.of hst,rfl,_,rfl,_,rfl,_,_,rfl,rfl,⟨by decide,by decide,by decide⟩,_,_,rfl,rfl,.inr ⟨_,rfl,_,_,rfl,rfl,.inr (b01 _),_,rfl,l,_,0,0,rfl,rfl,hst,rfl,?_⟩⟩
        · refine ⟨_,rfl,.inl ⟨rfl,_,SqL.of upd_same⟩,_,rfl,_,_,rfl,rfl,(by show (0 : Int) < 2147483647; decide),(by show 2 ≤ sizeLine; decide),fun p hp=>?_⟩
          have hpl : p ≠ l:=by
            intro z
            rw [z,upd_same] at hp
            cases hp
          have hp0 : H p = none:=by rw [upd_ne hpl] at hp; exact hp
          refine ⟨l,p,[_],[_,_],rfl,rfl,(upd_ne hpl.symm).trans upd_same,upd_same,(by show 1 + 2 ≤ sizeLine; decide),?_⟩
          refine ⟨_,_,_,_,rfl,upd_same,fun b o e nb=>?_⟩
          rw [upd_ne nb,upd_ne (ne_of_none e hp0),upd_ne nb]
          exact e
      · refine iteN rfl ?_
        exact ⟨none,x,y,z,rfl,hst,Ext.refl⟩
    · rintro σ' H1 ⟨c0,x,y,z,rfl,hst,hx⟩
      -- if _law_state[0] > 0:
      refine ⟨_,rfl,l,_,0,_,rfl,rfl,SqL.of hst,rfl,_,_,rfl,rfl,_,rfl,?_⟩
      refine ite2 (fun q=>?_) (fun q=>?_)
      · refine ⟨_,rfl,l,_,0,_,rfl,rfl,SqL.of hst,rfl,_,rfl,_,_,rfl,rfl,hn,_,rfl,l,_,0,_,rfl,rfl,SqL.of hst,rfl,_,rfl,_,_,rfl,rfl,⟨hn,hlog⟩,_,rfl,l,_,0,0,rfl,rfl,hst,rfl,_,rfl,?_⟩
        exact k _ _ (Int.emod_nonneg _ (Int.ne_of_gt hn)) (Int.emod_lt_of_pos _ hn) ⟨_,upd_same,.inr ⟨_,_,_,rfl⟩⟩ (hx.trans Ext.at)
      · refine ⟨_,rfl,l,_,2,_,rfl,rfl,SqL.of hst,rfl,_,_,rfl,rfl,_,rfl,l,_,2,2,rfl,rfl,hst,rfl,?_⟩
        refine ⟨_,rfl,l,_,1,_,rfl,rfl,SqL.of upd_same,rfl,_,rfl,l,_,2,_,rfl,rfl,SqL.of upd_same,rfl,_,_,rfl,rfl,.inl ⟨by decide,by decide⟩,_,_,rfl,rfl,_,_,rfl,rfl,_,_,rfl,rfl,.inr ⟨by decide,by decide⟩,_,_,rfl,rfl,(by show (0 : Int) < 2147483647; decide),?_⟩
        generalize hv : (y + 7919 * (z + 1) + 1) * 48271 % 2147483647 = v
        have v1 : 0 ≤ v:=by rw [← hv]; exact Int.emod_nonneg _ (by decide)
        have v2 : v < 2147483647:=by rw [← hv]; exact Int.emod_lt_of_pos _ (by decide)
        refine ⟨_,rfl,_,rfl,_,_,rfl,rfl,⟨by show (0 : Int) < 1009; decide,log_1009⟩,_,_,rfl,rfl,_,_,rfl,rfl,.inl ⟨by omega,by omega⟩,_,_,rfl,rfl,(by show (0 : Int) < 2147483647; decide),?_⟩
        generalize hu : v * (v / 1009 + 69621) % 2147483647 = u
        have u1 : 0 ≤ u:=by rw [← hu]; exact Int.emod_nonneg _ (by decide)
        have u2 : u < 2147483647:=by rw [← hu]; exact Int.emod_lt_of_pos _ (by decide)
        refine ⟨_,rfl,_,rfl,_,_,rfl,rfl,⟨by show (0 : Int) < 2003; decide,log_2003⟩,_,_,rfl,rfl,_,_,rfl,rfl,.inl ⟨by omega,by omega⟩,_,_,rfl,rfl,(by show (0 : Int) < 2147483399; decide),_,rfl,_,_,rfl,rfl,hn,?_⟩
        exact k _ _ (Int.emod_nonneg _ (Int.ne_of_gt hn)) (Int.emod_lt_of_pos _ hn) ⟨_,upd_same,.inr ⟨_,_,_,rfl⟩⟩ (hx.trans Ext.at)
abbrev isNum (e : Ex) : Prop:=∃ i,e = .num i
abbrev isName (e : Ex) : Prop:=∃ x,e = .name x
abbrev isTwo (e : Ex) : Prop:=∃ w e1 e2,e = .two w e1 e2
abbrev isMod (e : Ex) : Prop:=∃ e1 n,e = .mod e1 n
abbrev isLess (e : Ex) : Prop:=∃ e1 e2 e3 e4,e = .less e1 e2 e3 e4
end
end K04

namespace K04
open PySem L2
section
variable {P : Program} {w : World} {K : PySem.W.Frag} {mg : Str→Option Value} {base : Heap} {a : Ad}
def spLf (K : PySem.W.Frag) (f : V→Bool) : Sp:=fun vs H Q _=>∃ v,vs = [v]∧Lf K H v∧Q (.bl (f v)) H
theorem ok_is_whole (T : Txt w K mg a) : FnOk P w K mg base CX0 1 a.f_qa a.d_qa ["value"] (spLf K whole):=by
  refine T.F_qa.ok sc_qa (fun vs H Q E h=>?_) (fun cdv A outer s H vs Q E hr h=>?_)
  · obtain ⟨v,rfl,_⟩:=h
    rfl
  · obtain ⟨v,rfl,⟨t,ty,k1,k2,_⟩,k⟩:=h
    refine bx_in (w_pss_one (w_ps_ret (w_pe_and (w_pe_callB call_isi (by rfl) T.n_isinstance bt_isinstance (w_pa_N (w_pv 0) (w_pa_N (w_pe_bty T.n_int bt_int) w_pa_nil))) (w_pe_one (w_pe_not (w_pe_callB call_isi (by rfl) T.n_isinstance bt_isinstance (w_pa_N (w_pv 0) (w_pa_N (w_pe_bty T.n_bool bt_bool) w_pa_nil)))))))) ?_
    rw [whole_eq] at k
    refine ⟨_,rfl,_,_,_,_,_,rfl,rfl,ty,k1,_,rfl,?_⟩
    by_cases q : isIB v = true
    · rw [q] at k
      exact iteB q ⟨_,rfl,_,_,_,_,_,rfl,rfl,ty,k2,_,rfl,k⟩
    · have q:=Bool.eq_false_iff.mpr q
      rw [q] at k
      exact iteN q k
theorem ok_is_short (T : Txt w K mg a) : FnOk P w K mg base CX0 2 a.f_qb a.d_qb ["value"] (spLf K shortN):=by
  have c_qa : Callee P w K mg base "is_whole" a.f_qa a.d_qa ["value"] 1 (spLf K whole):=⟨ok_is_whole T,T.g_qa,T.F_qa.kp,T.b_qa⟩
  refine T.F_qb.ok sc_qb (fun vs H Q E h=>?_) (fun cdv A outer s H vs Q E hr h=>?_)
  · obtain ⟨v,rfl,_⟩:=h
    rfl
  · obtain ⟨v,rfl,lf,k⟩:=h
    refine bx_in (w_pss_one (w_ps_ret (w_pe_and (w_pe_c c_qa (hr.mono (by omega)) (w_pa_N (w_pv 0) w_pa_nil)) (w_pe_one (w_pe_cmpR op_lt (w_pe_callB call_abs (by rfl) T.n_abs bt_abs (w_pa_N (w_pv 0) w_pa_nil)) (w_pe_op op_pow w_pe_int w_pe_int) (nomark _)))))) ?_
    refine ⟨_,rfl,v,rfl,lf,_,rfl,?_⟩
    by_cases q : whole v = true
    · obtain ⟨i,rfl⟩:=whole_int q
      refine iteB q ⟨_,rfl,i,rfl,_,_,rfl,rfl,⟨by decide,by decide,by decide⟩,_,_,rfl,rfl,?_⟩
      rw [pow20]
      exact k
    · have q:=Bool.eq_false_iff.mpr q
      refine iteN q ?_
      have e : shortN v = false:=by cases v <;> first | rfl | simp [whole] at q
      rw [e] at k
      exact k
theorem ok_is_divisor (T : Txt w K mg a) : FnOk P w K mg base CX0 2 a.f_qd a.d_qd ["number"] (spLf K divr):=by
  have c_qa : Callee P w K mg base "is_whole" a.f_qa a.d_qa ["value"] 1 (spLf K whole):=⟨ok_is_whole T,T.g_qa,T.F_qa.kp,T.b_qa⟩
  refine T.F_qd.ok sc_qd (fun vs H Q E h=>?_) (fun cdv A outer s H vs Q E hr h=>?_)
  · obtain ⟨v,rfl,_⟩:=h
    rfl
  · obtain ⟨v,rfl,lf,k⟩:=h
    refine bx_in (w_pss_one (w_ps_ret (w_pe_and (w_pe_c c_qa (hr.mono (by omega)) (w_pa_N (w_pv 0) w_pa_nil)) (w_pe_and (w_pe_cmpR op_ge (w_pv 0) w_pe_int (nomark _)) (w_pe_one (w_pe_cmpR op_le (w_pv 0) (w_pe_op op_pow w_pe_int w_pe_int) (nomark _))))))) ?_
    refine ⟨_,rfl,v,rfl,lf,_,rfl,?_⟩
    by_cases q : whole v = true
    · obtain ⟨i,rfl⟩:=whole_int q
      have k' : Q (.bl (decide (1 ≤ i) && decide (i ≤ 1000000000))) H:=k
      refine iteB q ⟨_,rfl,_,_,rfl,rfl,_,rfl,?_⟩
      by_cases q1 : (1 : Int) ≤ i
      · refine iteB (decide_eq_true q1) ⟨_,rfl,_,_,rfl,rfl,⟨by decide,by decide,by decide⟩,_,_,rfl,rfl,?_⟩
        rw [decide_eq_true q1,Bool.true_and] at k'
        rw [pow9]
        exact k'
      · refine iteN (decide_eq_false q1) ?_
        rw [decide_eq_false q1,Bool.false_and] at k'
        exact k'
    · have q:=Bool.eq_false_iff.mpr q
      refine iteN q ?_
      have e : divr v = false:=by cases v <;> first | rfl | simp [whole] at q
      rw [e] at k
      exact k
def spWord (K : PySem.W.Frag) : Sp:=fun vs H Q _=>∃ (v : V) (p : Addr) (ws : List Str),vs = [v,.ref p]∧Lf K H v∧SqT K H p (ws.map V.str)∧Q (.bl (wordIn ws v)) H
theorem ok_is_word (T : Txt w K mg a) : FnOk P w K mg base CX0 1 a.f_qc a.d_qc ["word", "words"] (spWord K):=by
  refine T.F_qc.ok sc_qc (fun vs H Q E h=>?_) (fun cdv A outer s H vs Q E hr h=>?_)
  · obtain ⟨v,p,ws,rfl,_⟩:=h
    rfl
  · obtain ⟨v,p,ws,rfl,⟨t,ty,_,_,k3⟩,hp,k⟩:=h
    refine bx_in (w_pss_one (w_ps_ret (w_pe_and (w_pe_callB call_isi (by rfl) T.n_isinstance bt_isinstance (w_pa_N (w_pv 0) (w_pa_N (w_pe_bty T.n_str bt_str) w_pa_nil))) (w_pe_one (w_pe_cmpR op_in_seq (w_pv 0) (w_pv 1) (by with_unfolding_all rfl)))))) ?_
    refine ⟨_,rfl,_,_,_,_,_,rfl,rfl,ty,k3,_,rfl,?_⟩
    by_cases q : isSt v = true
    · obtain ⟨x,rfl⟩:=isSt_str q
      exact iteB q ⟨_,rfl,_,rfl,p,_,rfl,.inr hp,rfl,flat_strs ws,k⟩
    · have q:=Bool.eq_false_iff.mpr q
      refine iteN q ?_
      have e : wordIn ws v = false:=by cases v <;> first | rfl | simp [isSt] at q
      rw [e] at k
      exact k
end
end K04

namespace K04
open PySem L2
theorem TyOf.same {K : PySem.W.Frag} {H H' : Hp} {v : V} {t : Value} (s : Same H H') (h : TyOf K H v t) : TyOf K H' v t:=by
  cases h with
  | non=>exact .non
  | bl x=>exact .bl x
  | int i=>exact .int i
  | str x=>exact .str x
  | flt x=>exact .flt x
  | lst e=>exact .lst (s _ _ e)
  | frz e=>exact .frz (s _ _ e)
  | tup e=>exact .tup (s _ _ e)
  | dK e=>exact .dK (s _ _ e)
  | dT e=>exact .dT (s _ _ e)
  | ins e cl ha hn htk hm=>exact .ins (s _ _ e) cl ha hn htk hm
theorem Lf.same {K : PySem.W.Frag} {H H' : Hp} {v : V} (s : Same H H') (h : Lf K H v) : Lf K H' v:=by
  obtain ⟨t,ty,k⟩:=h
  exact ⟨t,TyOf.same s ty,k⟩
section
variable {P : Program} {w : World} {K : PySem.W.Frag} {mg : Str→Option Value} {base : Heap} {a : Ad}
def GMade (K : PySem.W.Frag) (a : Ad) (H : Hp) : Gx→V→Prop
  | .num v,r=>∃ p dx,r = .ref p∧H p = some (.ins a.c_Num dx [("value",v)])∧Lf K H v
  | .name v,r=>∃ p dx,r = .ref p∧H p = some (.ins a.c_Name dx [("word",v)])∧Lf K H v
  | .two wd e f,r=>∃ p dx u1 u2,r = .ref p∧H p = some (.ins a.c_Two dx [("word",wd),("one",u1),("other",u2)])∧Lf K H wd∧GMade K a H e u1∧GMade K a H f u2
  | .mod e n,r=>∃ p dx u1,r = .ref p∧H p = some (.ins a.c_Mod dx [("inner",u1),("number",n)])∧Lf K H n∧GMade K a H e u1
  | .less e f g h,r=>∃ p dx u1 u2 u3 u4,r = .ref p∧H p = some (.ins a.c_Less dx [("one",u1),("other",u2),("third",u3),("fourth",u4)])∧GMade K a H e u1∧GMade K a H f u2∧GMade K a H g u3∧GMade K a H h u4
  | .oth v,r=>r = v∧∃ t,TyOf K H v t∧PySem.W.kitOne K t (.ref a.c_Num) = some false∧PySem.W.kitOne K t (.ref a.c_Name) = some false∧PySem.W.kitOne K t (.ref a.c_Two) = some false∧PySem.W.kitOne K t (.ref a.c_Mod) = some false∧PySem.W.kitOne K t (.ref a.c_Less) = some false
theorem GMade.same {H H' : Hp} (s : Same H H') : ∀ {g : Gx} {r : V},GMade K a H g r→GMade K a H' g r
  | .num _,_,⟨p,dx,e,h,l⟩=>⟨p,dx,e,s _ _ h,l.same s⟩
  | .name _,_,⟨p,dx,e,h,l⟩=>⟨p,dx,e,s _ _ h,l.same s⟩
  | .two _ _ _,_,⟨p,dx,u1,u2,e,h,l,t1,t2⟩=>⟨p,dx,u1,u2,e,s _ _ h,l.same s,t1.same s,t2.same s⟩
  | .mod _ _,_,⟨p,dx,u1,e,h,l,t1⟩=>⟨p,dx,u1,e,s _ _ h,l.same s,t1.same s⟩
  | .less _ _ _ _,_,⟨p,dx,u1,u2,u3,u4,e,h,t1,t2,t3,t4⟩=>⟨p,dx,u1,u2,u3,u4,e,s _ _ h,t1.same s,t2.same s,t3.same s,t4.same s⟩
  | .oth _,_,⟨e,t,ty,k⟩=>⟨e,t,TyOf.same s ty,k⟩
theorem lf_int (T : Txt w K mg a) {H : Hp} (i : Int) : Lf K H (.int i):=⟨_,.int i,T.k_tint_tint,T.k_tint_tbool,T.k_tint_tstr⟩
theorem lf_str (T : Txt w K mg a) {H : Hp} (x : Str) : Lf K H (.str x):=⟨_,.str x,T.k_tstr_tint,T.k_tstr_tbool,T.k_tstr_tstr⟩
theorem Made.gx (T : Txt w K mg a) {H : Hp} : ∀ {e : Ex} {r : V},Made a H e r→GMade K a H e.gx r
  | .num i,_,⟨p,dx,e,h⟩=>⟨p,dx,e,h,lf_int T i⟩
  | .name x,_,⟨p,dx,e,h⟩=>⟨p,dx,e,h,lf_str T x⟩
  | .two w _ _,_,⟨p,dx,u1,u2,e,h,t1,t2⟩=>⟨p,dx,u1,u2,e,h,lf_str T w,t1.gx T,t2.gx T⟩
  | .mod _ n,_,⟨p,dx,u1,e,h,t1⟩=>⟨p,dx,u1,e,h,lf_int T n,t1.gx T⟩
  | .less _ _ _ _,_,⟨p,dx,u1,u2,u3,u4,e,h,t1,t2,t3,t4⟩=>⟨p,dx,u1,u2,u3,u4,e,h,t1.gx T,t2.gx T,t3.gx T,t4.gx T⟩
def GMs (K : PySem.W.Frag) (a : Ad) (H : Hp) (rs : List V) (gs : List Gx) : Prop:=rs.length = gs.length∧∀ (i : Nat) r,rs[i]? = some r→∃ g,gs[i]? = some g∧GMade K a H g r
def spSound (K : PySem.W.Frag) (a : Ad) (n : Nat) : Sp:=fun vs H Q _=>∃ (g : Gx) (r : V) (nm : Addr) (names : List Str) (d : Int),vs = [r,.ref nm,.int d]∧GMade K a H g r∧(∀ H,SqT K H nm (names.map V.str))∧0 ≤ d∧d < n∧∀ H',Same H H'→Q (.bl (g.sound names d.toNat)) H'
def spAre (K : PySem.W.Frag) (a : Ad) (n : Nat) : Sp:=fun vs H Q _=>∃ (l : Addr) (rs : List V) (gs : List Gx) (nm : Addr) (names : List Str) (d : Int),vs = [.ref l,.ref nm,.int d]∧H l = some (.lst rs)∧GMs K a H rs gs∧(∀ H,SqT K H nm (names.map V.str))∧0 ≤ d∧d < n∧∀ H',Same H H'→Q (.bl (gs.all (Gx.sound names d.toNat))) H'
theorem ok_are (T : Txt w K mg a) {n : Nat} (I : FnOk P w K mg base CX0 (2 * n + 1) a.f_qf a.d_qf ["expr", "names", "deep"] (spSound K a n)) : FnOk P w K mg base CX0 (2 * n + 2) a.f_qe a.d_qe ["parts", "names", "deep"] (spAre K a n):=by
  have c_qf : Callee P w K mg base "is_sound" a.f_qf a.d_qf ["expr", "names", "deep"] (2 * n + 1) (spSound K a n):=⟨I,T.g_qf,T.F_qf.kp,T.b_qf⟩
  refine T.F_qe.ok sc_qe (fun vs H Q E h=>?_) (fun cdv A outer s H vs Q E hr h=>?_)
  · obtain ⟨l,rs,gs,nm,names,d,rfl,_⟩:=h
    rfl
  · obtain ⟨l,rs,gs,nm,names,d,rfl,hl,⟨hlen,hgm⟩,hn,d0,d1,k⟩:=h
    refine bx_in (w_pss_cons (w_ps_for PassesOwn.never rfl (w_pi_list (w_pv 0)) (w_pg_name (i:=3) sc_qe.nd rfl (Or.inl rfl))
        (w_pss_one (w_ps_if (w_pt_not (w_pt_val (w_pe_c c_qf (hr.mono (by omega)) (w_pa_N (w_pv 3) (w_pa_N (w_pv 1) (w_pa_N (w_pv 2) w_pa_nil))))))
          (w_pss_one (w_ps_ret w_pe_bl))
          w_pss_nil)))
      (w_pss_one (w_ps_ret w_pe_bl))) ?_
    refine ⟨_,rfl,l,rfl,⟨_,SqL.of hl⟩,?_⟩
    refine for_list (K:=K) (a:=l) (xs:=rs) (fun i σ H'=>∃ o,σ = [some (.ref l),some (.ref nm),some (.int d),o]∧Same H H'∧(gs.take i).all (Gx.sound names d.toNat) = true) ?_ ?_ ?_ ?_
    · exact ⟨none,rfl,Same.refl H,by simp⟩
    · rintro i σ H' _ ⟨o,_,sm,_⟩
      exact SqL.of (sm _ _ hl)
    · rintro i x σ H' hi ⟨o,rfl,sm,ha⟩
      obtain ⟨g,hg,gm⟩:=hgm i x hi
      refine ⟨_,rfl,_,rfl,_,rfl,g,x,nm,names,d,rfl,gm.same sm,hn,d0,d1,fun H1 s1=>⟨_,rfl,?_⟩⟩
      have hi' : i < gs.length:=(List.getElem?_eq_some_iff.mp hg).1
      by_cases q : g.sound names d.toNat = true
      · refine iteN (by rw [q]; rfl) ?_
        refine ⟨_,rfl,sm.trans s1,?_⟩
        rw [List.take_add_one,hg,List.all_append,ha]
        simp [q]
      · have q:=Bool.eq_false_iff.mpr q
        refine iteB (by rw [q]; rfl) ?_
        have e : gs.all (Gx.sound names d.toNat) = false:=by
          rw [List.all_eq_false]
          exact ⟨g,List.mem_of_getElem? hg,by rw [q]; simp⟩
        have:=k H1 (sm.trans s1)
        rw [e] at this
        exact this
    · rintro σ H' ⟨o,rfl,sm,ha⟩
      rw [hlen,List.take_length] at ha
      have:=k H' sm
      rw [ha] at this
      exact this
theorem gms2 {H : Hp} {u1 u2 : V} {g1 g2 : Gx} (h1 : GMade K a H g1 u1) (h2 : GMade K a H g2 u2) : GMs K a H [u1,u2] [g1,g2]:=⟨rfl,fun i r e=>by
  match i,e with
  | 0,e=>cases e; exact ⟨_,rfl,h1⟩
  | 1,e=>cases e; exact ⟨_,rfl,h2⟩
  | _ + 2,e=>simp at e⟩
theorem gms4 {H : Hp} {u1 u2 u3 u4 : V} {g1 g2 g3 g4 : Gx} (h1 : GMade K a H g1 u1) (h2 : GMade K a H g2 u2) (h3 : GMade K a H g3 u3) (h4 : GMade K a H g4 u4) : GMs K a H [u1,u2,u3,u4] [g1,g2,g3,g4]:=⟨rfl,fun i r e=>by
  match i,e with
  | 0,e=>cases e; exact ⟨_,rfl,h1⟩
  | 1,e=>cases e; exact ⟨_,rfl,h2⟩
  | 2,e=>cases e; exact ⟨_,rfl,h3⟩
  | 3,e=>cases e; exact ⟨_,rfl,h4⟩
  | _ + 4,e=>simp at e⟩
theorem ok_is_sound (T : Txt w K mg a) {n : Nat} (I : FnOk P w K mg base CX0 (2 * n + 1) a.f_qf a.d_qf ["expr", "names", "deep"] (spSound K a n)) : FnOk P w K mg base CX0 (2 * n + 3) a.f_qf a.d_qf ["expr", "names", "deep"] (spSound K a (n + 1)):=by
  have c_qf : Callee P w K mg base "is_sound" a.f_qf a.d_qf ["expr", "names", "deep"] (2 * n + 1) (spSound K a n):=⟨I,T.g_qf,T.F_qf.kp,T.b_qf⟩
  have c_qe : Callee P w K mg base "are_sound" a.f_qe a.d_qe ["parts", "names", "deep"] (2 * n + 2) (spAre K a n):=⟨ok_are T I,T.g_qe,T.F_qe.kp,T.b_qe⟩
  have c_qb : Callee P w K mg base "is_short_number" a.f_qb a.d_qb ["value"] 2 (spLf K shortN):=⟨ok_is_short T,T.g_qb,T.F_qb.kp,T.b_qb⟩
  have c_qd : Callee P w K mg base "is_divisor" a.f_qd a.d_qd ["number"] 2 (spLf K divr):=⟨ok_is_divisor T,T.g_qd,T.F_qd.kp,T.b_qd⟩
  have c_qc : Callee P w K mg base "is_word_of" a.f_qc a.d_qc ["word", "words"] 1 (spWord K):=⟨ok_is_word T,T.g_qc,T.F_qc.kp,T.b_qc⟩
  refine T.F_qf.ok sc_qf (fun vs H Q E h=>?_) (fun cdv A outer s H vs Q E hr h=>?_)
  · obtain ⟨g,r,nm,names,d,rfl,_⟩:=h
    rfl
  · obtain ⟨g,r,nm,names,d,rfl,gm,hn,d0,d1,k⟩:=h
    refine bx_in (w_pss_cons (w_ps_if (w_pt_cmpR op_eq (w_pv 2) w_pe_int (nomark _))
        (w_pss_one (w_ps_ret w_pe_bl))
        w_pss_nil)
      (w_pss_cons (w_ps_if (w_pt_val (w_pe_callB call_isi (by rfl) T.n_isinstance bt_isinstance (w_pa_N (w_pv 0) (w_pa_N (w_pe_cls T.g_Num) w_pa_nil))))
        (w_pss_one (w_ps_ret (w_pe_c c_qb (hr.mono (by omega)) (w_pa_cons (w_pe_fld (w_pv 0) rfl) w_pa_nil))))
        w_pss_nil)
      (w_pss_cons (w_ps_if (w_pt_val (w_pe_callB call_isi (by rfl) T.n_isinstance bt_isinstance (w_pa_N (w_pv 0) (w_pa_N (w_pe_cls T.g_Name) w_pa_nil))))
        (w_pss_one (w_ps_ret (w_pe_c c_qc (hr.mono (by omega)) (w_pa_cons (w_pe_fld (w_pv 0) rfl) (w_pa_N (w_pv 1) w_pa_nil)))))
        w_pss_nil)
      (w_pss_cons (w_ps_if (w_pt_val (w_pe_callB call_isi (by rfl) T.n_isinstance bt_isinstance (w_pa_N (w_pv 0) (w_pa_N (w_pe_cls T.g_Two) w_pa_nil))))
        (w_pss_one (w_ps_ret (w_pe_and (w_pe_c c_qc (hr.mono (by omega)) (w_pa_cons (w_pe_fld (w_pv 0) rfl) (w_pa_N (w_pe_glob (v:=.ref a.t_TWO_WORDS) rfl T.g_TWO_WORDS rfl) w_pa_nil))) (w_pe_one (w_pe_c c_qe (hr.mono (by omega)) (w_pa_cons (w_pe_lst (w_pa_cons (w_pe_fld (w_pv 0) rfl) (w_pa_cons (w_pe_fld (w_pv 0) rfl) w_pa_nil))) (w_pa_N (w_pv 1) (w_pa_B (w_pe_op op_sub (w_pv 2) w_pe_int) w_pa_nil))))))))
        w_pss_nil)
      (w_pss_cons (w_ps_if (w_pt_val (w_pe_callB call_isi (by rfl) T.n_isinstance bt_isinstance (w_pa_N (w_pv 0) (w_pa_N (w_pe_cls T.g_Mod) w_pa_nil))))
        (w_pss_one (w_ps_ret (w_pe_and (w_pe_c c_qd (hr.mono (by omega)) (w_pa_cons (w_pe_fld (w_pv 0) rfl) w_pa_nil)) (w_pe_one (w_pe_c c_qf (hr.mono (by omega)) (w_pa_cons (w_pe_fld (w_pv 0) rfl) (w_pa_N (w_pv 1) (w_pa_B (w_pe_op op_sub (w_pv 2) w_pe_int) w_pa_nil))))))))
        w_pss_nil)
      (w_pss_cons (w_ps_if (w_pt_val (w_pe_callB call_isi (by rfl) T.n_isinstance bt_isinstance (w_pa_N (w_pv 0) (w_pa_N (w_pe_cls T.g_Less) w_pa_nil))))
        (w_pss_one (w_ps_ret (w_pe_c c_qe (hr.mono (by omega)) (w_pa_cons (w_pe_lst (w_pa_cons (w_pe_fld (w_pv 0) rfl) (w_pa_cons (w_pe_fld (w_pv 0) rfl) (w_pa_cons (w_pe_fld (w_pv 0) rfl) (w_pa_cons (w_pe_fld (w_pv 0) rfl) w_pa_nil))))) (w_pa_N (w_pv 1) (w_pa_B (w_pe_op op_sub (w_pv 2) w_pe_int) w_pa_nil))))))
        w_pss_nil)
      (w_pss_one (w_ps_ret w_pe_bl)))))))) ?_
    refine ⟨_,rfl,rfl,_,rfl,?_⟩
    refine ite2 (fun q=>?_) (fun q=>?_)
    · have e : d = 0:=by simpa using q
      subst e
      exact k H (Same.refl H)
    have hd : d ≠ 0:=fun e=>q (by subst e; rfl)
    have e1 : d.toNat = (d - 1).toNat + 1:=by omega
    rw [e1] at k
    have b0 : 0 ≤ d - 1:=by omega
    have b1 : d - 1 < n:=by omega
    cases g with
    | num v =>
      obtain ⟨p,dx,rfl,hp,lf⟩:=gm
      refine ⟨_,rfl,_,_,_,_,_,rfl,rfl,T.ty_Num H p dx _ hp,T.k_Num_Num,_,rfl,iteT ?_⟩
      exact ⟨_,rfl,p,_,dx,_,_,rfl,hp,T.cl_Num,T.na_Num_value,rfl,v,rfl,lf,k H (Same.refl H)⟩
    | name v =>
      obtain ⟨p,dx,rfl,hp,lf⟩:=gm
      refine ⟨_,rfl,_,_,_,_,_,rfl,rfl,T.ty_Name H p dx _ hp,T.k_Name_Num,_,rfl,iteF ?_⟩
      refine ⟨_,rfl,_,_,_,_,_,rfl,rfl,T.ty_Name H p dx _ hp,T.k_Name_Name,_,rfl,iteT ?_⟩
      exact ⟨_,rfl,p,_,dx,_,_,rfl,hp,T.cl_Name,T.na_Name_word,rfl,_,rfl,v,nm,names,rfl,lf,hn H,k H (Same.refl H)⟩
    | two wd g1 g2 =>
      obtain ⟨p,dx,u1,u2,rfl,hp,lf,m1,m2⟩:=gm
      refine ⟨_,rfl,_,_,_,_,_,rfl,rfl,T.ty_Two H p dx _ hp,T.k_Two_Num,_,rfl,iteF ?_⟩
      refine ⟨_,rfl,_,_,_,_,_,rfl,rfl,T.ty_Two H p dx _ hp,T.k_Two_Name,_,rfl,iteF ?_⟩
      refine ⟨_,rfl,_,_,_,_,_,rfl,rfl,T.ty_Two H p dx _ hp,T.k_Two_Two,_,rfl,iteT ?_⟩
      refine ⟨_,rfl,p,_,dx,_,_,rfl,hp,T.cl_Two,T.na_Two_word,rfl,wd,_,twoWs,rfl,lf,T.s_TWO_WORDS H,_,rfl,?_⟩
      have k' : ∀ H',Same H H'→Q (.bl (wordIn twoWs wd && ([g1,g2].all (Gx.sound names (d - 1).toNat)))) H':=k
      by_cases qw : wordIn twoWs wd = true
      · rw [qw] at k'
        refine iteB qw ?_
        refine ⟨_,rfl,p,_,dx,_,_,rfl,hp,T.cl_Two,T.na_Two_one,rfl,_,rfl,p,_,dx,_,_,rfl,hp,T.cl_Two,T.na_Two_other,rfl,(by show 2 ≤ sizeLine; decide),fun lp hlp=>?_⟩
        have s1:=Same.new (o:=HO.lst [u1,u2]) hlp
        exact ⟨_,rfl,_,rfl,_,_,rfl,rfl,lp,_,_,nm,names,d - 1,rfl,upd_same,gms2 (m1.same s1) (m2.same s1),hn,b0,b1,fun H2 s2=>k' H2 (s1.trans s2)⟩
      · have qw:=Bool.eq_false_iff.mpr qw
        rw [qw] at k'
        exact iteN qw (k' H (Same.refl H))
    | mod g1 v =>
      obtain ⟨p,dx,u1,rfl,hp,lf,m1⟩:=gm
      refine ⟨_,rfl,_,_,_,_,_,rfl,rfl,T.ty_Mod H p dx _ hp,T.k_Mod_Num,_,rfl,iteF ?_⟩
      refine ⟨_,rfl,_,_,_,_,_,rfl,rfl,T.ty_Mod H p dx _ hp,T.k_Mod_Name,_,rfl,iteF ?_⟩
      refine ⟨_,rfl,_,_,_,_,_,rfl,rfl,T.ty_Mod H p dx _ hp,T.k_Mod_Two,_,rfl,iteF ?_⟩
      refine ⟨_,rfl,_,_,_,_,_,rfl,rfl,T.ty_Mod H p dx _ hp,T.k_Mod_Mod,_,rfl,iteT ?_⟩
      refine ⟨_,rfl,p,_,dx,_,_,rfl,hp,T.cl_Mod,T.na_Mod_number,rfl,v,rfl,lf,_,rfl,?_⟩
      have k' : ∀ H',Same H H'→Q (.bl (divr v && g1.sound names (d - 1).toNat)) H':=k
      by_cases qw : divr v = true
      · rw [qw] at k'
        refine iteB qw ?_
        exact ⟨_,rfl,p,_,dx,_,_,rfl,hp,T.cl_Mod,T.na_Mod_inner,rfl,_,rfl,_,rfl,_,_,rfl,rfl,g1,u1,nm,names,d - 1,rfl,m1,hn,b0,b1,k'⟩
      · have qw:=Bool.eq_false_iff.mpr qw
        rw [qw] at k'
        exact iteN qw (k' H (Same.refl H))
    | less g1 g2 g3 g4 =>
      obtain ⟨p,dx,u1,u2,u3,u4,rfl,hp,m1,m2,m3,m4⟩:=gm
      refine ⟨_,rfl,_,_,_,_,_,rfl,rfl,T.ty_Less H p dx _ hp,T.k_Less_Num,_,rfl,iteF ?_⟩
      refine ⟨_,rfl,_,_,_,_,_,rfl,rfl,T.ty_Less H p dx _ hp,T.k_Less_Name,_,rfl,iteF ?_⟩
      refine ⟨_,rfl,_,_,_,_,_,rfl,rfl,T.ty_Less H p dx _ hp,T.k_Less_Two,_,rfl,iteF ?_⟩
      refine ⟨_,rfl,_,_,_,_,_,rfl,rfl,T.ty_Less H p dx _ hp,T.k_Less_Mod,_,rfl,iteF ?_⟩
      refine ⟨_,rfl,_,_,_,_,_,rfl,rfl,T.ty_Less H p dx _ hp,T.k_Less_Less,_,rfl,iteT ?_⟩
      refine ⟨_,rfl,p,_,dx,_,_,rfl,hp,T.cl_Less,T.na_Less_one,rfl,_,rfl,p,_,dx,_,_,rfl,hp,T.cl_Less,T.na_Less_other,rfl,_,rfl,p,_,dx,_,_,rfl,hp,T.cl_Less,T.na_Less_third,rfl,_,rfl,p,_,dx,_,_,rfl,hp,T.cl_Less,T.na_Less_fourth,rfl,(by show 4 ≤ sizeLine; decide),fun lp hlp=>?_⟩
      have s1:=Same.new (o:=HO.lst [u1,u2,u3,u4]) hlp
      exact ⟨_,rfl,_,rfl,_,_,rfl,rfl,lp,_,_,nm,names,d - 1,rfl,upd_same,gms4 (m1.same s1) (m2.same s1) (m3.same s1) (m4.same s1),hn,b0,b1,fun H2 s2=>k H2 (s1.trans s2)⟩
    | oth v =>
      obtain ⟨rfl,t,ty,n1,n2,n3,n4,n5⟩:=gm
      refine ⟨_,rfl,_,_,_,_,_,rfl,rfl,ty,n1,_,rfl,iteF ?_⟩
      refine ⟨_,rfl,_,_,_,_,_,rfl,rfl,ty,n2,_,rfl,iteF ?_⟩
      refine ⟨_,rfl,_,_,_,_,_,rfl,rfl,ty,n3,_,rfl,iteF ?_⟩
      refine ⟨_,rfl,_,_,_,_,_,rfl,rfl,ty,n4,_,rfl,iteF ?_⟩
      refine ⟨_,rfl,_,_,_,_,_,rfl,rfl,ty,n5,_,rfl,iteF ?_⟩
      exact k H (Same.refl H)
theorem sound0 {k : Nat} : FnOk P w K mg base CX0 k a.f_qf a.d_qf ["expr", "names", "deep"] (spSound K a 0) :=
  ⟨fun vs H Q E h=>by
    obtain ⟨g,r,nm,names,d,rfl,_⟩:=h
    rfl,fun A outer s H args us vs Q E _ _ _ _ h=>by
    obtain ⟨g,r,nm,names,d,_,_,_,d0,d1,_⟩:=h
    exact absurd d1 (by simp; omega)⟩
theorem sounds (T : Txt w K mg a) : ∀ n,FnOk P w K mg base CX0 (2 * n + 1) a.f_qf a.d_qf ["expr", "names", "deep"] (spSound K a n)
  | 0=>sound0
  | n + 1=>ok_is_sound T (sounds T n)
end
end K04

namespace K04
open PySem L2
theorem log_num {i : Int} (h : -100000000000000000000 < i∧i < 100000000000000000000) : i.natAbs.log2 < 1920:=by
  by_cases h0 : i.natAbs = 0
  · rw [h0]; decide
  · have:=(Nat.log2_lt h0 (k:=67)).mpr (Nat.lt_of_le_of_lt (show i.natAbs ≤ 100000000000000000000 by omega) (by decide))
    omega
section
variable {P : Program} {w : World} {K : PySem.W.Frag} {mg : Str→Option Value} {base : Heap} {a : Ad}
def spWords (a : Ad) (n : Nat) (Kd : Ex→Prop) : Sp:=fun vs H Q _=>∃ (e : Ex) (r : V) (names : List Str),vs = [r]∧Kd e∧Made a H e r∧e.ok names∧e.dep ≤ n∧e.size ≤ sizeLine∧∀ p H',H' p = some (.lst (e.words.map V.str))→Same H H'→Q (.ref p) H'
structure Wordss (P : Program) (w : World) (K : PySem.W.Frag) (mg : Str→Option Value) (base : Heap) (a : Ad) (n : Nat) : Prop where
  num : FnOk P w K mg base CX0 (n + 1) a.f_qA a.d_qA ["self"] (spWords a n isNum)
  name : FnOk P w K mg base CX0 (n + 1) a.f_qC a.d_qC ["self"] (spWords a n isName)
  two : FnOk P w K mg base CX0 (n + 1) a.f_qE a.d_qE ["self"] (spWords a n isTwo)
  mod : FnOk P w K mg base CX0 (n + 1) a.f_qG a.d_qG ["self"] (spWords a n isMod)
  less : FnOk P w K mg base CX0 (n + 1) a.f_qI a.d_qI ["self"] (spWords a n isLess)
theorem Wordss.call {n : Nat} (R : Wordss P w K mg base a n) (T : Txt w K mg a) {A : Around} (hr : Room (n + 1) A) {H : Hp} {e : Ex} {x : V} {names : List Str} (hM : Made a H e x) (ho : e.ok names) (hd : e.dep ≤ n) (hs : e.size ≤ sizeLine) :
    ∃ (p C dx : Addr) (fs : List (Str × V)) (f : Addr) (fd : FuncData) (ps : List Str) (k : Nat) (sp : Sp),x = .ref p∧H p = some (.ins C dx fs)∧fs.lookup ("words" : Str) = none∧Cls K C∧Meth K C "words" f∧FnOk P w K mg base CX0 k f fd ps sp∧Room k A∧Binds K fd ps [] ∧
      ∀ Q : VK,(∀ p H',H' p = some (.lst (e.words.map V.str))→Same H H'→Q (.ref p) H')→sp (x :: ([] ++ [])) H Q E0:=by
  cases e with
  | num i =>
    obtain ⟨p,dx,rfl,hp⟩:=id hM
    exact ⟨p,_,dx,_,_,_,_,_,_,rfl,hp,rfl,T.cl_Num,T.mt_qA,R.num,hr,T.b_qA,fun Q q=>⟨_,_,names,rfl,⟨_,rfl⟩,hM,ho,hd,hs,q⟩⟩
  | name i =>
    obtain ⟨p,dx,rfl,hp⟩:=id hM
    exact ⟨p,_,dx,_,_,_,_,_,_,rfl,hp,rfl,T.cl_Name,T.mt_qC,R.name,hr,T.b_qC,fun Q q=>⟨_,_,names,rfl,⟨_,rfl⟩,hM,ho,hd,hs,q⟩⟩
  | two i e1 e2 =>
    obtain ⟨p,dx,u1,u2,rfl,hp,_⟩:=id hM
    exact ⟨p,_,dx,_,_,_,_,_,_,rfl,hp,rfl,T.cl_Two,T.mt_qE,R.two,hr,T.b_qE,fun Q q=>⟨_,_,names,rfl,⟨_,_,_,rfl⟩,hM,ho,hd,hs,q⟩⟩
  | mod e1 i =>
    obtain ⟨p,dx,u1,rfl,hp,_⟩:=id hM
    exact ⟨p,_,dx,_,_,_,_,_,_,rfl,hp,rfl,T.cl_Mod,T.mt_qG,R.mod,hr,T.b_qG,fun Q q=>⟨_,_,names,rfl,⟨_,_,rfl⟩,hM,ho,hd,hs,q⟩⟩
  | less e1 e2 e3 e4 =>
    obtain ⟨p,dx,u1,u2,u3,u4,rfl,hp,_⟩:=id hM
    exact ⟨p,_,dx,_,_,_,_,_,_,rfl,hp,rfl,T.cl_Less,T.mt_qI,R.less,hr,T.b_qI,fun Q q=>⟨_,_,names,rfl,⟨_,_,_,_,rfl⟩,hM,ho,hd,hs,q⟩⟩
theorem ok_Num_words (T : Txt w K mg a) (n : Nat) : FnOk P w K mg base CX0 (n + 1) a.f_qA a.d_qA ["self"] (spWords a n isNum):=by
  refine T.F_qA.ok sc_qA (fun vs H Q E h=>?_) (fun cdv A outer s H vs Q E hr h=>?_)
  · obtain ⟨e,r,names,rfl,_⟩:=h
    rfl
  · obtain ⟨e,r,names,rfl,⟨i,rfl⟩,⟨p,dx,rfl,hp⟩,ho,_,_,k⟩:=h
    refine bx_in (w_pss_one (w_ps_ret (w_pe_lst (w_pa_K (w_pe_callTy call_str_int (by rfl) T.n_str bt_str (w_pa_cons (w_pe_fld (w_pv 0) rfl) w_pa_nil)) w_pa_nil)))) ?_
    refine ⟨_,rfl,p,_,dx,_,_,rfl,hp,T.cl_Num,T.na_Num_value,rfl,i,rfl,log_num ho,(by show 1 ≤ sizeLine; decide),fun q hq=>?_⟩
    exact k _ _ upd_same (Same.new hq)
theorem ok_Name_words (T : Txt w K mg a) (n : Nat) : FnOk P w K mg base CX0 (n + 1) a.f_qC a.d_qC ["self"] (spWords a n isName):=by
  refine T.F_qC.ok sc_qC (fun vs H Q E h=>?_) (fun cdv A outer s H vs Q E hr h=>?_)
  · obtain ⟨e,r,names,rfl,_⟩:=h
    rfl
  · obtain ⟨e,r,names,rfl,⟨i,rfl⟩,⟨p,dx,rfl,hp⟩,ho,_,_,k⟩:=h
    refine bx_in (w_pss_one (w_ps_ret (w_pe_lst (w_pa_cons (w_pe_fld (w_pv 0) rfl) w_pa_nil)))) ?_
    refine ⟨_,rfl,p,_,dx,_,_,rfl,hp,T.cl_Name,T.na_Name_word,rfl,(by show 1 ≤ sizeLine; decide),fun q hq=>?_⟩
    exact k _ _ upd_same (Same.new hq)
theorem ok_Two_words (T : Txt w K mg a) {n : Nat} (R : Wordss P w K mg base a n) : FnOk P w K mg base CX0 (n + 2) a.f_qE a.d_qE ["self"] (spWords a (n + 1) isTwo):=by
  refine T.F_qE.ok sc_qE (fun vs H Q E h=>?_) (fun cdv A outer s H vs Q E hr h=>?_)
  · obtain ⟨e,r,names,rfl,_⟩:=h
    rfl
  · obtain ⟨e,r,names,rfl,⟨wd,e1,e2,rfl⟩,⟨p,dx,u1,u2,rfl,hp,m1,m2⟩,⟨_,o1,o2⟩,hdep,hz,k⟩:=h
    have hdep : max e1.dep e2.dep + 1 ≤ n + 1:=hdep
    have hz : 1 + e1.size + e2.size ≤ sizeLine:=hz
    have l1:=e1.words_len
    have l2:=e2.words_len
    refine bx_in (w_pss_one (w_ps_ret (w_pe_op op_cat (w_pe_op op_cat (w_pe_lst (w_pa_cons (w_pe_fld (w_pv 0) rfl) w_pa_nil)) (w_pe_meth0D (w_pe_fld (w_pv 0) rfl))) (w_pe_meth0D (w_pe_fld (w_pv 0) rfl))))) ?_
    refine ⟨_,rfl,p,_,dx,_,_,rfl,hp,T.cl_Two,T.na_Two_word,rfl,(by show 1 ≤ sizeLine; decide),fun q0 hq0=>?_⟩
    have s0:=Same.new (o:=HO.lst [V.str wd]) hq0
    refine ⟨_,rfl,p,_,dx,_,_,rfl,s0 _ _ hp,T.cl_Two,T.na_Two_one,rfl,?_⟩
    obtain ⟨p1,c1,x1,f1,f2,f3,f4,f5,f6,q1,q2,q3,q4,q5,q6,q7,q8,q9⟩:=R.call T hr (m1.same s0) o1 (by omega) (by omega)
    refine ⟨p1,c1,x1,f1,f2,f3,f4,f5,f6,q1,q2,q3,q4,q5,q6,q7,q8,q9 _ fun w1 H1 t1 s1=>?_⟩
    refine ⟨q0,w1,_,_,rfl,rfl,s1 _ _ upd_same,t1,(by simp [l1]; omega),fun q2 hq2=>?_⟩
    have s2:=s0.trans (s1.trans (Same.new (o:=HO.lst ([V.str wd] ++ e1.words.map V.str)) hq2))
    refine ⟨_,rfl,p,_,dx,_,_,rfl,s2 _ _ hp,T.cl_Two,T.na_Two_other,rfl,?_⟩
    obtain ⟨p1,c1,x1,f1,f2,f3,f4,f5,f6,z1,z2,z3,z4,z5,z6,z7,z8,z9⟩:=R.call T hr (m2.same s2) o2 (by omega) (by omega)
    refine ⟨p1,c1,x1,f1,f2,f3,f4,f5,f6,z1,z2,z3,z4,z5,z6,z7,z8,z9 _ fun w2 H2 t2 s3=>?_⟩
    refine ⟨q2,w2,_,_,rfl,rfl,s3 _ _ upd_same,t2,(by simp [l1,l2]; omega),fun q4 hq4=>?_⟩
    refine k _ _ ?_ (s2.trans (s3.trans (Same.new hq4)))
    rw [upd_same]
    simp [Ex.words]
theorem ok_Mod_words (T : Txt w K mg a) {n : Nat} (R : Wordss P w K mg base a n) : FnOk P w K mg base CX0 (n + 2) a.f_qG a.d_qG ["self"] (spWords a (n + 1) isMod):=by
  refine T.F_qG.ok sc_qG (fun vs H Q E h=>?_) (fun cdv A outer s H vs Q E hr h=>?_)
  · obtain ⟨e,r,names,rfl,_⟩:=h
    rfl
  · obtain ⟨e,r,names,rfl,⟨e1,i,rfl⟩,⟨p,dx,u1,rfl,hp,m1⟩,⟨⟨i1,i2⟩,o1⟩,hdep,hz,k⟩:=h
    have hdep : e1.dep + 1 ≤ n + 1:=hdep
    have hz : 2 + e1.size ≤ sizeLine:=hz
    have l1:=e1.words_len
    refine bx_in (w_pss_one (w_ps_ret (w_pe_op op_cat (w_pe_op op_cat (w_pe_lst (w_pa_C w_pe_str w_pa_nil)) (w_pe_meth0D (w_pe_fld (w_pv 0) rfl))) (w_pe_lst (w_pa_K (w_pe_callTy call_str_int (by rfl) T.n_str bt_str (w_pa_cons (w_pe_fld (w_pv 0) rfl) w_pa_nil)) w_pa_nil))))) ?_
    refine ⟨by show 1 ≤ sizeLine; decide,fun q0 hq0=>?_⟩
    have s0:=Same.new (o:=HO.lst [V.str "mod"]) hq0
    refine ⟨_,rfl,p,_,dx,_,_,rfl,s0 _ _ hp,T.cl_Mod,T.na_Mod_inner,rfl,?_⟩
    obtain ⟨p1,c1,x1,f1,f2,f3,f4,f5,f6,q1,q2,q3,q4,q5,q6,q7,q8,q9⟩:=R.call T hr (m1.same s0) o1 (by omega) (by omega)
    refine ⟨p1,c1,x1,f1,f2,f3,f4,f5,f6,q1,q2,q3,q4,q5,q6,q7,q8,q9 _ fun w1 H1 t1 s1=>?_⟩
    refine ⟨q0,w1,_,_,rfl,rfl,s1 _ _ upd_same,t1,(by simp [l1]; omega),fun q2 hq2=>?_⟩
    have s2:=s0.trans (s1.trans (Same.new (o:=HO.lst ([V.str "mod"] ++ e1.words.map V.str)) hq2))
    refine ⟨_,rfl,p,_,dx,_,_,rfl,s2 _ _ hp,T.cl_Mod,T.na_Mod_number,rfl,i,rfl,log_num (by omega),(by show 1 ≤ sizeLine; decide),fun q3 hq3=>?_⟩
    refine ⟨q2,q3,_,_,rfl,rfl,(Same.new hq3) _ _ upd_same,upd_same,(by simp [l1]; omega),fun q4 hq4=>?_⟩
    refine k _ _ ?_ (s2.trans ((Same.new hq3).trans (Same.new hq4)))
    rw [upd_same]
    simp [Ex.words]
theorem ok_Less_words (T : Txt w K mg a) {n : Nat} (R : Wordss P w K mg base a n) : FnOk P w K mg base CX0 (n + 2) a.f_qI a.d_qI ["self"] (spWords a (n + 1) isLess):=by
  refine T.F_qI.ok sc_qI (fun vs H Q E h=>?_) (fun cdv A outer s H vs Q E hr h=>?_)
  · obtain ⟨e,r,names,rfl,_⟩:=h
    rfl
  · obtain ⟨e,r,names,rfl,⟨e1,e2,e3,e4,rfl⟩,⟨p,dx,u1,u2,u3,u4,rfl,hp,m1,m2,m3,m4⟩,⟨o1,o2,o3,o4⟩,hdep,hz,k⟩:=h
    have hdep : max (max e1.dep e2.dep) (max e3.dep e4.dep) + 1 ≤ n + 1:=hdep
    have hz : 1 + e1.size + e2.size + e3.size + e4.size ≤ sizeLine:=hz
    have l1:=e1.words_len
    have l2:=e2.words_len
    have l3:=e3.words_len
    have l4:=e4.words_len
    refine bx_in (w_pss_one (w_ps_ret (w_pe_op op_cat (w_pe_op op_cat (w_pe_op op_cat (w_pe_op op_cat (w_pe_lst (w_pa_C w_pe_str w_pa_nil)) (w_pe_meth0D (w_pe_fld (w_pv 0) rfl))) (w_pe_meth0D (w_pe_fld (w_pv 0) rfl))) (w_pe_meth0D (w_pe_fld (w_pv 0) rfl))) (w_pe_meth0D (w_pe_fld (w_pv 0) rfl))))) ?_
    refine ⟨by show 1 ≤ sizeLine; decide,fun q0 hq0=>?_⟩
    have s0:=Same.new (o:=HO.lst [V.str "less"]) hq0
    refine ⟨_,rfl,p,_,dx,_,_,rfl,s0 _ _ hp,T.cl_Less,T.na_Less_one,rfl,?_⟩
    obtain ⟨p1,c1,x1,f1,f2,f3,f4,f5,f6,z1,z2,z3,z4,z5,z6,z7,z8,z9⟩:=R.call T hr (m1.same s0) o1 (by omega) (by omega)
    refine ⟨p1,c1,x1,f1,f2,f3,f4,f5,f6,z1,z2,z3,z4,z5,z6,z7,z8,z9 _ fun w1 H1 t1 y1=>?_⟩
    refine ⟨q0,w1,_,_,rfl,rfl,y1 _ _ upd_same,t1,(by simp [l1,l2,l3,l4]; omega),fun q1 hq1=>?_⟩
    have s1:=s0.trans (y1.trans (Same.new (o:=HO.lst ([V.str "less"] ++ e1.words.map V.str)) hq1))
    refine ⟨_,rfl,p,_,dx,_,_,rfl,s1 _ _ hp,T.cl_Less,T.na_Less_other,rfl,?_⟩
    obtain ⟨p1,c1,x1,f1,f2,f3,f4,f5,f6,z1,z2,z3,z4,z5,z6,z7,z8,z9⟩:=R.call T hr (m2.same s1) o2 (by omega) (by omega)
    refine ⟨p1,c1,x1,f1,f2,f3,f4,f5,f6,z1,z2,z3,z4,z5,z6,z7,z8,z9 _ fun w2 H2 t2 y2=>?_⟩
    refine ⟨q1,w2,_,_,rfl,rfl,y2 _ _ upd_same,t2,(by simp [l1,l2,l3,l4]; omega),fun q2 hq2=>?_⟩
    have s2:=s1.trans (y2.trans (Same.new (o:=HO.lst (([V.str "less"] ++ e1.words.map V.str) ++ e2.words.map V.str)) hq2))
    refine ⟨_,rfl,p,_,dx,_,_,rfl,s2 _ _ hp,T.cl_Less,T.na_Less_third,rfl,?_⟩
    obtain ⟨p1,c1,x1,f1,f2,f3,f4,f5,f6,z1,z2,z3,z4,z5,z6,z7,z8,z9⟩:=R.call T hr (m3.same s2) o3 (by omega) (by omega)
    refine ⟨p1,c1,x1,f1,f2,f3,f4,f5,f6,z1,z2,z3,z4,z5,z6,z7,z8,z9 _ fun w3 H3 t3 y3=>?_⟩
    refine ⟨q2,w3,_,_,rfl,rfl,y3 _ _ upd_same,t3,(by simp [l1,l2,l3,l4]; omega),fun q3 hq3=>?_⟩
    have s3:=s2.trans (y3.trans (Same.new (o:=HO.lst ((([V.str "less"] ++ e1.words.map V.str) ++ e2.words.map V.str) ++ e3.words.map V.str)) hq3))
    refine ⟨_,rfl,p,_,dx,_,_,rfl,s3 _ _ hp,T.cl_Less,T.na_Less_fourth,rfl,?_⟩
    obtain ⟨p1,c1,x1,f1,f2,f3,f4,f5,f6,z1,z2,z3,z4,z5,z6,z7,z8,z9⟩:=R.call T hr (m4.same s3) o4 (by omega) (by omega)
    refine ⟨p1,c1,x1,f1,f2,f3,f4,f5,f6,z1,z2,z3,z4,z5,z6,z7,z8,z9 _ fun w4 H4 t4 y4=>?_⟩
    refine ⟨q3,w4,_,_,rfl,rfl,y4 _ _ upd_same,t4,(by simp [l1,l2,l3,l4]; omega),fun q4 hq4=>?_⟩
    refine k _ _ ?_ (s3.trans (y4.trans (Same.new hq4)))
    rw [upd_same]
    simp [Ex.words]
theorem no_depW {f : Addr} {fd : FuncData} {ps : List Str} {Kd : Ex→Prop} {k : Nat} (hl : ps.length = 1) : FnOk P w K mg base CX0 k f fd ps (spWords a 0 Kd) :=
  ⟨fun vs H Q E h=>by
    obtain ⟨e,r,names,rfl,_⟩:=h
    exact hl.symm,fun A outer s H args us vs Q E _ _ _ _ h=>by
    obtain ⟨e,r,names,_,_,_,_,hd,_⟩:=h
    have:=e.dep_pos
    omega⟩
theorem wordss (T : Txt w K mg a) : ∀ n,Wordss P w K mg base a n
  | 0=>⟨no_depW rfl,no_depW rfl,no_depW rfl,no_depW rfl,no_depW rfl⟩
  | n + 1=>⟨ok_Num_words T (n + 1),ok_Name_words T (n + 1),ok_Two_words T (wordss T n),ok_Mod_words T (wordss T n),ok_Less_words T (wordss T n)⟩
end
end K04

namespace K04
open PySem L2
section
variable {P : Program} {w : World} {K : PySem.W.Frag} {mg : Str→Option Value} {base : Heap} {a : Ad}
def MadeAll (a : Ad) (H : Hp) (n : Nat) (rs : List V) (es : List Ex) : Prop:=rs.length = es.length∧∀ (i : Nat) r,rs[i]? = some r→∃ e names,es[i]? = some e∧Made a H e r∧e.ok names∧e.dep ≤ n∧e.size ≤ sizeLine
def sizes (es : List Ex) : List Int:=es.map fun e=>(e.size : Int)
def spCount (a : Ad) (n : Nat) : Sp:=fun vs H Q _=>∃ (l : Addr) (rs : List V) (es : List Ex),vs = [.ref l]∧H l = some (.lst rs)∧rs.length ≤ 1000∧MadeAll a H n rs es∧∀ H',Same H H'→Q (.int (sizes es).sum) H'
theorem ok_count (T : Txt w K mg a) (n : Nat) : FnOk P w K mg base CX0 (n + 2) a.f_qg a.d_qg ["exprs"] (spCount a n):=by
  have WW : Wordss P w K mg base a n:=wordss T n
  refine T.F_qg.ok sc_qg (fun vs H Q E h=>?_) (fun cdv A outer s H vs Q E hr h=>?_)
  · obtain ⟨l,rs,es,rfl,_⟩:=h
    rfl
  · obtain ⟨l,rs,es,rfl,hl,hz,⟨hlen,hm⟩,k⟩:=h
    refine ⟨_,(pss_one (ps_ret (pe_callB (call_sumI rfl) (by rfl) T.n_sum bt_sum (pa_cons (pe_comp rfl (N':=["expr"]) (t:=1) (caps:=[]) ⟨rfl,rfl,rfl⟩ (pi_list (pv 0)) (fun _=>(pg_name (i:=0) (show (["expr"] : List Str).Nodup by decide +kernel) rfl (Or.inl rfl))) (fun _=>pts_nil) (fun _=>(pe_callB call_len_seq (by rfl) T.n_len bt_len (pa_K (pe_meth0D (pv 0)) pa_nil)))) pa_nil)))),?_⟩
    refine ⟨_,rfl,l,rfl,⟨_,SqL.of hl⟩,fun D hD _=>?_⟩
    refine comp_list (K:=K) (a:=l) (xs:=rs) (fun i zs τ H'=>∃ o,τ = [o]∧i ≤ rs.length∧zs = ((sizes es).take i).map V.int∧H' D = some (.lst zs)∧Same H H') ?_ ?_ ?_ ?_
    · exact ⟨none,rfl,Nat.zero_le _,by simp,upd_same,Same.new hD⟩
    · rintro i zs τ H' ⟨o,_,_,_,_,sm⟩
      exact SqL.of (sm _ _ hl)
    · rintro i x zs τ H' hi ⟨o,rfl,_,rfl,hD',sm⟩
      obtain ⟨e,names,he,m,ok,dd,sz⟩:=hm i x hi
      have hi' : i < rs.length:=(List.getElem?_eq_some_iff.mp hi).1
      refine gn_if ?_
      refine ⟨_,rfl,?_⟩
      obtain ⟨p1,c1,x1,f1,f2,f3,f4,f5,f6,z1,z2,z3,z4,z5,z6,z7,z8,z9⟩:=WW.call T (A:=A.deeper (PyProof.Rows.envOfC "count_words" (defScope st_qg) s.heap.objs.size a.f_qg cdv)) hr (m.same sm) ok dd sz
      refine ⟨p1,c1,x1,f1,f2,f3,f4,f5,f6,z1,z2,z3,z4,z5,z6,z7,z8,z9 _ fun p H1 t1 s1=>?_⟩
      have ez : (sizes es)[i]? = some ((e.size : Nat) : Int):=by unfold sizes; rw [List.getElem?_map,he]; rfl
      refine ⟨p,_,rfl,.inl (SqL.of t1),s1 _ _ hD',?_,some x,rfl,hi',?_,upd_same,?_⟩
      · rw [List.length_map]
        exact small1000 (Nat.le_trans (List.length_take_le _ _) (by omega))
      · rw [List.take_add_one,ez,List.map_append,List.length_map,e.words_len]
        rfl
      · have s2:=sm.trans s1
        intro b o e
        have hb : b ≠ D:=ne_of_none e hD
        rw [upd_ne hb]
        exact s2 b o e
    · rintro zs τ H' ⟨o,rfl,_,rfl,hD',sm⟩
      have el : (sizes es).take rs.length = sizes es:=List.take_of_length_le (by unfold sizes; rw [List.length_map,hlen]; exact Nat.le_refl _)
      rw [el] at hD'
      exact ⟨D,sizes es,rfl,SqL.of hD',k H' sm⟩
abbrev startNs : List Str:=["me", "lines"]
abbrev sendNs : List Str:=["worth", "me", "round", "lines", "to"]
abbrev renewNs : List Str:=["worth", "me", "round", "lines", "sum", "least", "most", "count"]
theorem GMade.made {H : Hp} : ∀ {e : Ex} {r : V},GMade K a H e.gx r→Made a H e r
  | .num i,_,⟨p,dx,e,h,_⟩=>⟨p,dx,e,h⟩
  | .name x,_,⟨p,dx,e,h,_⟩=>⟨p,dx,e,h⟩
  | .two w _ _,_,⟨p,dx,u1,u2,e,h,_,t1,t2⟩=>⟨p,dx,u1,u2,e,h,t1.made,t2.made⟩
  | .mod _ n,_,⟨p,dx,u1,e,h,_,t1⟩=>⟨p,dx,u1,e,h,t1.made⟩
  | .less _ _ _ _,_,⟨p,dx,u1,u2,u3,u4,e,h,t1,t2,t3,t4⟩=>⟨p,dx,u1,u2,u3,u4,e,h,t1.made,t2.made,t3.made,t4.made⟩
def Good4 (g1 g2 g3 g4 : Gx) : Prop:=∃ e1 e2 e3 e4 : Ex,(g1 = e1.gx∧g2 = e2.gx∧g3 = e3.gx∧g4 = e4.gx)∧(e1.ok startNs∧e2.ok sendNs∧e3.ok sendNs∧e4.ok renewNs)∧(e1.dep ≤ 8∧e2.dep ≤ 8∧e3.dep ≤ 8∧e4.dep ≤ 8)∧e1.size + e2.size + e3.size + e4.size ≤ 60
def spProg1 (K : PySem.W.Frag) (a : Ad) : Sp:=fun vs H Q E=>∃ (p dx : Addr) (r1 r2 r3 r4 : V) (g1 g2 g3 g4 : Gx),vs = [.ref p,r1,r2,r3,r4]∧H p = some (.ins a.c_Program dx [])∧(GMade K a H g1 r1∧GMade K a H g2 r2∧GMade K a H g3 r3∧GMade K a H g4 r4) ∧
  (Good4 g1 g2 g3 g4→∀ H',Same H H'→Q .non (upd H' p (.ins a.c_Program dx [("start",r1),("send",r2),("when",r3),("renew",r4)])))∧(¬ Good4 g1 g2 g3 g4→∀ H',Same H H'→E (.ref a.c_NoProgram) none H')
theorem ok_prog1 (T : Txt w K mg a) : FnOk P w K mg base (CX1 P w) 22 a.f_qJ a.d_qJ ["self", "start", "send", "when", "renew"] (spProg1 K a):=by
  have c_qf : Callee P w K mg base "is_sound" a.f_qf a.d_qf ["expr", "names", "deep"] 19 (spSound K a 9):=⟨sounds T 9,T.g_qf,T.F_qf.kp,T.b_qf⟩
  have c_qe : Callee P w K mg base "are_sound" a.f_qe a.d_qe ["parts", "names", "deep"] 20 (spAre K a 9):=⟨ok_are T (sounds T 9),T.g_qe,T.F_qe.kp,T.b_qe⟩
  have c_qg : Callee P w K mg base "count_words" a.f_qg a.d_qg ["exprs"] 10 (spCount a 8):=⟨ok_count T 8,T.g_qg,T.F_qg.kp,T.b_qg⟩
  refine T.F_qJ.ok1 sc_qJ (fun vs H Q E h=>?_) (fun cdv A outer s H vs Q E hr h=>?_)
  · obtain ⟨p,dx,r1,r2,r3,r4,g1,g2,g3,g4,rfl,_⟩:=h
    rfl
  · obtain ⟨p,dx,r1,r2,r3,r4,g1,g2,g3,g4,rfl,hp,⟨m1,m2,m3,m4⟩,k,kx⟩:=h
    refine ⟨_,(pss_cons (ps_if (pt_not (pt_val (pe_c c_qf (hr.mono (by omega)) (pa_N (pv 1) (pa_N (pe_glob (v:=.ref a.t_START_NAMES) rfl T.g_START_NAMES rfl) (pa_N (pe_glob (v:=.int 8) rfl T.g_MOST_DEEP ⟨_,rfl⟩) pa_nil))))))
        (pss_one (ps_raise hr.hd T.xc_NoProgram T.g_NoProgram (pa_C pe_str pa_nil)))
        pss_nil)
      (pss_cons (ps_if (pt_not (pt_val (pe_c c_qe (hr.mono (by omega)) (pa_cons (pe_lst (pa_N (pv 2) (pa_N (pv 3) pa_nil))) (pa_N (pe_glob (v:=.ref a.t_SEND_NAMES) rfl T.g_SEND_NAMES rfl) (pa_N (pe_glob (v:=.int 8) rfl T.g_MOST_DEEP ⟨_,rfl⟩) pa_nil))))))
        (pss_one (ps_raise hr.hd T.xc_NoProgram T.g_NoProgram (pa_C pe_str pa_nil)))
        pss_nil)
      (pss_cons (ps_if (pt_not (pt_val (pe_c c_qf (hr.mono (by omega)) (pa_N (pv 4) (pa_N (pe_glob (v:=.ref a.t_RENEW_NAMES) rfl T.g_RENEW_NAMES rfl) (pa_N (pe_glob (v:=.int 8) rfl T.g_MOST_DEEP ⟨_,rfl⟩) pa_nil))))))
        (pss_one (ps_raise hr.hd T.xc_NoProgram T.g_NoProgram (pa_C pe_str pa_nil)))
        pss_nil)
      (pss_cons (ps_if (pt_cmpR op_gt (pe_c c_qg (hr.mono (by omega)) (pa_cons (pe_lst (pa_N (pv 1) (pa_N (pv 2) (pa_N (pv 3) (pa_N (pv 4) pa_nil))))) pa_nil)) (pe_glob (v:=.int 60) rfl T.g_MOST_WORDS ⟨_,rfl⟩) (nomark _))
        (pss_one (ps_raise hr.hd T.xc_NoProgram T.g_NoProgram (pa_C pe_str pa_nil)))
        pss_nil)
      (pss_cons (ps_fld (pv 0) (pv 1) rfl)
      (pss_cons (ps_fld (pv 0) (pv 2) rfl)
      (pss_cons (ps_fld (pv 0) (pv 3) rfl)
      (pss_one (ps_fld (pv 0) (pv 4) rfl))))))))),?_⟩
    refine ⟨_,rfl,g1,r1,_,startNs,8,rfl,m1,T.s_START_NAMES,by decide,by decide,fun H1 s1=>⟨_,rfl,?_⟩⟩
    by_cases q1 : g1.sound startNs (8 : Int).toNat = true
    case neg =>
      refine iteB (by rw [Bool.not_eq_true] at q1; rw [q1]; rfl) ⟨by show 1 ≤ 1000; decide,kx ?_ H1 s1⟩
      rintro ⟨e1,e2,e3,e4,⟨rfl,_⟩,⟨o1,_⟩,⟨d1,_⟩,_⟩
      exact q1 (Ex.sound o1 d1)
    refine iteN (by rw [q1]; rfl) ?_
    refine ⟨_,rfl,_,rfl,(by show 2 ≤ sizeLine; decide),fun lp hlp=>?_⟩
    have s2:=s1.trans (Same.new (o:=HO.lst [r2,r3]) hlp)
    refine ⟨lp,_,_,_,sendNs,8,rfl,upd_same,gms2 (m2.same s2) (m3.same s2),T.s_SEND_NAMES,by decide,by decide,fun H3 s3=>⟨_,rfl,?_⟩⟩
    have s3:=s2.trans s3
    by_cases q2 : g2.sound sendNs (8 : Int).toNat = true
    case neg =>
      refine iteB (by rw [Bool.not_eq_true] at q2; rw [List.all_cons,q2]; rfl) ⟨by show 1 ≤ 1000; decide,kx ?_ H3 s3⟩
      rintro ⟨e1,e2,e3,e4,⟨_,rfl,_⟩,⟨_,o1,_⟩,⟨_,d1,_⟩,_⟩
      exact q2 (Ex.sound o1 d1)
    by_cases q3 : g3.sound sendNs (8 : Int).toNat = true
    case neg =>
      refine iteB (by rw [Bool.not_eq_true] at q3; rw [List.all_cons,List.all_cons,q2,q3]; rfl) ⟨by show 1 ≤ 1000; decide,kx ?_ H3 s3⟩
      rintro ⟨e1,e2,e3,e4,⟨_,_,rfl,_⟩,⟨_,_,o1,_⟩,⟨_,_,d1,_⟩,_⟩
      exact q3 (Ex.sound o1 d1)
    refine iteN (by rw [List.all_cons,List.all_cons,q2,q3]; rfl) ?_
    refine ⟨_,rfl,g4,r4,_,renewNs,8,rfl,m4.same s3,T.s_RENEW_NAMES,by decide,by decide,fun H4 s4=>⟨_,rfl,?_⟩⟩
    have s4:=s3.trans s4
    by_cases q4 : g4.sound renewNs (8 : Int).toNat = true
    case neg =>
      refine iteB (by rw [Bool.not_eq_true] at q4; rw [q4]; rfl) ⟨by show 1 ≤ 1000; decide,kx ?_ H4 s4⟩
      rintro ⟨e1,e2,e3,e4,⟨_,_,_,rfl⟩,⟨_,_,_,o1⟩,⟨_,_,_,d1⟩,_⟩
      exact q4 (Ex.sound o1 d1)
    refine iteN (by rw [q4]; rfl) ?_
    obtain ⟨e1,rfl,o1,d1⟩:=Gx.of_sound q1
    obtain ⟨e2,rfl,o2,d2⟩:=Gx.of_sound q2
    obtain ⟨e3,rfl,o3,d3⟩:=Gx.of_sound q3
    obtain ⟨e4,rfl,o4,d4⟩:=Gx.of_sound q4
    have m1:=m1.made
    have m2:=m2.made
    have m3:=m3.made
    have m4:=m4.made
    refine ⟨_,rfl,_,rfl,_,rfl,_,rfl,(by show 4 ≤ sizeLine; decide),fun lq hlq=>?_⟩
    have s5:=s4.trans (Same.new (o:=HO.lst [r1,r2,r3,r4]) hlq)
    refine ⟨lq,_,[e1,e2,e3,e4],rfl,upd_same,by simp,⟨rfl,fun i r hi=>?_⟩,fun H6 s6=>⟨_,_,rfl,rfl,_,rfl,?_⟩⟩
    · match i,hi with
      | 0,hi=>cases hi; exact ⟨e1,_,rfl,m1.same s5,o1,d1,Ex.size_line d1⟩
      | 1,hi=>cases hi; exact ⟨e2,_,rfl,m2.same s5,o2,d2,Ex.size_line d2⟩
      | 2,hi=>cases hi; exact ⟨e3,_,rfl,m3.same s5,o3,d3,Ex.size_line d3⟩
      | 3,hi=>cases hi; exact ⟨e4,_,rfl,m4.same s5,o4,d4,Ex.size_line d4⟩
      | _ + 4,hi=>simp at hi
    have s6:=s5.trans s6
    have es : (sizes [e1,e2,e3,e4]).sum = (e1.size + e2.size + e3.size + e4.size : Nat):=by
      simp [sizes]
      omega
    rw [es]
    by_cases hz : e1.size + e2.size + e3.size + e4.size ≤ 60
    case neg =>
      refine iteB (decide_eq_true (by show ((e1.size + e2.size + e3.size + e4.size : Nat) : Int) > 60; omega)) ⟨by show 1 ≤ 1000; decide,kx ?_ H6 s6⟩
      rintro ⟨f1,f2,f3,f4,⟨h1,h2,h3,h4⟩,_,_,z⟩
      cases Ex.gx_inj h1
      cases Ex.gx_inj h2
      cases Ex.gx_inj h3
      cases Ex.gx_inj h4
      exact hz z
    refine iteN (decide_eq_false (by show ¬ ((e1.size + e2.size + e3.size + e4.size : Nat) : Int) > 60; omega)) ?_
    refine ⟨_,rfl,_,rfl,p,a.c_Program,dx,_,rfl,s6 _ _ hp,T.cl_Program,T.na_Program_start,(by show 0 < 1000; decide),?_⟩
    refine ⟨_,rfl,_,rfl,p,a.c_Program,dx,_,rfl,upd_same,T.cl_Program,T.na_Program_send,(by show 1 < 1000; decide),?_⟩
    refine ⟨_,rfl,_,rfl,p,a.c_Program,dx,_,rfl,upd_same,T.cl_Program,T.na_Program_when,(by show 2 < 1000; decide),?_⟩
    refine ⟨_,rfl,_,rfl,p,a.c_Program,dx,_,rfl,upd_same,T.cl_Program,T.na_Program_renew,(by show 3 < 1000; decide),?_⟩
    rw [upd_upd,upd_upd,upd_upd]
    exact k ⟨e1,e2,e3,e4,⟨rfl,rfl,rfl,rfl⟩,⟨o1,o2,o3,o4⟩,⟨d1,d2,d3,d4⟩,hz⟩ H6 s6
end
end K04

namespace K04
open PySem L2
section
variable {P : Program} {w : World} {K : PySem.W.Frag} {mg : Str→Option Value} {base : Heap} {a : Ad}
def spMade (a : Ad) (n : Nat) : Sp:=fun vs H Q _=>∃ (e : Ex) (v : V) (names : List Str),vs = [v]∧Told H e v∧e.dep ≤ n∧e.ok names∧∀ r H',Made a H' e r→Same H H'→Q r H'
theorem ok_made (T : Txt w K mg a) : ∀ n,FnOk P w K mg base CX0 (n + 2) a.f_qr a.d_qr ["_law_told"] (spMade a n)
  | 0=>⟨fun vs H Q E h=>by
      obtain ⟨e,v,names,rfl,_⟩:=h
      rfl,fun A outer s H args us vs Q E _ _ _ _ h=>by
      obtain ⟨e,v,names,_,_,hd,_⟩:=h
      have:=e.dep_pos
      omega⟩
  | n + 1=>by
    have c_qr : Callee P w K mg base "_law_made" a.f_qr a.d_qr ["_law_told"] (n + 2) (spMade a n):=⟨ok_made T n,T.g_qr,T.F_qr.kp,T.b_qr⟩
    have m_Num : Maker P w K mg base "Num" a.c_Num a.f_qz a.d_qz ["self", "value"] 1 (spI1 a.c_Num "value"):=⟨ok_Num_init T,T.g_Num,T.mk_Num,T.b_qz⟩
    have m_Name : Maker P w K mg base "Name" a.c_Name a.f_qB a.d_qB ["self", "word"] 1 (spI1 a.c_Name "word"):=⟨ok_Name_init T,T.g_Name,T.mk_Name,T.b_qB⟩
    have m_Two : Maker P w K mg base "Two" a.c_Two a.f_qD a.d_qD ["self", "word", "one", "other"] 1 (spI3 a.c_Two "word" "one" "other"):=⟨ok_Two_init T,T.g_Two,T.mk_Two,T.b_qD⟩
    have m_Mod : Maker P w K mg base "Mod" a.c_Mod a.f_qF a.d_qF ["self", "inner", "number"] 1 (spI2 a.c_Mod "inner" "number"):=⟨ok_Mod_init T,T.g_Mod,T.mk_Mod,T.b_qF⟩
    have m_Less : Maker P w K mg base "Less" a.c_Less a.f_qH a.d_qH ["self", "one", "other", "third", "fourth"] 1 (spI4 a.c_Less "one" "other" "third" "fourth"):=⟨ok_Less_init T,T.g_Less,T.mk_Less,T.b_qH⟩
    refine T.F_qr.ok sc_qr (fun vs H Q E h=>?_) (fun cdv A outer s H vs Q E hr h=>?_)
    · obtain ⟨e,v,names,rfl,_⟩:=h
      rfl
    · obtain ⟨e,v,names,rfl,ht,hdep,ho,k⟩:=h
      refine bx_in (w_pss_cons (w_ps_if (w_pt_cmpR op_eq (w_pe_ix ix_tup (w_pv 0) w_pe_int (fun _ _=>rfl)) w_pe_str (nomark _))
        (w_pss_one (w_ps_ret (w_pe_m m_Num (hr.mono (by omega)) (w_pa_cons (w_pe_ix ix_tup (w_pv 0) w_pe_int (fun _ _=>rfl)) w_pa_nil))))
        w_pss_nil)
      (w_pss_cons (w_ps_if (w_pt_cmpR op_eq (w_pe_ix ix_tup (w_pv 0) w_pe_int (fun _ _=>rfl)) w_pe_str (nomark _))
        (w_pss_one (w_ps_ret (w_pe_m m_Name (hr.mono (by omega)) (w_pa_cons (w_pe_ix ix_tup (w_pv 0) w_pe_int (fun _ _=>rfl)) w_pa_nil))))
        w_pss_nil)
      (w_pss_cons (w_ps_if (w_pt_cmpR op_eq (w_pe_ix ix_tup (w_pv 0) w_pe_int (fun _ _=>rfl)) w_pe_str (nomark _))
        (w_pss_one (w_ps_ret (w_pe_m m_Mod (hr.mono (by omega)) (w_pa_K (w_pe_c c_qr (hr.mono (by omega)) (w_pa_cons (w_pe_ix ix_tup (w_pv 0) w_pe_int (fun _ _=>rfl)) w_pa_nil)) (w_pa_cons (w_pe_ix ix_tup (w_pv 0) w_pe_int (fun _ _=>rfl)) w_pa_nil)))))
        w_pss_nil)
      (w_pss_cons (w_ps_if (w_pt_cmpR op_eq (w_pe_ix ix_tup (w_pv 0) w_pe_int (fun _ _=>rfl)) w_pe_str (nomark _))
        (w_pss_one (w_ps_ret (w_pe_m m_Less (hr.mono (by omega)) (w_pa_K (w_pe_c c_qr (hr.mono (by omega)) (w_pa_cons (w_pe_ix ix_tup (w_pv 0) w_pe_int (fun _ _=>rfl)) w_pa_nil)) (w_pa_K (w_pe_c c_qr (hr.mono (by omega)) (w_pa_cons (w_pe_ix ix_tup (w_pv 0) w_pe_int (fun _ _=>rfl)) w_pa_nil)) (w_pa_K (w_pe_c c_qr (hr.mono (by omega)) (w_pa_cons (w_pe_ix ix_tup (w_pv 0) w_pe_int (fun _ _=>rfl)) w_pa_nil)) (w_pa_K (w_pe_c c_qr (hr.mono (by omega)) (w_pa_cons (w_pe_ix ix_tup (w_pv 0) w_pe_int (fun _ _=>rfl)) w_pa_nil)) w_pa_nil)))))))
        w_pss_nil)
      (w_pss_one (w_ps_ret (w_pe_m m_Two (hr.mono (by omega)) (w_pa_cons (w_pe_ix ix_tup (w_pv 0) w_pe_int (fun _ _=>rfl)) (w_pa_K (w_pe_c c_qr (hr.mono (by omega)) (w_pa_cons (w_pe_ix ix_tup (w_pv 0) w_pe_int (fun _ _=>rfl)) w_pa_nil)) (w_pa_K (w_pe_c c_qr (hr.mono (by omega)) (w_pa_cons (w_pe_ix ix_tup (w_pv 0) w_pe_int (fun _ _=>rfl)) w_pa_nil)) w_pa_nil)))))))))) ?_
      cases e with
      | num i =>
        obtain ⟨p,rfl,hp⟩:=ht
        refine ⟨_,rfl,p,_,0,_,rfl,rfl,SqT.of hp,rfl,rfl,_,rfl,iteB (by decide +kernel) ?_⟩
        refine ⟨_,rfl,p,_,1,_,rfl,rfl,SqT.of hp,rfl,fun x dx nx ndx nex=>⟨x,dx,_,rfl,upd_same,rfl,?_⟩⟩
        exact k _ _ ⟨x,dx,rfl,upd_same⟩ (Same.made nx ndx)
      | name i =>
        obtain ⟨p,rfl,hp⟩:=ht
        refine ⟨_,rfl,p,_,0,_,rfl,rfl,SqT.of hp,rfl,rfl,_,rfl,iteN (by decide +kernel) ?_⟩
        refine ⟨_,rfl,p,_,0,_,rfl,rfl,SqT.of hp,rfl,rfl,_,rfl,iteB (by decide +kernel) ?_⟩
        refine ⟨_,rfl,p,_,1,_,rfl,rfl,SqT.of hp,rfl,fun x dx nx ndx nex=>⟨x,dx,_,rfl,upd_same,rfl,?_⟩⟩
        exact k _ _ ⟨x,dx,rfl,upd_same⟩ (Same.made nx ndx)
      | mod e1 i =>
        obtain ⟨p,u1,rfl,hp,t1⟩:=ht
        obtain ⟨_,o1⟩:=ho
        have hdep : e1.dep + 1 ≤ n + 1:=hdep
        refine ⟨_,rfl,p,_,0,_,rfl,rfl,SqT.of hp,rfl,rfl,_,rfl,iteN (by decide +kernel) ?_⟩
        refine ⟨_,rfl,p,_,0,_,rfl,rfl,SqT.of hp,rfl,rfl,_,rfl,iteN (by decide +kernel) ?_⟩
        refine ⟨_,rfl,p,_,0,_,rfl,rfl,SqT.of hp,rfl,rfl,_,rfl,iteB (by decide +kernel) ?_⟩
        refine ⟨_,rfl,p,_,1,_,rfl,rfl,SqT.of hp,rfl,e1,_,names,rfl,t1,by omega,o1,fun r1 H1 m1 s1=>?_⟩
        refine ⟨_,rfl,p,_,2,_,rfl,rfl,SqT.of (s1 _ _ hp),rfl,fun x dx nx ndx nex=>⟨x,dx,_,_,rfl,upd_same,rfl,?_⟩⟩
        exact k _ _ ⟨x,dx,r1,rfl,upd_same,m1.same (Same.made nx ndx)⟩ (s1.trans (Same.made nx ndx))
      | less e1 e2 e3 e4 =>
        obtain ⟨p,u1,u2,u3,u4,rfl,hp,t1,t2,t3,t4⟩:=ht
        obtain ⟨o1,o2,o3,o4⟩:=ho
        have hdep : max (max e1.dep e2.dep) (max e3.dep e4.dep) + 1 ≤ n + 1:=hdep
        refine ⟨_,rfl,p,_,0,_,rfl,rfl,SqT.of hp,rfl,rfl,_,rfl,iteN (by decide +kernel) ?_⟩
        refine ⟨_,rfl,p,_,0,_,rfl,rfl,SqT.of hp,rfl,rfl,_,rfl,iteN (by decide +kernel) ?_⟩
        refine ⟨_,rfl,p,_,0,_,rfl,rfl,SqT.of hp,rfl,rfl,_,rfl,iteN (by decide +kernel) ?_⟩
        refine ⟨_,rfl,p,_,0,_,rfl,rfl,SqT.of hp,rfl,rfl,_,rfl,iteB (by decide +kernel) ?_⟩
        refine ⟨_,rfl,p,_,1,_,rfl,rfl,SqT.of hp,rfl,e1,_,names,rfl,t1,by omega,o1,fun r1 H1 m1 s1=>?_⟩
        refine ⟨_,rfl,p,_,2,_,rfl,rfl,SqT.of (s1 _ _ hp),rfl,e2,_,names,rfl,t2.same s1,by omega,o2,fun r2 H2 m2 s2=>?_⟩
        have s12:=s1.trans s2
        refine ⟨_,rfl,p,_,3,_,rfl,rfl,SqT.of (s12 _ _ hp),rfl,e3,_,names,rfl,t3.same s12,by omega,o3,fun r3 H3 m3 s3=>?_⟩
        have s123:=s12.trans s3
        refine ⟨_,rfl,p,_,4,_,rfl,rfl,SqT.of (s123 _ _ hp),rfl,e4,_,names,rfl,t4.same s123,by omega,o4,fun r4 H4 m4 s4=>?_⟩
        refine fun x dx nx ndx nex=>⟨x,dx,_,_,_,_,rfl,upd_same,rfl,?_⟩
        have s5 : Same H4 _:=Same.made (C:=a.c_Less) (fs:=[("one",r1),("other",r2),("third",r3),("fourth",r4)]) (fs':=[]) nx ndx
        exact k _ _ ⟨x,dx,r1,r2,r3,r4,rfl,upd_same,m1.same (s2.trans (s3.trans (s4.trans s5))),m2.same (s3.trans (s4.trans s5)),m3.same (s4.trans s5),m4.same s5⟩ (s123.trans (s4.trans s5))
      | two wd e1 e2 =>
        obtain ⟨p,u1,u2,rfl,hp,t1,t2⟩:=ht
        obtain ⟨hw,o1,o2⟩:=ho
        have hdep : max e1.dep e2.dep + 1 ≤ n + 1:=hdep
        obtain ⟨w1,w2,w3,w4⟩:=two_no hw
        refine ⟨_,rfl,p,_,0,_,rfl,rfl,SqT.of hp,rfl,rfl,_,rfl,iteN w1 ?_⟩
        refine ⟨_,rfl,p,_,0,_,rfl,rfl,SqT.of hp,rfl,rfl,_,rfl,iteN w2 ?_⟩
        refine ⟨_,rfl,p,_,0,_,rfl,rfl,SqT.of hp,rfl,rfl,_,rfl,iteN w3 ?_⟩
        refine ⟨_,rfl,p,_,0,_,rfl,rfl,SqT.of hp,rfl,rfl,_,rfl,iteN w4 ?_⟩
        refine ⟨_,rfl,p,_,0,_,rfl,rfl,SqT.of hp,rfl,?_⟩
        refine ⟨_,rfl,p,_,1,_,rfl,rfl,SqT.of hp,rfl,e1,_,names,rfl,t1,by omega,o1,fun r1 H1 m1 s1=>?_⟩
        refine ⟨_,rfl,p,_,2,_,rfl,rfl,SqT.of (s1 _ _ hp),rfl,e2,_,names,rfl,t2.same s1,by omega,o2,fun r2 H2 m2 s2=>?_⟩
        refine fun x dx nx ndx nex=>⟨x,dx,_,_,_,rfl,upd_same,rfl,?_⟩
        have s5 : Same H2 _:=Same.made (C:=a.c_Two) (fs:=[("word",V.str wd),("one",r1),("other",r2)]) (fs':=[]) nx ndx
        exact k _ _ ⟨x,dx,r1,r2,rfl,upd_same,m1.same (s2.trans s5),m2.same s5⟩ ((s1.trans s2).trans s5)
end
end K04

namespace K04
open PySem L2
section
variable {P : Program} {w : World} {K : PySem.W.Frag} {mg : Str→Option Value} {base : Heap} {a : Ad}
def spExpr (n : Nat) : Sp:=fun vs H Q _=>∃ (l nm : Addr) (names : List Str) (deep : Int),vs = [.ref l,.ref nm,.int deep]∧StAt H l∧H nm = some (.lst (names.map V.str))∧nm ≠ l∧0 < names.length∧names.length ≤ 100∧1 ≤ deep∧deep ≤ n ∧
  ∀ (e : Ex) (v : V) (H' : Hp),Told H' e v→e.ok names→e.dep ≤ n→StAt H' l→Ext l H H'→Q v H'
theorem ok_expr (T : Txt w K mg a) : ∀ n,FnOk P w K mg base CX0 (n + 2) a.f_qq a.d_qq ["_law_state", "_law_names", "_law_deep"] (spExpr n)
  | 0=>⟨fun vs H Q E h=>by
      obtain ⟨l,nm,names,deep,rfl,_⟩:=h
      rfl,fun A outer s H args us vs Q E _ _ _ _ h=>by
      obtain ⟨l,nm,names,deep,_,_,_,_,_,_,h1,h2,_⟩:=h
      omega⟩
  | n + 1=>by
    have c_qp : Callee P w K mg base "_law_digit" a.f_qp a.d_qp ["_law_state", "_law_base"] 1 spDigit:=⟨ok_digit T,T.g_qp,T.F_qp.kp,T.b_qp⟩
    have c_qq : Callee P w K mg base "_law_expr" a.f_qq a.d_qq ["_law_state", "_law_names", "_law_deep"] (n + 2) (spExpr n):=⟨ok_expr T n,T.g_qq,T.F_qq.kp,T.b_qq⟩
    refine T.F_qq.ok sc_qq (fun vs H Q E h=>?_) (fun cdv A outer s H vs Q E hr h=>?_)
    · obtain ⟨l,nm,names,deep,rfl,_⟩:=h
      rfl
    · obtain ⟨l,nm,names,deep,rfl,hs,hnm,hne,hn0,hn1,hd1,hd2,k⟩:=h
      refine bx_in (w_pss_cons (w_ps_set (i:=3) sc_qq.nd rfl (Or.inl rfl) (w_pe_c c_qp (hr.mono (by omega)) (w_pa_N (w_pv 0) (w_pa_C w_pe_int w_pa_nil))))
      (w_pss_cons (w_ps_if (w_pt (w_pw_or (w_pt_cmpR op_lt (w_pv 2) w_pe_int (nomark _)) (w_pw_or1 (w_pt_cmpR op_lt (w_pv 3) w_pe_int (nomark _)))))
        (w_pss_cons (w_ps_if (w_pt_cmpR op_eq (w_pe_op op_mod (w_pv 3) w_pe_int) w_pe_int (nomark _))
          (w_pss_one (w_ps_ret (w_pe_tup (w_pa_C w_pe_str (w_pa_cons (w_pe_ix ix_list (w_pv 1) (w_pe_c c_qp (hr.mono (by omega)) (w_pa_N (w_pv 0) (w_pa_K (w_pe_callB call_len_seq (by rfl) T.n_len bt_len (w_pa_N (w_pv 1) w_pa_nil)) w_pa_nil))) (fun _ _=>rfl)) w_pa_nil)))))
          w_pss_nil)
        (w_pss_cons (w_ps_set (i:=4) sc_qq.nd rfl (Or.inl rfl) (w_pe_c c_qp (hr.mono (by omega)) (w_pa_N (w_pv 0) (w_pa_cons (w_pe_ix ix_list (w_pe_lst (w_pa_C w_pe_int (w_pa_C w_pe_int (w_pa_B (w_pe_op op_pow w_pe_int w_pe_int) w_pa_nil)))) (w_pe_c c_qp (hr.mono (by omega)) (w_pa_N (w_pv 0) (w_pa_C w_pe_int w_pa_nil))) (fun _ _=>rfl)) w_pa_nil))))
        (w_pss_one (w_ps_ret (w_pe_tup (w_pa_C w_pe_str (w_pa_cons (w_pe_ix ix_list (w_pe_lst (w_pa_N (w_pv 4) (w_pa_B (w_pe_op op_sub w_pe_int (w_pv 4)) w_pa_nil))) (w_pe_c c_qp (hr.mono (by omega)) (w_pa_N (w_pv 0) (w_pa_C w_pe_int w_pa_nil))) (fun _ _=>rfl)) w_pa_nil)))))))
        w_pss_nil)
      (w_pss_cons (w_ps_if (w_pt_cmpR op_lt (w_pv 3) w_pe_int (nomark _))
        (w_pss_cons (w_ps_set (i:=5) sc_qq.nd rfl (Or.inl rfl) (w_pe_ix ix_list (w_pe_lst (w_pa_C w_pe_str (w_pa_C w_pe_str (w_pa_C w_pe_str (w_pa_C w_pe_str w_pa_nil))))) (w_pe_c c_qp (hr.mono (by omega)) (w_pa_N (w_pv 0) (w_pa_C w_pe_int w_pa_nil))) (fun _ _=>rfl)))
        (w_pss_cons (w_ps_set (i:=6) sc_qq.nd rfl (Or.inl rfl) (w_pe_c c_qq (hr.mono (by omega)) (w_pa_N (w_pv 0) (w_pa_N (w_pv 1) (w_pa_B (w_pe_op op_sub (w_pv 2) w_pe_int) w_pa_nil)))))
        (w_pss_one (w_ps_ret (w_pe_tup (w_pa_N (w_pv 5) (w_pa_N (w_pv 6) (w_pa_K (w_pe_c c_qq (hr.mono (by omega)) (w_pa_N (w_pv 0) (w_pa_N (w_pv 1) (w_pa_B (w_pe_op op_sub (w_pv 2) w_pe_int) w_pa_nil)))) w_pa_nil))))))))
        w_pss_nil)
      (w_pss_cons (w_ps_if (w_pt_cmpR op_eq (w_pv 3) w_pe_int (nomark _))
        (w_pss_cons (w_ps_set (i:=4) sc_qq.nd rfl (Or.inl rfl) (w_pe_op op_add w_pe_int (w_pe_c c_qp (hr.mono (by omega)) (w_pa_N (w_pv 0) (w_pa_cons (w_pe_ix ix_list (w_pe_lst (w_pa_C w_pe_int (w_pa_C w_pe_int (w_pa_B (w_pe_op op_pow w_pe_int w_pe_int) w_pa_nil)))) (w_pe_c c_qp (hr.mono (by omega)) (w_pa_N (w_pv 0) (w_pa_C w_pe_int w_pa_nil))) (fun _ _=>rfl)) w_pa_nil)))))
        (w_pss_one (w_ps_ret (w_pe_tup (w_pa_C w_pe_str (w_pa_K (w_pe_c c_qq (hr.mono (by omega)) (w_pa_N (w_pv 0) (w_pa_N (w_pv 1) (w_pa_B (w_pe_op op_sub (w_pv 2) w_pe_int) w_pa_nil)))) (w_pa_N (w_pv 4) w_pa_nil)))))))
        w_pss_nil)
      (w_pss_cons (w_ps_if (w_pt_cmpR op_eq (w_pv 3) w_pe_int (nomark _))
        (w_pss_one (w_ps_ret (w_pe_tup (w_pa_C w_pe_str (w_pa_cons (w_pe_ix ix_list (w_pv 1) (w_pe_c c_qp (hr.mono (by omega)) (w_pa_N (w_pv 0) (w_pa_K (w_pe_callB call_len_seq (by rfl) T.n_len bt_len (w_pa_N (w_pv 1) w_pa_nil)) w_pa_nil))) (fun _ _=>rfl)) w_pa_nil)))))
        w_pss_nil)
      (w_pss_cons (w_ps_setComp (i:=7) rfl sc_qq.nd rfl (Or.inl rfl) (N':=["_law_k", "_law_state", "_law_names", "_law_deep"]) (t:=1) (caps:=[0,1,2]) ⟨rfl,rfl,rfl⟩ (w_pi_range1 rfl T.n_range (w_pa_C w_pe_int w_pa_nil)) (fun _=>(w_pg_name (i:=0) (show (["_law_k", "_law_state", "_law_names", "_law_deep"] : List Str).Nodup by decide +kernel) rfl (Or.inl rfl))) (fun _=>w_pts_nil) (fun _=>(w_pe_c c_qq (hr.mono (by omega)) (w_pa_N (w_pv 1) (w_pa_N (w_pv 2) (w_pa_K (w_pe_callB (call_min2 rfl) (by rfl) T.n_min bt_min (w_pa_C w_pe_int (w_pa_B (w_pe_op op_sub (w_pv 3) w_pe_int) w_pa_nil))) w_pa_nil))))))
      (w_pss_one (w_ps_ret (w_pe_tup (w_pa_C w_pe_str (w_pa_cons (w_pe_ix ix_list (w_pv 7) w_pe_int (fun _ _=>rfl)) (w_pa_cons (w_pe_ix ix_list (w_pv 7) w_pe_int (fun _ _=>rfl)) (w_pa_cons (w_pe_ix ix_list (w_pv 7) w_pe_int (fun _ _=>rfl)) (w_pa_cons (w_pe_ix ix_list (w_pv 7) w_pe_int (fun _ _=>rfl)) w_pa_nil)))))))))))))) ?_
      refine ⟨_,rfl,l,10,rfl,hs,by decide,by decide,fun kd H1 k0 k1 s1 x1=>?_⟩
      have hnm1:=x1 _ _ hnm hne
      refine ⟨_,rfl,_,_,rfl,rfl,_,rfl,?_⟩
      by_cases hl : deep < 2∨kd < 3
      · have alt : ∀ {A B C : Prop},(deep < 2→A)→(¬ deep < 2→C)→if decide (deep < 2) = true then A else C:=fun f g=>by
          by_cases z : deep < 2
          · exact iteB (decide_eq_true z) (f z)
          · exact iteN (decide_eq_false z) (g z)
        refine alt (B:=True) (fun z=>iteT ?_) (fun z=>⟨_,rfl,_,_,rfl,rfl,_,rfl,iteB (decide_eq_true (hl.resolve_left z)) ?_⟩)
        all_goals
          refine ⟨_,rfl,_,_,rfl,rfl,(by show (0 : Int) < 2; decide),rfl,_,rfl,?_⟩
          refine ite2 (fun _=>?_) (fun _=>?_)
          · refine ⟨_,rfl,_,rfl,_,rfl,nm,_,rfl,.inl (SqL.of hnm1),l,_,rfl,s1,(by rw [List.length_map]; omega),log_lt (m:=8) (by rw [List.length_map]; omega) (by rw [List.length_map]; omega) (by decide),fun d2 H2 g1 g2 s2 x2=>?_⟩
            obtain ⟨x,hx,ea⟩:=pickN g1 g2
            refine ⟨nm,_,d2,_,rfl,rfl,SqL.of (x2 _ _ hnm1 hne),ea,(by show 2 ≤ sizeLine; decide),fun p hp=>?_⟩
            exact k (.name x) _ _ ⟨p,rfl,upd_same⟩ hx (Nat.le_add_left _ _) (s2.new hp) ((x1.trans x2).trans (Ext.new hp))
          · refine ⟨_,rfl,_,_,rfl,rfl,⟨by decide,by decide,by decide⟩,(by show 3 ≤ sizeLine; decide),fun p1 hp1=>?_⟩
            refine ⟨_,rfl,l,3,rfl,s1.new hp1,by decide,by decide,fun d1 H2 g1 g2 s2 x2=>?_⟩
            have n1:=s1.ne hp1
            obtain ⟨v1,a1,b1⟩:=pick3 (x:=10) (y:=1000) (z:=(10 : Int) ^ (20 : Int).toNat) g1 g2
            rw [pow20] at b1
            obtain ⟨c1,c2⟩:=log_pick b1 (by decide) (by decide) (by decide)
            refine ⟨p1,_,d1,_,rfl,rfl,SqL.of (x2 _ _ upd_same n1),a1,?_⟩
            refine ⟨l,v1,rfl,s2,c1,c2,fun d2 H3 g3 g4 s3 x3=>?_⟩
            refine ⟨_,rfl,_,rfl,_,_,rfl,rfl,(by show 2 ≤ sizeLine; decide),fun p2 hp2=>?_⟩
            have n2:=s3.ne hp2
            refine ⟨_,rfl,l,2,rfl,s3.new hp2,by decide,by decide,fun d3 H4 g5 g6 s4 x4=>?_⟩
            obtain ⟨v2,a2,b2⟩:=pick2 (x:=d2) (y:=0 - d2) g5 g6
            refine ⟨p2,_,d3,_,rfl,rfl,SqL.of (x4 _ _ upd_same n2),a2,(by show 2 ≤ sizeLine; decide),fun p hp=>?_⟩
            exact k (.num v2) _ _ ⟨p,rfl,upd_same⟩ (by show -100000000000000000000 < v2∧v2 < 100000000000000000000; omega) (Nat.le_add_left _ _) (s4.new hp) ((((x1.trans (Ext.new hp1)).trans x2).trans (x3.trans (Ext.new hp2))).trans (x4.trans (Ext.new hp)))
      · have hl1 : ¬ deep < 2:=fun z=>hl (.inl z)
        have hl2 : ¬ kd < 3:=fun z=>hl (.inr z)
        refine iteN (decide_eq_false hl1) ⟨_,rfl,_,_,rfl,rfl,_,rfl,iteN (decide_eq_false hl2) ?_⟩
        refine ⟨_,rfl,_,_,rfl,rfl,_,rfl,?_⟩
        refine ite2 (fun _=>?_) (fun h7=>?_)
        · refine ⟨by show 4 ≤ sizeLine; decide,fun p1 hp1=>?_⟩
          refine ⟨_,rfl,l,4,rfl,s1.new hp1,by decide,by decide,fun d1 H2 g1 g2 s2 x2=>?_⟩
          have n1:=s1.ne hp1
          obtain ⟨wd,hw,aw⟩:=pick4s g1 g2
          have X2 : Ext l H H2:=(x1.trans (Ext.new hp1)).trans x2
          refine ⟨p1,_,d1,_,rfl,rfl,SqL.of (x2 _ _ upd_same n1),aw,?_⟩
          refine ⟨_,rfl,_,rfl,_,rfl,_,_,rfl,rfl,l,nm,names,deep - 1,rfl,s2,X2 _ _ hnm hne,hne,hn0,hn1,by omega,by omega,fun e1 v1 H3 t1 o1 de1 s3 x3=>?_⟩
          refine ⟨_,rfl,_,rfl,_,rfl,_,rfl,_,rfl,_,_,rfl,rfl,l,nm,names,deep - 1,rfl,s3,(X2.trans x3) _ _ hnm hne,hne,hn0,hn1,by omega,by omega,fun e2 v2 H4 t2 o2 de2 s4 x4=>?_⟩
          refine ⟨by show 3 ≤ sizeLine; decide,fun p hp=>?_⟩
          have y5:=Same.new (o:=HO.tup [V.str wd,v1,v2]) hp
          exact k (.two wd e1 e2) _ _ ⟨p,v1,v2,rfl,upd_same,(t1.ext s3 x4).same y5,t2.same y5⟩ ⟨hw,o1,o2⟩ (by show max e1.dep e2.dep + 1 ≤ n + 1; omega) (s4.new hp) (((X2.trans x3).trans x4).trans (Ext.new hp))
        refine ⟨_,rfl,rfl,_,rfl,?_⟩
        refine ite2 (fun _=>?_) (fun h8=>?_)
        · refine ⟨_,rfl,_,_,rfl,rfl,⟨by decide,by decide,by decide⟩,(by show 3 ≤ sizeLine; decide),fun p1 hp1=>?_⟩
          refine ⟨_,rfl,l,3,rfl,s1.new hp1,by decide,by decide,fun d1 H2 g1 g2 s2 x2=>?_⟩
          have n1:=s1.ne hp1
          obtain ⟨v1,a1,b1⟩:=pick3 (x:=3) (y:=100) (z:=(10 : Int) ^ (9 : Int).toNat) g1 g2
          rw [pow9] at b1
          obtain ⟨c1,c2⟩:=log_pick b1 (by decide) (by decide) (by decide)
          refine ⟨p1,_,d1,_,rfl,rfl,SqL.of (x2 _ _ upd_same n1),a1,?_⟩
          refine ⟨l,v1,rfl,s2,c1,c2,fun d2 H3 g3 g4 s3 x3=>?_⟩
          have X3 : Ext l H H3:=((x1.trans (Ext.new hp1)).trans x2).trans x3
          refine ⟨_,_,rfl,rfl,_,rfl,_,rfl,_,rfl,_,_,rfl,rfl,l,nm,names,deep - 1,rfl,s3,X3 _ _ hnm hne,hne,hn0,hn1,by omega,by omega,fun e1 v2 H4 t1 o1 de1 s4 x4=>?_⟩
          refine ⟨_,rfl,(by show 3 ≤ sizeLine; decide),fun p hp=>?_⟩
          exact k (.mod e1 (1 + d2)) _ _ ⟨p,v2,rfl,upd_same,t1.same (Same.new hp)⟩ ⟨⟨by omega,by omega⟩,o1⟩ (by show e1.dep + 1 ≤ n + 1; omega) (s4.new hp) ((X3.trans x4).trans (Ext.new hp))
        refine ⟨_,rfl,rfl,_,rfl,?_⟩
        refine ite2 (fun _=>?_) (fun h9=>?_)
        · refine ⟨_,rfl,_,rfl,_,rfl,nm,_,rfl,.inl (SqL.of hnm1),l,_,rfl,s1,(by rw [List.length_map]; omega),log_lt (m:=8) (by rw [List.length_map]; omega) (by rw [List.length_map]; omega) (by decide),fun d2 H2 g1 g2 s2 x2=>?_⟩
          obtain ⟨x,hx,ea⟩:=pickN g1 g2
          refine ⟨nm,_,d2,_,rfl,rfl,SqL.of (x2 _ _ hnm1 hne),ea,(by show 2 ≤ sizeLine; decide),fun p hp=>?_⟩
          exact k (.name x) _ _ ⟨p,rfl,upd_same⟩ hx (Nat.le_add_left _ _) (s2.new hp) ((x1.trans x2).trans (Ext.new hp))
        refine ⟨4,rfl,by decide,by decide,fun D hD _=>?_⟩
        have hDl:=s1.ne hD
        refine comp_range (lo:=0) (n:=4) (fun i zs τ H'=>∃ o,τ = [o,some (.ref l),some (.ref nm),some (.int deep)]∧zs.length = i∧H' D = some (.lst zs)∧StAt H' l∧Ext l H1 H'∧∀ v ∈ zs,∃ e,Told H' e v∧e.ok names∧e.dep ≤ n) ?_ ?_ ?_
        · exact ⟨none,rfl,rfl,upd_same,s1.new hD,Ext.new hD,fun v hv=>by cases hv⟩
        · rintro i zs τ H2 hi ⟨o,rfl,hz,hD2,s2,x2,hv⟩
          refine gn_if ?_
          refine ⟨_,rfl,_,rfl,_,rfl,_,_,rfl,rfl,2,deep - 1,rfl,l,nm,names,_,rfl,s2,x2 _ _ hnm1 hne,hne,hn0,hn1,?_,?_,fun e v H6 t6 o6 d6 s6 x6=>⟨x6 _ _ hD2 hDl,small1000 (by omega),some (V.int (0 + i)),rfl,by simp [hz],upd_same,?_,?_,fun v' hv'=>?_⟩⟩
          · by_cases q : deep - 1 < 2
            · rw [if_pos q]; omega
            · rw [if_neg q]; omega
          · by_cases q : deep - 1 < 2
            · rw [if_pos q]; omega
            · rw [if_neg q]; omega
          · obtain ⟨st,e,ok⟩:=s6
            exact ⟨st,by rw [upd_ne hDl.symm]; exact e,ok⟩
          · intro b o e nb
            rw [upd_ne (ne_of_none e hD)]
            exact (x2.trans x6) b o e nb
          · have hD6:=x6 _ _ hD2 hDl
            rcases List.mem_append.mp hv' with h | h
            · obtain ⟨e',t',o',d'⟩:=hv v' h
              exact ⟨e',(t'.ext s2 x6).updL hD6,o',d'⟩
            · rw [List.mem_singleton.mp h]
              exact ⟨e,t6.updL hD6,o6,d6⟩
        · rintro zs τ H2 ⟨o,_,hz,hD2,s2,x2,hv⟩
          match zs,hz with
          | [z1,z2,z3,z4],_ =>
            obtain ⟨e1,t1,o1,d1⟩:=hv z1 (by simp)
            obtain ⟨e2,t2,o2,d2⟩:=hv z2 (by simp)
            obtain ⟨e3,t3,o3,d3⟩:=hv z3 (by simp)
            obtain ⟨e4,t4,o4,d4⟩:=hv z4 (by simp)
            refine ⟨_,rfl,D,_,0,_,rfl,rfl,SqL.of hD2,rfl,_,rfl,D,_,1,_,rfl,rfl,SqL.of hD2,rfl,_,rfl,D,_,2,_,rfl,rfl,SqL.of hD2,rfl,_,rfl,D,_,3,_,rfl,rfl,SqL.of hD2,rfl,(by show 5 ≤ sizeLine; decide),fun p hp=>?_⟩
            have y:=Same.new (o:=HO.tup [V.str "less",z1,z2,z3,z4]) hp
            exact k (.less e1 e2 e3 e4) _ _ ⟨p,z1,z2,z3,z4,rfl,upd_same,t1.same y,t2.same y,t3.same y,t4.same y⟩ ⟨o1,o2,o3,o4⟩ (by show max (max e1.dep e2.dep) (max e3.dep e4.dep) + 1 ≤ n + 1; omega) (s2.new hp) ((x1.trans x2).trans (Ext.new hp))
end
end K04

namespace K04
open PySem L2
def PartsAre (H : Hp) (n : Nat) (names : List Str) (parts : List V) (qs : List (Option Ex)) : Prop:=parts.length = qs.length∧∀ (i : Nat) x,parts[i]? = some x→(∃ e,qs[i]? = some (some e)∧Told H e x∧e.ok names∧e.dep ≤ n)∨(qs[i]? = some none∧∃ m,x = .int m)
def partSum (qs : List (Option Ex)) : Int:=((qs.filterMap id).map fun e=>(e.size : Int)).sum
def leafW (w : Str) : Bool:=inV (.str w) [V.str "num",V.str "name"]
theorem Told.parts {H : Hp} {n : Nat} : ∀ {e : Ex} {v : V} {names : List Str},Told H e v→e.ok names→e.dep ≤ n + 1 →
    ∃ (p : Addr) (wd : Str) (parts : List V),v = .ref p∧H p = some (.tup (.str wd :: parts))∧((leafW wd = true∧e.size = 1)∨(leafW wd = false∧1 ≤ parts.length∧parts.length ≤ 4∧∃ qs,PartsAre H n names parts qs∧(e.size : Int) = 1 + (if wd = "mod" then 1 else 0) + partSum qs))
  | .num i,_,_,⟨p,e,h⟩,_,_=>⟨p, "num",_,e,h,.inl ⟨by decide +kernel,rfl⟩⟩
  | .name i,_,_,⟨p,e,h⟩,_,_=>⟨p, "name",_,e,h,.inl ⟨by decide +kernel,rfl⟩⟩
  | .two w e f,_,_,⟨p,a1,b1,e1,h1,s1,s2⟩,o,d=>by
    obtain ⟨hw,o1,o2⟩:=o
    have d : max e.dep f.dep + 1 ≤ n + 1:=d
    have nm : w ≠ "mod" := by rcases hw with rfl | rfl | rfl | rfl <;> decide +kernel
    refine ⟨p,w,_,e1,h1,.inr ⟨by rcases hw with rfl | rfl | rfl | rfl <;> decide +kernel,by simp,by simp,[some e,some f],⟨rfl,fun i x hi=>?_⟩,?_⟩⟩
    · match i,hi with
      | 0,hi=>cases hi; exact .inl ⟨e,rfl,s1,o1,by omega⟩
      | 1,hi=>cases hi; exact .inl ⟨f,rfl,s2,o2,by omega⟩
      | _ + 2,hi=>simp at hi
    · rw [if_neg nm]
      show ((1 + e.size + f.size : Nat) : Int) = _
      simp [partSum]
      omega
  | .mod e m,_,_,⟨p,a1,e1,h1,s1⟩,⟨_,o1⟩,d=>by
    have d : e.dep + 1 ≤ n + 1:=d
    refine ⟨p, "mod",_,e1,h1,.inr ⟨by decide +kernel,by simp,by simp,[some e,none],⟨rfl,fun i x hi=>?_⟩,?_⟩⟩
    · match i,hi with
      | 0,hi=>cases hi; exact .inl ⟨e,rfl,s1,o1,by omega⟩
      | 1,hi=>cases hi; exact .inr ⟨rfl,m,rfl⟩
      | _ + 2,hi=>simp at hi
    · rw [if_pos rfl]
      show ((2 + e.size : Nat) : Int) = _
      simp [partSum]
  | .less e f g k,_,_,⟨p,a1,b1,c1,d1,e1,h1,s1,s2,s3,s4⟩,⟨o1,o2,o3,o4⟩,d=>by
    have d : max (max e.dep f.dep) (max g.dep k.dep) + 1 ≤ n + 1:=d
    refine ⟨p, "less",_,e1,h1,.inr ⟨by decide +kernel,by simp,by simp,[some e,some f,some g,some k],⟨rfl,fun i x hi=>?_⟩,?_⟩⟩
    · match i,hi with
      | 0,hi=>cases hi; exact .inl ⟨e,rfl,s1,o1,by omega⟩
      | 1,hi=>cases hi; exact .inl ⟨f,rfl,s2,o2,by omega⟩
      | 2,hi=>cases hi; exact .inl ⟨g,rfl,s3,o3,by omega⟩
      | 3,hi=>cases hi; exact .inl ⟨k,rfl,s4,o4,by omega⟩
      | _ + 4,hi=>simp at hi
    · rw [if_neg (by decide +kernel)]
      show ((1 + e.size + f.size + g.size + k.size : Nat) : Int) = _
      simp [partSum]
      omega
end K04

namespace K04
open PySem L2
theorem cut1 {x : V} {xs : List V} : cutV (x :: xs) (some 1) none = xs:=by
  have h1 : HT.sIx (x :: xs).length 0 (some 1) = 1:=by
    unfold HT.sIx
    simp
  have h2 : HT.sIx (x :: xs).length (x :: xs).length none = xs.length + 1:=rfl
  unfold cutV
  rw [h1,h2]
  simp
theorem at0 {x : V} {xs : List V} : atI (x :: xs) 0 = some x:=by
  unfold atI ixN
  simp
section
variable {P : Program} {w : World} {K : PySem.W.Frag} {mg : Str→Option Value} {base : Heap} {a : Ad}
def spSize (n : Nat) : Sp:=fun vs H Q _=>∃ (e : Ex) (v : V) (names : List Str),vs = [v]∧Told H e v∧e.ok names∧e.dep ≤ n∧∀ H',Same H H'→Q (.int e.size) H'
theorem ok_size (T : Txt w K mg a) : ∀ n,FnOk P w K mg base CX0 (n + 1) a.f_qt a.d_qt ["_law_told"] (spSize n)
  | 0=>⟨fun vs H Q E h=>by
      obtain ⟨e,v,names,rfl,_⟩:=h
      rfl,fun A outer s H args us vs Q E _ _ _ _ h=>by
      obtain ⟨e,v,names,_,_,_,hd,_⟩:=h
      have:=e.dep_pos
      omega⟩
  | n + 1=>by
    have c_qt : Callee P w K mg base "_law_size" a.f_qt a.d_qt ["_law_told"] (n + 1) (spSize n):=⟨ok_size T n,T.g_qt,T.F_qt.kp,T.b_qt⟩
    refine T.F_qt.ok sc_qt (fun vs H Q E h=>?_) (fun cdv A outer s H vs Q E hr h=>?_)
    · obtain ⟨e,v,names,rfl,_⟩:=h
      rfl
    · obtain ⟨e,v,names,rfl,ht,ho,hdep,k⟩:=h
      obtain ⟨p,wd,parts,rfl,hp,alt⟩:=ht.parts ho hdep
      refine bx_in (w_pss_cons (w_ps_if (w_pt_cmpR op_in_seq (w_pe_ix ix_tup (w_pv 0) w_pe_int (fun _ _=>rfl)) (w_pe_lst (w_pa_C w_pe_str (w_pa_C w_pe_str w_pa_nil))) (by with_unfolding_all rfl))
        (w_pss_one (w_ps_ret w_pe_int))
        w_pss_nil)
      (w_pss_one (w_ps_ret (w_pe_op op_add (w_pe_op op_add w_pe_int (w_pe_callTy call_int1 (by rfl) T.n_int bt_int (w_pa_cons (w_pe_cmpR op_eq (w_pe_ix ix_tup (w_pv 0) w_pe_int (fun _ _=>rfl)) w_pe_str (nomark _)) w_pa_nil))) (w_pe_callB (call_sumI rfl) (by rfl) T.n_sum bt_sum (w_pa_cons (w_pe_comp rfl (N':=["_law_part"]) (t:=1) (caps:=[]) ⟨rfl,rfl,rfl⟩ (w_pi_tup (w_pe_slice sl_tup (w_pv 0) (w_po_some w_pe_int) w_po_none)) (fun _=>(w_pg_name (i:=0) (show (["_law_part"] : List Str).Nodup by decide +kernel) rfl (Or.inl rfl))) (fun _=>(w_pts_one (w_pt_val (w_pe_callB call_isi (by rfl) T.n_isinstance bt_isinstance (w_pa_N (w_pv 0) (w_pa_N (w_pe_bty T.n_tuple bt_tuple) w_pa_nil)))))) (fun _=>(w_pe_c c_qt (hr.mono (by omega)) (w_pa_N (w_pv 0) w_pa_nil)))) w_pa_nil)))))) ?_
      refine ⟨_,rfl,p,_,0,_,rfl,rfl,SqT.of hp,at0,(by show 2 ≤ sizeLine; decide),fun q0 hq0=>?_⟩
      have s0:=Same.new (o:=HO.lst [V.str "num",V.str "name"]) hq0
      refine ⟨q0,_,rfl,.inl (SqL.of upd_same),rfl,rfl,_,rfl,?_⟩
      rcases alt with ⟨lw,sz⟩ | ⟨lw,l1,l4,qs,⟨hlen,hq⟩,sz⟩
      · refine iteB lw ?_
        have:=k _ s0
        rw [sz] at this
        exact this
      · refine iteN lw ?_
        refine ⟨_,rfl,p,_,0,_,rfl,rfl,SqT.of (s0 _ _ hp),at0,rfl,.inr ⟨_,rfl,_,_,rfl,rfl,?_⟩⟩
        refine ⟨_,rfl,_,rfl,p,_,rfl,SqT.of (s0 _ _ hp),(fun z=>by
          have h1 : HT.sIx (V.str wd :: parts).length 0 (some 1) = 1:=by
            unfold HT.sIx
            simp
          rw [h1] at z
          exact absurd z.1 (by decide)),fun lt hlt=>?_⟩
        rw [cut1]
        have s1:=s0.trans (Same.new (o:=HO.tup parts) hlt)
        refine ⟨lt,rfl,⟨_,SqT.of upd_same⟩,fun D hD _=>?_⟩
        refine comp_tup (K:=K) (a:=lt) (xs:=parts) (fun i zs τ H'=>∃ o,τ = [o]∧i ≤ parts.length∧zs = (((qs.take i).filterMap id).map fun e=>V.int (e.size : Int))∧H' D = some (.lst zs)∧Same (upd (upd H q0 (HO.lst [V.str "num",V.str "name"])) lt (HO.tup parts)) H') ?_ ?_ ?_ ?_
        · exact ⟨none,rfl,Nat.zero_le _,by simp,upd_same,Same.new hD⟩
        · rintro i zs τ H' ⟨o,_,_,_,_,sm⟩
          exact SqT.of (sm _ _ upd_same)
        · rintro i x zs τ H' hi ⟨o,rfl,_,rfl,hD',sm⟩
          have hi' : i < parts.length:=(List.getElem?_eq_some_iff.mp hi).1
          have s2:=s1.trans sm
          rcases hq i x hi with ⟨e',he,te,oe,de⟩ | ⟨he,m,rfl⟩
          · obtain ⟨pe,xs,rfl,hpe⟩:=te.ref
            refine ⟨_,rfl,_,_,_,_,_,rfl,rfl,TyOf.tup (s2 _ _ hpe),T.k_ttuple_ttuple,_,rfl,iteT ?_⟩
            refine ⟨_,rfl,e',_,names,rfl,te.same s2,oe,de,fun H3 s3=>⟨s3 _ _ hD',?_,some (.ref pe),rfl,hi',?_,upd_same,?_⟩⟩
            · rw [List.length_map]
              exact small1000 (Nat.le_trans (List.length_filterMap_le _ _) (Nat.le_trans (List.length_take_le _ _) (by omega)))
            · rw [List.take_add_one,he]
              simp
            · intro b o e
              have hb : b ≠ D:=ne_of_none e hD
              rw [upd_ne hb]
              exact s3 b o (sm b o e)
          · refine ⟨_,rfl,_,_,_,_,_,rfl,rfl,TyOf.int m,T.k_tint_ttuple,_,rfl,iteF ?_⟩
            exact ⟨_,rfl,hi',by rw [List.take_add_one,he]; simp,hD',sm⟩
        · rintro zs τ H' ⟨o,rfl,_,rfl,hD',sm⟩
          rw [hlen,List.take_length] at hD'
          refine ⟨D,(qs.filterMap id).map fun e=>(e.size : Int),rfl,SqL.of (by rw [List.map_map]; exact hD'),_,_,rfl,rfl,?_⟩
          have k':=k H' (s1.trans sm)
          rw [sz] at k'
          have e2 : (if decide (V.str wd = V.str "mod") = true then (1 : Int) else 0) = (if wd = "mod" then 1 else 0):=by
            by_cases q : wd = "mod"
            · rw [if_pos q,if_pos (by rw [q]; simp)]
            · rw [if_neg q,if_neg (by simpa using q)]
          rw [← e2] at k'
          exact k'
end
end K04

namespace K04
open PySem L2
section
variable {P : Program} {w : World} {K : PySem.W.Frag} {mg : Str→Option Value} {base : Heap} {a : Ad}
def spFits (n : Nat) : Sp:=fun vs H Q _=>∃ (l nm : Addr) (x0 : Str) (names : List Str) (deep : Int),vs = [.ref l,.ref nm,.int deep]∧StAt H l∧H nm = some (.lst ((x0 :: names).map V.str))∧nm ≠ l∧names.length < 100∧1 ≤ deep∧deep ≤ n ∧
  ∀ (e : Ex) (v : V) (H' : Hp),Told H' e v→e.ok (x0 :: names)→e.dep ≤ n→e.size ≤ 15→StAt H' l→Ext l H H'→Q v H'
theorem ok_fits (T : Txt w K mg a) (n : Nat) : FnOk P w K mg base CX0 (n + 3) a.f_qs a.d_qs ["_law_state", "_law_names", "_law_deep"] (spFits n):=by
  have c_qq : Callee P w K mg base "_law_expr" a.f_qq a.d_qq ["_law_state", "_law_names", "_law_deep"] (n + 2) (spExpr n):=⟨ok_expr T n,T.g_qq,T.F_qq.kp,T.b_qq⟩
  have c_qt : Callee P w K mg base "_law_size" a.f_qt a.d_qt ["_law_told"] (n + 1) (spSize n):=⟨ok_size T n,T.g_qt,T.F_qt.kp,T.b_qt⟩
  refine T.F_qs.ok sc_qs (fun vs H Q E h=>?_) (fun cdv A outer s H vs Q E hr h=>?_)
  · obtain ⟨l,nm,x0,names,deep,rfl,_⟩:=h
    rfl
  · obtain ⟨l,nm,x0,names,deep,rfl,hs,hnm,hne,hn,d1,d2,k⟩:=h
    refine bx_in (w_pss_cons (w_ps_set (i:=3) sc_qs.nd rfl (Or.inl rfl) (w_pe_c c_qq (hr.mono (by omega)) (w_pa_N (w_pv 0) (w_pa_N (w_pv 1) (w_pa_N (w_pv 2) w_pa_nil)))))
      (w_pss_cons (w_ps_if (w_pt_cmpR op_gt (w_pe_c c_qt (hr.mono (by omega)) (w_pa_N (w_pv 3) w_pa_nil)) w_pe_int (nomark _))
        (w_pss_one (w_ps_ret (w_pe_tup (w_pa_C w_pe_str (w_pa_cons (w_pe_ix ix_list (w_pv 1) w_pe_int (fun _ _=>rfl)) w_pa_nil)))))
        w_pss_nil)
      (w_pss_one (w_ps_ret (w_pv 3))))) ?_
    refine ⟨_,rfl,_,rfl,_,rfl,l,nm,x0 :: names,deep,rfl,hs,hnm,hne,(by simp),(by simp; omega),d1,d2,fun e v H1 t1 o1 dd s1 x1=>?_⟩
    refine ⟨_,rfl,e,v,x0 :: names,rfl,t1,o1,dd,fun H2 s2=>⟨_,_,rfl,rfl,_,rfl,?_⟩⟩
    have hs2:=s1.same s2
    have x2 : Ext l H H2:=x1.trans (Ext.same s2)
    refine ite2 (fun q=>?_) (fun q=>?_)
    · refine ⟨_,rfl,nm,_,0,V.str x0,rfl,rfl,SqL.of (x2 _ _ hnm hne),at0,(by show 2 ≤ sizeLine; decide),fun p hp=>?_⟩
      have:=e.dep_pos
      exact k (.name x0) _ _ ⟨p,rfl,upd_same⟩ (List.mem_cons_self) (by show 1 ≤ n; omega) (by show 1 ≤ 15; decide) (hs2.new hp) (x2.trans (Ext.new hp))
    · have q' : ¬ ((e.size : Int) > 15):=fun z=>q (decide_eq_true z)
      exact ⟨_,rfl,k e v H2 (t1.same s2) o1 dd (by omega) hs2 x2⟩
def spFour : Sp:=fun vs H Q _=>∃ (l : Addr),vs = [.ref l]∧StAt H l ∧
  ∀ (q : Addr) (v1 v2 v3 v4 : V) (e1 e2 e3 e4 : Ex) (H' : Hp),H q = none→H' q = some (.lst [v1,v2,v3,v4])→(Told H' e1 v1∧e1.ok startNs∧e1.dep ≤ 4∧e1.size ≤ 15)→(Told H' e2 v2∧e2.ok sendNs∧e2.dep ≤ 4∧e2.size ≤ 15)→(Told H' e3 v3∧e3.ok sendNs∧e3.dep ≤ 4∧e3.size ≤ 15)→(Told H' e4 v4∧e4.ok renewNs∧e4.dep ≤ 4∧e4.size ≤ 15) →
    StAt H' l→Ext l H H'→Q (.ref q) H'
theorem ok_four (T : Txt w K mg a) : FnOk P w K mg base CX0 8 a.f_qu a.d_qu ["_law_state"] spFour:=by
  have c_qs : Callee P w K mg base "_law_fits" a.f_qs a.d_qs ["_law_state", "_law_names", "_law_deep"] 7 (spFits 4):=⟨ok_fits T 4,T.g_qs,T.F_qs.kp,T.b_qs⟩
  refine T.F_qu.ok sc_qu (fun vs H Q E h=>?_) (fun cdv A outer s H vs Q E hr h=>?_)
  · obtain ⟨l,rfl,_⟩:=h
    rfl
  · obtain ⟨l,rfl,hs,k⟩:=h
    refine bx_in (w_pss_cons (w_ps_set (i:=1) sc_qu.nd rfl (Or.inl rfl) (w_pe_lst (w_pa_C w_pe_str (w_pa_C w_pe_str w_pa_nil))))
      (w_pss_cons (w_ps_set (i:=2) sc_qu.nd rfl (Or.inl rfl) (w_pe_lst (w_pa_C w_pe_str (w_pa_C w_pe_str (w_pa_C w_pe_str (w_pa_C w_pe_str (w_pa_C w_pe_str w_pa_nil)))))))
      (w_pss_cons (w_ps_set (i:=3) sc_qu.nd rfl (Or.inl rfl) (w_pe_lst (w_pa_C w_pe_str (w_pa_C w_pe_str (w_pa_C w_pe_str (w_pa_C w_pe_str (w_pa_C w_pe_str (w_pa_C w_pe_str (w_pa_C w_pe_str (w_pa_C w_pe_str w_pa_nil))))))))))
      (w_pss_cons (w_ps_set (i:=4) sc_qu.nd rfl (Or.inl rfl) (w_pe_c c_qs (hr.mono (by omega)) (w_pa_N (w_pv 0) (w_pa_N (w_pv 1) (w_pa_C w_pe_int w_pa_nil)))))
      (w_pss_cons (w_ps_set (i:=5) sc_qu.nd rfl (Or.inl rfl) (w_pe_c c_qs (hr.mono (by omega)) (w_pa_N (w_pv 0) (w_pa_N (w_pv 2) (w_pa_C w_pe_int w_pa_nil)))))
      (w_pss_cons (w_ps_set (i:=6) sc_qu.nd rfl (Or.inl rfl) (w_pe_c c_qs (hr.mono (by omega)) (w_pa_N (w_pv 0) (w_pa_N (w_pv 2) (w_pa_C w_pe_int w_pa_nil)))))
      (w_pss_one (w_ps_ret (w_pe_lst (w_pa_N (w_pv 4) (w_pa_N (w_pv 5) (w_pa_N (w_pv 6) (w_pa_K (w_pe_c c_qs (hr.mono (by omega)) (w_pa_N (w_pv 0) (w_pa_N (w_pv 3) (w_pa_C w_pe_int w_pa_nil)))) w_pa_nil))))))))))))) ?_
    refine ⟨by show 2 ≤ sizeLine; decide,fun n1 h1=>?_⟩
    have s1:=hs.new (o:=HO.lst (startNs.map V.str)) h1
    refine ⟨by show 5 ≤ sizeLine; decide,fun n2 h2=>?_⟩
    have s2:=s1.new (o:=HO.lst (sendNs.map V.str)) h2
    refine ⟨by show 8 ≤ sizeLine; decide,fun n3 h3=>?_⟩
    have s3:=s2.new (o:=HO.lst (renewNs.map V.str)) h3
    have e1:=hs.ne h1
    have e2:=s1.ne h2
    have e3:=s2.ne h3
    have x3 : Ext l H _:=((Ext.new (l:=l) (o:=HO.lst (startNs.map V.str)) h1).trans (Ext.new (o:=HO.lst (sendNs.map V.str)) h2)).trans (Ext.new (o:=HO.lst (renewNs.map V.str)) h3)
    have g1:=(Same.new (o:=HO.lst (renewNs.map V.str)) h3) _ _ ((Same.new (o:=HO.lst (sendNs.map V.str)) h2) _ _ (upd_same (H:=H) (a:=n1) (o:=HO.lst (startNs.map V.str))))
    have g2:=(Same.new (o:=HO.lst (renewNs.map V.str)) h3) _ _ (upd_same (H:=upd H n1 (HO.lst (startNs.map V.str))) (a:=n2) (o:=HO.lst (sendNs.map V.str)))
    have g3:=upd_same (H:=upd (upd H n1 (HO.lst (startNs.map V.str))) n2 (HO.lst (sendNs.map V.str))) (a:=n3) (o:=HO.lst (renewNs.map V.str))
    refine ⟨_,rfl,_,rfl,l,n1, "me",["lines"],4,rfl,s3,g1,e1,by decide,by decide,by decide,fun a1 v1 H4 t1 o1 d1 z1 s4 x4=>?_⟩
    refine ⟨_,rfl,_,rfl,l,n2, "worth",["me", "round", "lines", "to"],4,rfl,s4,x4 _ _ g2 e2,e2,by decide,by decide,by decide,fun a2 v2 H5 t2 o2 d2 z2 s5 x5=>?_⟩
    refine ⟨_,rfl,_,rfl,l,n2, "worth",["me", "round", "lines", "to"],4,rfl,s5,(x4.trans x5) _ _ g2 e2,e2,by decide,by decide,by decide,fun a3 v3 H6 t3 o3 d3 z3 s6 x6=>?_⟩
    refine ⟨_,rfl,_,rfl,_,rfl,_,rfl,_,rfl,l,n3, "worth",["me", "round", "lines", "sum", "least", "most", "count"],4,rfl,s6,((x4.trans x5).trans x6) _ _ g3 e3,e3,by decide,by decide,by decide,fun a4 v4 H7 t4 o4 d4 z4 s7 x7=>?_⟩
    refine ⟨by show 4 ≤ sizeLine; decide,fun q hq=>?_⟩
    have y:=Same.new (o:=HO.lst [v1,v2,v3,v4]) hq
    have x37:=((x4.trans x5).trans x6).trans x7
    have hq0 : H q = none:=by
      cases e : H q with
      | none=>rfl
      | some o =>
        have hql:=s7.ne hq
        rw [(x3.trans x37) _ _ e hql] at hq
        cases hq
    exact k q v1 v2 v3 v4 a1 a2 a3 a4 _ hq0 upd_same ⟨(t1.ext s4 ((x5.trans x6).trans x7)).same y,o1,d1,z1⟩ ⟨(t2.ext s5 (x6.trans x7)).same y,o2,d2,z2⟩ ⟨(t3.ext s6 x7).same y,o3,d3,z3⟩ ⟨t4.same y,o4,d4,z4⟩ (s7.new hq) ((x3.trans x37).trans (Ext.new hq))
end
end K04

namespace K04
open PySem L2
theorem dec_str {x y : Str} : decide (V.str x = V.str y) = decide (x = y):=by
  by_cases h : x = y
  · rw [decide_eq_true h,decide_eq_true (by rw [h])]
  · rw [decide_eq_false h,decide_eq_false (by intro z; exact h (V.str.inj z))]
section
variable {P : Program} {w : World} {K : PySem.W.Frag} {mg : Str→Option Value} {base : Heap} {a : Ad}
def Asc (x : Str) : Prop:=x.cps.all (· < 128) = true∧x.length ≤ sizeLine
theorem asc_mem {x : Str} (h : ∀ c ∈ x.cps.toList,c < 128) : x.cps.all (· < 128) = true:=by
  rw [← Array.all_toList,List.all_eq_true]
  intro c hc
  exact decide_eq_true (h c hc)
theorem Asc.mem {x : Str} (h : Asc x) : ∀ c ∈ x.cps.toList,c < 128:=fun c hc=>by
  have:=h.1
  rw [← Array.all_toList,List.all_eq_true] at this
  exact of_decide_eq_true (this c hc)
theorem asc_figs {x : Str} (h : Asc x) : Asc (figsOf x):=by
  unfold figsOf
  by_cases q : Txt.startswith x "-" = true
  · rw [if_pos q]
    refine ⟨asc_mem fun c hc=>?_,Nat.le_trans (Txt.slice_le x _ _) h.2⟩
    rw [minus_one,starts_one,decide_eq_true_eq] at q
    cases e : x.cps.toList with
    | nil=>rw [e] at q; cases q
    | cons d r =>
      rw [slice_from1 e] at hc
      exact h.mem c (by rw [e]; exact List.mem_cons_of_mem _ hc)
  · rw [if_neg q]; exact h
def spIsNum : Sp:=fun vs H Q _=>∃ x,vs = [.str x]∧Asc x∧Q (.bl (numW x)) H
theorem ok_isnum (T : Txt w K mg a) : FnOk P w K mg base CX0 1 a.f_qi a.d_qi ["word"] spIsNum:=by
  refine T.F_qi.ok sc_qi (fun vs H Q E h=>?_) (fun cdv A outer s H vs Q E hr h=>?_)
  · obtain ⟨x,rfl,_⟩:=h
    rfl
  · obtain ⟨x,rfl,ha,k⟩:=h
    refine bx_in (w_pss_cut (w_ps_set (i:=1) sc_qi.nd rfl (Or.inl rfl) (w_pe_ifExp (w_pt_val (w_pe_bm PySem.F.plainAttrs_str PySem.F.slot_str_startswith PySem.F.type_str_startswith mt_startswith (w_pv 0) (w_pa_C w_pe_str w_pa_nil))) (w_pe_slice sl_str (w_pv 0) (w_po_some w_pe_int) w_po_none) (w_pv 0)))
      (w_pss_cons (w_ps_for PassesOwn.never rfl (w_pi_str (w_pv 1)) (w_pg_name (i:=2) sc_qi.nd rfl (Or.inl rfl))
        (w_pss_one (w_ps_if (w_pt_cmpR op_notInS (w_pv 2) (w_pe_glob (v:=.str "0123456789") rfl T.g_FIGURES ⟨_,rfl⟩) (by with_unfolding_all rfl))
          (w_pss_one (w_ps_ret w_pe_bl))
          w_pss_nil)))
      (w_pss_one (w_ps_ret (w_pe_and (w_pe_cmpR op_ne (w_pv 1) w_pe_str (nomark _)) (w_pe_one (w_pe_or (w_pe_cmpR op_eq (w_pv 0) w_pe_str (nomark _)) (w_pe_one (w_pe_not (w_pe_bm PySem.F.plainAttrs_str PySem.F.slot_str_startswith PySem.F.type_str_startswith mt_startswith (w_pv 1) (w_pa_C w_pe_str w_pa_nil))))))))))) ?_
    refine ⟨fun σ' H'=>σ' = [some (.str x),some (.str (figsOf x)),none]∧H' = H,?_,?_⟩
    · refine ⟨_,rfl,rfl,_,_,rfl,rfl,_,rfl,?_⟩
      by_cases q : Txt.startswith x "-" = true
      · refine iteB q ⟨_,rfl,_,rfl,x,rfl,ha.2,?_⟩
        rw [show Txt.slice x (some 1) none = figsOf x by unfold figsOf; rw [if_pos q]]
        exact ⟨rfl,rfl⟩
      · refine iteN (Bool.eq_false_iff.mpr q) ⟨_,rfl,?_⟩
        refine ⟨?_,rfl⟩
        unfold figsOf
        rw [if_neg q]
        rfl
    rintro σ' H' ⟨rfl,rfl⟩
    generalize hf : figsOf x = f
    have haf : Asc f:=hf ▸ asc_figs ha
    refine ⟨_,rfl,f,rfl,haf.1,?_⟩
    refine for_str (x:=f) (fun i σ H2=>∃ o,σ = [some (.str x),some (.str f),o]∧H2 = H'∧(f.cps.toList.take i).all isFig = true) ?_ ?_ ?_
    · exact ⟨none,rfl,rfl,by simp⟩
    · rintro i c σ H2 hc ⟨o,rfl,rfl,hall⟩
      refine ⟨_,rfl,_,_,rfl,rfl,_,rfl,?_⟩
      rw [contains_one]
      by_cases q : isFig c = true
      · refine iteN (by show (!(decide (c ∈ _))) = false; rw [show decide _ = true from q]; rfl) ?_
        refine ⟨_,rfl,rfl,?_⟩
        rw [List.take_add_one,hc,List.all_append,hall]
        simp [q]
      · refine iteB (by show (!(decide (c ∈ _))) = true; rw [show decide _ = false from Bool.eq_false_iff.mpr q]; rfl) ?_
        have e : numW x = false:=by
          unfold numW
          rw [hf]
          have : f.cps.toList.all isFig = false:=List.all_eq_false.mpr ⟨c,List.mem_of_getElem? hc,q⟩
          rw [this]; rfl
        rw [e] at k
        exact k
    · rintro σ H2 ⟨o,rfl,rfl,hall⟩
      rw [List.take_length] at hall
      have e : numW x = tailW x:=by
        unfold numW
        rw [hf,hall]; rfl
      rw [e] at k
      unfold tailW at k
      rw [hf] at k
      refine ⟨_,rfl,rfl,_,rfl,?_⟩
      by_cases q : f = ""
      · refine iteN (by rw [dec_str,decide_eq_true q]; rfl) ?_
        rw [decide_eq_false (by simpa using q)] at k
        exact k
      · refine iteB (by rw [dec_str,decide_eq_false q]; rfl) ?_
        rw [decide_eq_true q,Bool.true_and] at k
        refine ⟨_,rfl,rfl,_,rfl,?_⟩
        rw [dec_str]
        by_cases q0 : x = "0"
        · refine iteB (decide_eq_true q0) ?_
          rw [decide_eq_true q0] at k
          exact k
        · refine iteN (decide_eq_false q0) ⟨_,rfl,rfl,_,_,rfl,rfl,_,rfl,?_⟩
          rw [decide_eq_false q0] at k
          exact k
def spNumOf : Sp:=fun vs H Q _=>∃ x,vs = [.str x]∧x.length ≤ sizeLine∧numW x = true∧Q (.int (numG x)) H
theorem ok_numof (T : Txt w K mg a) : FnOk P w K mg base CX0 1 a.f_qj a.d_qj ["word"] spNumOf:=by
  refine T.F_qj.ok sc_qj (fun vs H Q E h=>?_) (fun cdv A outer s H vs Q E hr h=>?_)
  · obtain ⟨x,rfl,_⟩:=h
    rfl
  · obtain ⟨x,rfl,hz,hn,k⟩:=h
    refine bx_in (w_pss_one (w_ps_ret (w_pe_callTy call_intS (by rfl) T.n_int bt_int (w_pa_cons (w_pe_slice sl_str (w_pv 0) w_po_none (w_po_some w_pe_int)) w_pa_nil)))) ?_
    have hl : (Txt.slice x none (some 22)).length ≤ 22:=by
      rw [← cl_len,slice22]
      exact List.length_take_le _ _
    exact ⟨_,rfl,_,rfl,x,rfl,hz,_,_,rfl,num_reads hn,by omega,k⟩
def MadeL (a : Ad) (H : Hp) : List V→List Ex→Prop
  | [],[]=>True
  | r :: rs,e :: es=>Made a H e r∧MadeL a H rs es
  | _,_=>False
theorem MadeL.same {H H' : Hp} (k : Same H H') : ∀ {rs : List V} {es : List Ex},MadeL a H rs es→MadeL a H' rs es
  | [],[],_=>trivial
  | _ :: _,_ :: _,⟨h,t⟩=>⟨h.same k,MadeL.same k t⟩
theorem MadeL.cons {H : Hp} {rs : List V} {e : Ex} {es : List Ex} (h : MadeL a H rs (e :: es)) : ∃ r rs',rs = r :: rs'∧Made a H e r∧MadeL a H rs' es:=by
  match rs,h with
  | r :: rs',⟨h1,h2⟩=>exact ⟨r,rs',rfl,h1,h2⟩
theorem MadeL.nil {H : Hp} {rs : List V} (h : MadeL a H rs []) : rs = []:=by
  match rs,h with
  | [],_=>rfl
theorem MadeL.drop {H : Hp} : ∀ (n : Nat) {rs : List V} {es : List Ex},MadeL a H rs es→MadeL a H (rs.drop n) (es.drop n)
  | 0,_,_,h=>h
  | _ + 1,[],[],h=>h
  | n + 1,_ :: _,_ :: _,⟨_,t⟩=>MadeL.drop n t
theorem MadeL.len {H : Hp} : ∀ {rs : List V} {es : List Ex},MadeL a H rs es→rs.length = es.length
  | [],[],_=>rfl
  | _ :: _,_ :: _,⟨_,t⟩=>by rw [List.length_cons,List.length_cons,MadeL.len t]
def spPart (a : Ad) : Sp:=fun vs H Q _=>∃ x l rs es,vs = [.str x,.ref l]∧Asc x∧H l = some (.lst rs)∧MadeL a H rs es ∧
  (∀ e' rest,stepG x es = some (e' :: rest)→∀ r H',Made a H' e' r→Same H H'→Q r H')∧(stepG x es = none→Q .non H)
theorem ok_part (T : Txt w K mg a) : FnOk P w K mg base CX0 3 a.f_qk a.d_qk ["word", "parts"] (spPart a):=by
  have c_qi : Callee P w K mg base "is_number_word" a.f_qi a.d_qi ["word"] 1 spIsNum:=⟨ok_isnum T,T.g_qi,T.F_qi.kp,T.b_qi⟩
  have c_qj : Callee P w K mg base "number_of" a.f_qj a.d_qj ["word"] 1 spNumOf:=⟨ok_numof T,T.g_qj,T.F_qj.kp,T.b_qj⟩
  have m_Num : Maker P w K mg base "Num" a.c_Num a.f_qz a.d_qz ["self", "value"] 1 (spI1 a.c_Num "value"):=⟨ok_Num_init T,T.g_Num,T.mk_Num,T.b_qz⟩
  have m_Name : Maker P w K mg base "Name" a.c_Name a.f_qB a.d_qB ["self", "word"] 1 (spI1 a.c_Name "word"):=⟨ok_Name_init T,T.g_Name,T.mk_Name,T.b_qB⟩
  have m_Two : Maker P w K mg base "Two" a.c_Two a.f_qD a.d_qD ["self", "word", "one", "other"] 1 (spI3 a.c_Two "word" "one" "other"):=⟨ok_Two_init T,T.g_Two,T.mk_Two,T.b_qD⟩
  have m_Mod : Maker P w K mg base "Mod" a.c_Mod a.f_qF a.d_qF ["self", "inner", "number"] 1 (spI2 a.c_Mod "inner" "number"):=⟨ok_Mod_init T,T.g_Mod,T.mk_Mod,T.b_qF⟩
  have m_Less : Maker P w K mg base "Less" a.c_Less a.f_qH a.d_qH ["self", "one", "other", "third", "fourth"] 1 (spI4 a.c_Less "one" "other" "third" "fourth"):=⟨ok_Less_init T,T.g_Less,T.mk_Less,T.b_qH⟩
  refine T.F_qk.ok sc_qk (fun vs H Q E h=>?_) (fun cdv A outer s H vs Q E hr h=>?_)
  · obtain ⟨x,l,rs,es,rfl,_⟩:=h
    rfl
  · obtain ⟨x,l,rs,es,rfl,ha,hl,hm,k,kn⟩:=h
    refine bx_in (w_pss_cons (w_ps_if (w_pt_cmpR op_in_seq (w_pv 0) (w_pe_glob (v:=.ref a.t_ALL_NAMES) rfl T.g_ALL_NAMES rfl) (by with_unfolding_all rfl))
        (w_pss_one (w_ps_ret (w_pe_m m_Name (hr.mono (by omega)) (w_pa_N (w_pv 0) w_pa_nil))))
        w_pss_nil)
      (w_pss_cons (w_ps_if (w_pt_val (w_pe_c c_qi (hr.mono (by omega)) (w_pa_N (w_pv 0) w_pa_nil)))
        (w_pss_one (w_ps_ret (w_pe_m m_Num (hr.mono (by omega)) (w_pa_K (w_pe_c c_qj (hr.mono (by omega)) (w_pa_N (w_pv 0) w_pa_nil)) w_pa_nil))))
        w_pss_nil)
      (w_pss_cons (w_ps_if (w_pt (w_pw_or (w_pt_cmpR op_notInT (w_pv 0) (w_pe_glob (v:=.ref a.t_PARTS) rfl T.g_PARTS rfl) (by with_unfolding_all rfl)) (w_pw_or1 (w_pt_cmpR op_lt (w_pe_callB call_len_seq (by rfl) T.n_len bt_len (w_pa_N (w_pv 1) w_pa_nil)) (w_pe_ix ix_tab (w_pe_glob (v:=.ref a.t_PARTS) rfl T.g_PARTS rfl) (w_pv 0) (fun _ _=>rfl)) (nomark _)))))
        (w_pss_one (w_ps_ret w_pe_non))
        w_pss_nil)
      (w_pss_cons (w_ps_if (w_pt_cmpR op_eq (w_pv 0) w_pe_str (nomark _))
        (w_pss_one (w_ps_ret (w_pe_m m_Less (hr.mono (by omega)) (w_pa_cons (w_pe_ix ix_list (w_pv 1) w_pe_int (fun _ _=>rfl)) (w_pa_cons (w_pe_ix ix_list (w_pv 1) w_pe_int (fun _ _=>rfl)) (w_pa_cons (w_pe_ix ix_list (w_pv 1) w_pe_int (fun _ _=>rfl)) (w_pa_cons (w_pe_ix ix_list (w_pv 1) w_pe_int (fun _ _=>rfl)) w_pa_nil)))))))
        w_pss_nil)
      (w_pss_cons (w_ps_if (w_pt_cmpR op_eq (w_pv 0) w_pe_str (nomark _))
        (w_pss_one (w_ps_ret (w_pe_ifExp (w_pt_val (w_pe_callB call_isi (by rfl) T.n_isinstance bt_isinstance (w_pa_cons (w_pe_ix ix_list (w_pv 1) w_pe_int (fun _ _=>rfl)) (w_pa_N (w_pe_cls T.g_Num) w_pa_nil)))) (w_pe_m m_Mod (hr.mono (by omega)) (w_pa_cons (w_pe_ix ix_list (w_pv 1) w_pe_int (fun _ _=>rfl)) (w_pa_cons (w_pe_fld (w_pe_ix ix_list (w_pv 1) w_pe_int (fun _ _=>rfl)) rfl) w_pa_nil))) w_pe_non)))
        w_pss_nil)
      (w_pss_one (w_ps_ret (w_pe_m m_Two (hr.mono (by omega)) (w_pa_N (w_pv 0) (w_pa_cons (w_pe_ix ix_list (w_pv 1) w_pe_int (fun _ _=>rfl)) (w_pa_cons (w_pe_ix ix_list (w_pv 1) w_pe_int (fun _ _=>rfl)) w_pa_nil))))))))))) ?_
    refine ⟨_,rfl,_,_,rfl,.inr (T.s_ALL_NAMES H),rfl,flat_strs allNs,_,rfl,?_⟩
    by_cases h1 : inV (.str x) (allNs.map V.str) = true
    · refine iteB h1 ⟨_,rfl,fun p dx nx ndx nex=>⟨p,dx,_,rfl,upd_same,rfl,?_⟩⟩
      exact k (.name x) es (by unfold stepG; rw [if_pos h1]) _ _ ⟨p,dx,rfl,upd_same⟩ (Same.made nx ndx)
    have h1':=Bool.eq_false_iff.mpr h1
    refine iteN h1' ⟨_,rfl,x,rfl,ha,_,rfl,?_⟩
    by_cases h2 : numW x = true
    · refine iteB h2 ⟨_,rfl,x,rfl,ha.2,h2,?_⟩
      refine fun p dx nx ndx nex=>⟨p,dx,_,rfl,upd_same,rfl,?_⟩
      exact k (.num (numG x)) es (by unfold stepG; rw [if_neg h1,if_pos h2]) _ _ ⟨p,dx,rfl,upd_same⟩ (Same.made nx ndx)
    have h2':=Bool.eq_false_iff.mpr h2
    refine iteN h2' ?_
    have hlen:=hm.len
    rcases stepG_cases (es:=es) h1' h2' with ⟨tn,e⟩ | ⟨rfl,e⟩ | ⟨rfl,e⟩ | ⟨t,e⟩
    · refine ⟨_,rfl,_,_,_,rfl,rfl,T.s_PARTS,_,rfl,iteB (by rw [tn]; rfl) ?_⟩
      exact kn e
    · refine ⟨_,rfl,_,_,_,rfl,rfl,T.s_PARTS,_,rfl,iteN (by rw [less_no.2.2]; rfl) ?_⟩
      refine ⟨_,rfl,l,_,rfl,.inl (SqL.of hl),_,rfl,_,_,_,4,rfl,rfl,T.s_PARTS,less_no.2.2,_,_,rfl,rfl,_,rfl,?_⟩
      match es,hm,hlen,e with
      | e1 :: e2 :: e3 :: e4 :: r,hm,hlen,e =>
        obtain ⟨r1,rs1,rfl,m1,hm⟩:=hm.cons
        obtain ⟨r2,rs2,rfl,m2,hm⟩:=hm.cons
        obtain ⟨r3,rs3,rfl,m3,hm⟩:=hm.cons
        obtain ⟨r4,rs4,rfl,m4,hm⟩:=hm.cons
        refine iteN (decide_eq_false (by simp only [List.length_cons]; omega)) ?_
        refine ⟨_,rfl,rfl,_,rfl,iteB (by decide +kernel) ?_⟩
        refine ⟨_,rfl,l,_,0,_,rfl,rfl,SqL.of hl,atI_nat (j:=0) rfl,_,rfl,l,_,1,_,rfl,rfl,SqL.of hl,atI_nat (j:=1) rfl,_,rfl,l,_,2,_,rfl,rfl,SqL.of hl,atI_nat (j:=2) rfl,_,rfl,l,_,3,_,rfl,rfl,SqL.of hl,atI_nat (j:=3) rfl,?_⟩
        refine fun p dx nx ndx nex=>⟨p,dx,_,_,_,_,rfl,upd_same,rfl,?_⟩
        have s5 : Same H _:=Same.made (C:=a.c_Less) (fs:=[("one",r1),("other",r2),("third",r3),("fourth",r4)]) (fs':=[]) nx ndx
        exact k (.less e1 e2 e3 e4) r e _ _ ⟨p,dx,r1,r2,r3,r4,rfl,upd_same,m1.same s5,m2.same s5,m3.same s5,m4.same s5⟩ s5
      | [],_,hlen,e=>exact iteB (decide_eq_true (by show (rs.length : Int) < 4; rw [hlen]; simp)) (kn e)
      | [_],_,hlen,e=>exact iteB (decide_eq_true (by show (rs.length : Int) < 4; rw [hlen]; simp)) (kn e)
      | [_,_],_,hlen,e=>exact iteB (decide_eq_true (by show (rs.length : Int) < 4; rw [hlen]; simp)) (kn e)
      | [_,_,_],_,hlen,e=>exact iteB (decide_eq_true (by show (rs.length : Int) < 4; rw [hlen]; simp)) (kn e)
    · refine ⟨_,rfl,_,_,_,rfl,rfl,T.s_PARTS,_,rfl,iteN (by rw [mod_no.2.2]; rfl) ?_⟩
      refine ⟨_,rfl,l,_,rfl,.inl (SqL.of hl),_,rfl,_,_,_,2,rfl,rfl,T.s_PARTS,mod_no.2.2,_,_,rfl,rfl,_,rfl,?_⟩
      match es,hm,hlen,e with
      | [],_,hlen,e=>exact iteB (decide_eq_true (by show (rs.length : Int) < 2; rw [hlen]; simp)) (kn e)
      | [_],_,hlen,e=>exact iteB (decide_eq_true (by show (rs.length : Int) < 2; rw [hlen]; simp)) (kn e)
      | e1 :: e2 :: r,hm,hlen,e =>
        obtain ⟨r1,rs1,rfl,m1,hm⟩:=hm.cons
        obtain ⟨r2,rs2,rfl,m2,hm⟩:=hm.cons
        refine iteN (decide_eq_false (by simp only [List.length_cons]; omega)) ?_
        refine ⟨_,rfl,rfl,_,rfl,iteN (by decide +kernel) ?_⟩
        refine ⟨_,rfl,rfl,_,rfl,iteB (by decide +kernel) ?_⟩
        cases e2 with
        | num n =>
          obtain ⟨p2,dx2,rfl,h2⟩:=m2
          refine ⟨_,rfl,l,_,1,_,rfl,rfl,SqL.of hl,atI_nat (j:=1) rfl,_,_,_,_,_,rfl,rfl,T.ty_Num H p2 dx2 _ h2,T.k_Num_Num,_,rfl,iteT ?_⟩
          refine ⟨_,rfl,l,_,0,_,rfl,rfl,SqL.of hl,atI_nat (j:=0) rfl,_,rfl,l,_,1,_,rfl,rfl,SqL.of hl,atI_nat (j:=1) rfl,p2,_,dx2,_,_,rfl,h2,T.cl_Num,T.na_Num_value,rfl,?_⟩
          refine fun p dx nx ndx nex=>⟨p,dx,_,_,rfl,upd_same,rfl,?_⟩
          have s5 : Same H _:=Same.made (C:=a.c_Mod) (fs:=[("inner",r1),("number",.int n)]) (fs':=[]) nx ndx
          exact k (.mod e1 n) r e _ _ ⟨p,dx,r1,rfl,upd_same,m1.same s5⟩ s5
        | name y =>
          obtain ⟨p2,dx2,rfl,h2⟩:=m2
          exact ⟨_,rfl,l,_,1,_,rfl,rfl,SqL.of hl,atI_nat (j:=1) rfl,_,_,_,_,_,rfl,rfl,T.ty_Name H p2 dx2 _ h2,T.k_Name_Num,_,rfl,iteN rfl (kn e)⟩
        | two y f g =>
          obtain ⟨p2,dx2,_,_,rfl,h2,_⟩:=m2
          exact ⟨_,rfl,l,_,1,_,rfl,rfl,SqL.of hl,atI_nat (j:=1) rfl,_,_,_,_,_,rfl,rfl,T.ty_Two H p2 dx2 _ h2,T.k_Two_Num,_,rfl,iteN rfl (kn e)⟩
        | mod f n =>
          obtain ⟨p2,dx2,_,rfl,h2,_⟩:=m2
          exact ⟨_,rfl,l,_,1,_,rfl,rfl,SqL.of hl,atI_nat (j:=1) rfl,_,_,_,_,_,rfl,rfl,T.ty_Mod H p2 dx2 _ h2,T.k_Mod_Num,_,rfl,iteN rfl (kn e)⟩
        | less f g h i =>
          obtain ⟨p2,dx2,_,_,_,_,rfl,h2,_⟩:=m2
          exact ⟨_,rfl,l,_,1,_,rfl,rfl,SqL.of hl,atI_nat (j:=1) rfl,_,_,_,_,_,rfl,rfl,T.ty_Less H p2 dx2 _ h2,T.k_Less_Num,_,rfl,iteN rfl (kn e)⟩
    · obtain ⟨n1,n2,n3⟩:=two_noR t
      obtain ⟨n4,n5⟩:=two_ne t
      refine ⟨_,rfl,_,_,_,rfl,rfl,T.s_PARTS,_,rfl,iteN (by rw [n3]; rfl) ?_⟩
      refine ⟨_,rfl,l,_,rfl,.inl (SqL.of hl),_,rfl,_,_,_,2,rfl,rfl,T.s_PARTS,n3,_,_,rfl,rfl,_,rfl,?_⟩
      match es,hm,hlen,e with
      | [],_,hlen,e=>exact iteB (decide_eq_true (by show (rs.length : Int) < 2; rw [hlen]; simp)) (kn e)
      | [_],_,hlen,e=>exact iteB (decide_eq_true (by show (rs.length : Int) < 2; rw [hlen]; simp)) (kn e)
      | e1 :: e2 :: r,hm,hlen,e =>
        obtain ⟨r1,rs1,rfl,m1,hm⟩:=hm.cons
        obtain ⟨r2,rs2,rfl,m2,hm⟩:=hm.cons
        refine iteN (decide_eq_false (by simp only [List.length_cons]; omega)) ?_
        refine ⟨_,rfl,rfl,_,rfl,iteN (by rw [dec_str]; exact decide_eq_false n4) ?_⟩
        refine ⟨_,rfl,rfl,_,rfl,iteN (by rw [dec_str]; exact decide_eq_false n5) ?_⟩
        refine ⟨_,rfl,_,rfl,l,_,0,_,rfl,rfl,SqL.of hl,atI_nat (j:=0) rfl,_,rfl,l,_,1,_,rfl,rfl,SqL.of hl,atI_nat (j:=1) rfl,?_⟩
        refine fun p dx nx ndx nex=>⟨p,dx,_,_,_,rfl,upd_same,rfl,?_⟩
        have s5 : Same H _:=Same.made (C:=a.c_Two) (fs:=[("word",.str x),("one",r1),("other",r2)]) (fs':=[]) nx ndx
        exact k (.two x e1 e2) r e _ _ ⟨p,dx,r1,r2,rfl,upd_same,m1.same s5,m2.same s5⟩ s5
end
end K04

namespace K04
open PySem L2
theorem cut_from {xs : List V} (k : Nat) : cutV xs (some (k : Int)) none = xs.drop k:=by
  have h1 : HT.sIx xs.length 0 (some (k : Int)) = min k xs.length:=by
    unfold HT.sIx
    simp
    omega
  have h2 : HT.sIx xs.length xs.length none = xs.length:=rfl
  unfold cutV
  rw [h1,h2]
  by_cases h : k ≤ xs.length
  · rw [Nat.min_eq_left h]
    exact List.take_of_length_le (by simp)
  · rw [Nat.min_eq_right (by omega),List.drop_eq_nil_of_le (Nat.le_refl _),List.drop_eq_nil_of_le (by omega)]
    simp
theorem tab_nn (w : Str) : (tabV partsD w).getD 0 = (((tabV partsD w).getD 0).toNat : Int):=by
  cases e : tabV partsD w with
  | none=>rfl
  | some i =>
    have : 0 ≤ i:=by
      rcases tab_some e with rfl | rfl | h
      · rw [less_no.2.2] at e; cases e; decide
      · rw [mod_no.2.2] at e; cases e; decide
      · rw [(two_noR h).2.2] at e; cases e; decide
    show i = (i.toNat : Int)
    omega
theorem Made.ref {a : Ad} {H : Hp} : ∀ {e : Ex} {r : V},Made a H e r→∃ p,r = .ref p
  | .num _,_,⟨p,_,h,_⟩=>⟨p,h⟩
  | .name _,_,⟨p,_,h,_⟩=>⟨p,h⟩
  | .two _ _ _,_,⟨p,_,_,_,h,_⟩=>⟨p,h⟩
  | .mod _ _,_,⟨p,_,_,h,_⟩=>⟨p,h⟩
  | .less _ _ _ _,_,⟨p,_,_,_,_,_,h,_⟩=>⟨p,h⟩
theorem Made.no {a : Ad} {H : Hp} {e : Ex} {r : V} (h : Made a H e r) : decide (r = .non) = false:=by
  obtain ⟨p,rfl⟩:=h.ref
  rfl
section
variable {P : Program} {w : World} {K : PySem.W.Frag} {mg : Str→Option Value} {base : Heap} {a : Ad}
def spReadWs (a : Ad) : Sp:=fun vs H Q _=>∃ (l : Addr) (ws : List Str),vs = [.ref l]∧H l = some (.lst (ws.map V.str))∧(∀ w ∈ ws,Asc w)∧ws.length ≤ 1000 ∧
  (∀ e,readG ws = some e→∀ r H',Made a H' e r→Same H H'→Q r H')∧(readG ws = none→∀ H',Same H H'→Q .non H')
theorem ok_readws (T : Txt w K mg a) : FnOk P w K mg base CX0 4 a.f_ql a.d_ql ["words"] (spReadWs a):=by
  have c_qk : Callee P w K mg base "read_part" a.f_qk a.d_qk ["word", "parts"] 3 (spPart a):=⟨ok_part T,T.g_qk,T.F_qk.kp,T.b_qk⟩
  refine T.F_ql.ok sc_ql (fun vs H Q E h=>?_) (fun cdv A outer s H vs Q E hr h=>?_)
  · obtain ⟨l,ws,rfl,_⟩:=h
    rfl
  · obtain ⟨l,ws,rfl,hl,hasc,hlen,k,kn⟩:=h
    refine bx_in (w_pss_cons (w_ps_set (i:=1) sc_ql.nd rfl (Or.inl rfl) (w_pe_lst w_pa_nil))
      (w_pss_cons (w_ps_for PassesOwn.never rfl (w_pi_reversed rfl T.n_reversed (w_pa_N (w_pv 0) w_pa_nil)) (w_pg_name (i:=2) sc_ql.nd rfl (Or.inl rfl))
        (w_pss_cons (w_ps_set (i:=3) sc_ql.nd rfl (Or.inl rfl) (w_pe_c c_qk (hr.mono (by omega)) (w_pa_N (w_pv 2) (w_pa_N (w_pv 1) w_pa_nil))))
        (w_pss_cons (w_ps_if (w_pt_cmpR op_isN (w_pv 3) w_pe_non (nomark _))
          (w_pss_one (w_ps_ret w_pe_non))
          w_pss_nil)
        (w_pss_one (w_ps_set (i:=1) sc_ql.nd rfl (Or.inl rfl) (w_pe_op op_cat (w_pe_lst (w_pa_N (w_pv 3) w_pa_nil)) (w_pe_slice sl_list (w_pv 1) (w_po_some (w_pe_tget2 (w_pe_glob (v:=.ref a.t_PARTS) rfl T.g_PARTS rfl) (w_pv 2) w_pe_int ⟨rfl,rfl,rfl,rfl⟩)) w_po_none)))))))
      (w_pss_one (w_ps_ret (w_pe_ifExp (w_pt_cmpR op_eq (w_pe_callB call_len_seq (by rfl) T.n_len bt_len (w_pa_N (w_pv 1) w_pa_nil)) w_pe_int (nomark _)) (w_pe_ix ix_list (w_pv 1) w_pe_int (fun _ _=>rfl)) w_pe_non))))) ?_
    refine ⟨by show 0 ≤ sizeLine; decide,fun q0 hq0=>?_⟩
    have s0:=Same.new (o:=HO.lst []) hq0
    refine ⟨_,rfl,l,_,rfl,SqL.of (s0 _ _ hl),?_⟩
    refine for_rev (K:=K) (a:=l) (xs:=ws.map V.str) (fun i σ H'=>∃ q rs es o2 o3,σ = [some (.ref l),some (.ref q),o2,o3]∧Same H H'∧H' q = some (.lst rs)∧MadeL a H' rs es∧(ws.drop (ws.length - i)).foldr rdG (some []) = some es∧rs.length ≤ i) ?_ ?_ ?_ ?_
    · exact ⟨q0,[],[],none,none,rfl,s0,upd_same,trivial,by rw [Nat.sub_zero,List.drop_length]; rfl,Nat.le_refl _⟩
    · rintro i σ H' _ ⟨q,rs,es,o2,o3,_,sm,_⟩
      exact SqL.of (sm _ _ hl)
    · rintro i x σ H' hx ⟨q,rs,es,o2,o3,rfl,sm,hq,hm,hes,hrs⟩
      have hi : i < ws.length:=by
        have:=(List.getElem?_eq_some_iff.mp hx).1
        simpa using this
      rw [List.getElem?_reverse (by simpa using hi),List.length_map,List.getElem?_map] at hx
      obtain ⟨wd,hwd,rfl⟩:=Option.map_eq_some_iff.mp hx
      have hj : ws.length - 1 - i < ws.length:=by omega
      have ej : ws.drop (ws.length - (i + 1)) = wd :: ws.drop (ws.length - i):=by
        rw [show ws.length - (i + 1) = ws.length - 1 - i by omega,List.drop_eq_getElem_cons hj,show ws.length - 1 - i + 1 = ws.length - i by omega]
        congr 1
        exact (List.getElem?_eq_some_iff.mp hwd).2
      have ew : ws = ws.take (ws.length - (i + 1)) ++ wd :: ws.drop (ws.length - i):=by
        rw [← ej,List.take_append_drop]
      have e1 : (ws.drop (ws.length - (i + 1))).foldr rdG (some []) = stepG wd es:=by
        rw [ej]
        show rdG wd ((ws.drop (ws.length - i)).foldr rdG (some [])) = _
        rw [hes]
        rfl
      refine ⟨_,rfl,_,rfl,wd,q,rs,es,rfl,hasc wd (List.mem_of_getElem? hwd),hq,hm,fun e' rest hst r H1 m1 s1=>?_,fun hst=>?_⟩
      · obtain ⟨e'',he⟩:=stepG_rest hst
        cases he
        refine ⟨_,rfl,rfl,_,rfl,iteN m1.no ?_⟩
        refine ⟨_,rfl,(by show 1 ≤ sizeLine; decide),fun p1 hp1=>?_⟩
        have s2:=s1.trans (Same.new (o:=HO.lst [r]) hp1)
        refine ⟨_,rfl,_,_,rfl,T.s_PARTS,_,rfl,_,_,rfl,rfl,_,rfl,q,rs,rfl,SqL.of (s2 _ _ hq),fun p2 hp2=>?_⟩
        rw [tab_nn,cut_from]
        generalize hk : ((tabV partsD wd).getD 0).toNat = kk at *
        have s3:=s2.trans (Same.new (o:=HO.lst (rs.drop kk)) hp2)
        have hd : (rs.drop kk).length ≤ i:=Nat.le_trans (by simp) hrs
        refine ⟨p1,p2,[r],rs.drop kk,rfl,rfl,(Same.new hp2) _ _ upd_same,upd_same,(by rw [List.length_singleton]; exact Nat.le_trans (show 1 + (rs.drop kk).length ≤ 2000 by omega) (by decide)),fun p3 hp3=>?_⟩
        have s4:=Same.new (o:=HO.lst ([r] ++ rs.drop kk)) hp3
        refine ⟨p3,[r] ++ rs.drop kk,e' :: es.drop kk,_,_,rfl,sm.trans (s3.trans s4),upd_same,⟨?_,?_⟩,e1.trans hst,?_⟩
        · exact m1.same ((Same.new (o:=HO.lst [r]) hp1).trans ((Same.new hp2).trans s4))
        · exact (hm.drop kk).same (s3.trans s4)
        · rw [List.length_append,List.length_singleton]
          omega
      · refine ⟨_,rfl,rfl,_,rfl,iteB rfl (kn ?_ _ sm)⟩
        unfold readG
        have : ws.foldr rdG (some []) = none:=by
          conv=>lhs; rw [ew]
          rw [List.foldr_append]
          have : (wd :: ws.drop (ws.length - i)).foldr rdG (some []) = none:=by rw [← ej,e1,hst]
          rw [this]
          exact rdG_none _
        rw [this]
        rfl
    · rintro σ H' ⟨q,rs,es,o2,o3,rfl,sm,hq,hm,hes,hrs⟩
      rw [List.length_map,Nat.sub_self,List.drop_zero] at hes
      have hlen:=hm.len
      refine ⟨_,rfl,q,_,rfl,.inl (SqL.of hq),rfl,_,rfl,?_⟩
      match es,hm,hes,hlen with
      | [e],hm,hes,hlen =>
        obtain ⟨r,rs',rfl,m1,hm⟩:=hm.cons
        cases hm.nil
        exact iteB rfl ⟨_,rfl,q,_,0,_,rfl,rfl,SqL.of hq,at0,k e (by unfold readG; rw [hes]; rfl) _ _ m1 sm⟩
      | [],hm,hes,hlen=>exact iteN (decide_eq_false (by rw [hlen]; simp)) (kn (by unfold readG; rw [hes]; rfl) _ sm)
      | e :: f :: r,hm,hes,hlen=>exact iteN (decide_eq_false (by rw [hlen]; simp; omega)) (kn (by unfold readG; rw [hes]; rfl) _ sm)
structure Fit (row : Str) : Prop where
  len : row.length ≤ 100000
  asc : ∀ w ∈ Txt.split row " ",Asc w
  cnt : (Txt.split row " ").length ≤ 1000
def spRow (a : Ad) : Sp:=fun vs H Q _=>∃ (row first : Str),vs = [.str row,.str first]∧Fit row ∧
  (∀ e,rowG first row = some e→∀ r H',Made a H' e r→Same H H'→Q r H')∧(rowG first row = none→∀ H',Same H H'→Q .non H')
theorem ok_row (T : Txt w K mg a) : FnOk P w K mg base CX0 5 a.f_qm a.d_qm ["row", "first"] (spRow a):=by
  have c_ql : Callee P w K mg base "read_words" a.f_ql a.d_ql ["words"] 4 (spReadWs a):=⟨ok_readws T,T.g_ql,T.F_ql.kp,T.b_ql⟩
  refine T.F_qm.ok sc_qm (fun vs H Q E h=>?_) (fun cdv A outer s H vs Q E hr h=>?_)
  · obtain ⟨row,first,rfl,_⟩:=h
    rfl
  · obtain ⟨row,first,rfl,hf,k,kn⟩:=h
    refine bx_in (w_pss_cons (w_ps_set (i:=2) sc_qm.nd rfl (Or.inl rfl) (w_pe_bm PySem.F.plainAttrs_str PySem.F.slot_str_split PySem.F.type_str_split mt_split (w_pv 0) (w_pa_C w_pe_str w_pa_nil)))
      (w_pss_one (w_ps_ret (w_pe_ifExp (w_pt_cmpR op_eq (w_pe_ix ix_list (w_pv 2) w_pe_int (fun _ _=>rfl)) (w_pv 1) (nomark _)) (w_pe_c c_ql (hr.mono (by omega)) (w_pa_cons (w_pe_slice sl_list (w_pv 2) (w_po_some w_pe_int) w_po_none) w_pa_nil)) w_pe_non)))) ?_
    obtain ⟨hl,ha,hc⟩:=hf
    have hp:=parts_len row " "
    have e2 : sizeLine = 16777216:=rfl
    refine ⟨_,rfl,rfl,_,_,rfl,rfl,(by decide +kernel),(by omega),(by omega),(by omega),fun p hp=>?_⟩
    have hne:=split_ne row " "
    unfold rowG at k kn
    generalize hs : Txt.split row " " = ws at *
    cases ws with
    | nil=>exact absurd rfl hne
    | cons f ws =>
      have s0:=Same.new (o:=HO.lst ((f :: ws).map V.str)) hp
      refine ⟨_,rfl,p,_,0,_,rfl,rfl,SqL.of upd_same,at0,_,rfl,rfl,_,rfl,?_⟩
      rw [dec_str]
      by_cases hf : f = first
      · refine iteB (decide_eq_true hf) ?_
        simp only [if_pos hf] at k kn
        refine ⟨_,rfl,_,rfl,p,_,rfl,SqL.of upd_same,fun p2 hp2=>?_⟩
        rw [List.map_cons,cut1]
        have s1:=s0.trans (Same.new (o:=HO.lst (ws.map V.str)) hp2)
        exact ⟨p2,ws,rfl,upd_same,fun w hw=>ha w (List.mem_cons_of_mem _ hw),by rw [List.length_cons] at hc; omega,fun e he r H' m sm=>k e he r H' m (s1.trans sm),fun he H' sm=>kn he H' (s1.trans sm)⟩
      · refine iteN (decide_eq_false hf) ?_
        simp only [if_neg hf] at k kn
        exact kn trivial _ s0
end
end K04

namespace K04
open PySem L2
theorem Same.updF {p : Addr} {H H' : Hp} {o : HO} (x : Same H H') (h : H p = none) : Same H (upd H' p o):=fun b u e=>by
  rw [upd_ne (ne_of_none e h)]
  exact x b u e
theorem Made.updL {a : Ad} {H : Hp} {D : Addr} {zs : List V} {o : HO} (hD : H D = some (.lst zs)) {e : Ex} {v : V} (t : Made a H e v) : Made a (L2.upd H D o) e v:=t.mono fun b C dx fs h=>by
  have hb : b ≠ D:=ne_of h hD (by intro z; cases z)
  rw [upd_ne hb]
  exact h
theorem MadeL.updL {a : Ad} {H : Hp} {D : Addr} {zs : List V} {o : HO} (hD : H D = some (.lst zs)) : ∀ {rs : List V} {es : List Ex},MadeL a H rs es→MadeL a (L2.upd H D o) rs es
  | [],[],_=>trivial
  | _ :: _,_ :: _,⟨h,t⟩=>⟨h.updL hD,MadeL.updL hD t⟩
theorem MadeL.snoc {a : Ad} {H : Hp} {r : V} {e : Ex} (h : Made a H e r) : ∀ {rs : List V} {es : List Ex},MadeL a H rs es→MadeL a H (rs ++ [r]) (es ++ [e])
  | [],[],_=>⟨h,trivial⟩
  | _ :: _,_ :: _,⟨h1,t⟩=>⟨h1,MadeL.snoc h t⟩
def Four (a : Ad) (H : Hp) (e1 e2 e3 e4 : Ex) (r1 r2 r3 r4 : V) : Prop :=
  (Made a H e1 r1∧e1.ok startNs∧e1.dep ≤ 8)∧(Made a H e2 r2∧e2.ok sendNs∧e2.dep ≤ 8)∧(Made a H e3 r3∧e3.ok sendNs∧e3.dep ≤ 8)∧(Made a H e4 r4∧e4.ok renewNs∧e4.dep ≤ 8)∧e1.size + e2.size + e3.size + e4.size ≤ 60
def spProg (a : Ad) : Sp:=fun vs H Q _=>∃ (p dx : Addr) (r1 r2 r3 r4 : V) (e1 e2 e3 e4 : Ex),vs = [.ref p,r1,r2,r3,r4]∧H p = some (.ins a.c_Program dx [])∧Four a H e1 e2 e3 e4 r1 r2 r3 r4 ∧
  ∀ H',Same H H'→Q .non (upd H' p (.ins a.c_Program dx [("start",r1),("send",r2),("when",r3),("renew",r4)]))
def ProgAt (a : Ad) (H : Hp) (e1 e2 e3 e4 : Ex) (r : V) : Prop:=∃ (p dx : Addr) (r1 r2 r3 r4 : V),r = .ref p∧H p = some (.ins a.c_Program dx [("start",r1),("send",r2),("when",r3),("renew",r4)])∧Four a H e1 e2 e3 e4 r1 r2 r3 r4
def GoodE (e1 e2 e3 e4 : Ex) : Prop:=(e1.ok startNs∧e1.dep ≤ 8)∧(e2.ok sendNs∧e2.dep ≤ 8)∧(e3.ok sendNs∧e3.dep ≤ 8)∧(e4.ok renewNs∧e4.dep ≤ 8)∧e1.size + e2.size + e3.size + e4.size ≤ 60
theorem sub_start : ∀ x ∈ startNs,x ∈ allNs:=by decide +kernel
theorem sub_send : ∀ x ∈ sendNs,x ∈ allNs:=by decide +kernel
theorem sub_renew : ∀ x ∈ renewNs,x ∈ allNs:=by decide +kernel
theorem GoodE.rd {e1 e2 e3 e4 : Ex} (h : GoodE e1 e2 e3 e4) : Rdb e1∧Rdb e2∧Rdb e3∧Rdb e4:=by
  obtain ⟨⟨o1,_⟩,⟨o2,_⟩,⟨o3,_⟩,⟨o4,_⟩,z⟩:=h
  exact ⟨rdb_of sub_start o1 (by omega),rdb_of sub_send o2 (by omega),rdb_of sub_send o3 (by omega),rdb_of sub_renew o4 (by omega)⟩
theorem Four.good {a : Ad} {H : Hp} {e1 e2 e3 e4 : Ex} {r1 r2 r3 r4 : V} (h : Four a H e1 e2 e3 e4 r1 r2 r3 r4) : GoodE e1 e2 e3 e4:=by
  obtain ⟨⟨_,h1⟩,⟨_,h2⟩,⟨_,h3⟩,⟨_,h4⟩,z⟩:=h
  exact ⟨h1,h2,h3,h4,z⟩
def rowsOf (e1 e2 e3 e4 : Ex) : List Str:=[rowT "start" e1,rowT "send" e2,rowT "when" e3,rowT "reckon" e4]
section
variable {P : Program} {w : World} {K : PySem.W.Frag} {mg : Str→Option Value} {base : Heap} {a : Ad}
theorem good_gx {e1 e2 e3 e4 : Ex} : Good4 e1.gx e2.gx e3.gx e4.gx↔GoodE e1 e2 e3 e4:=by
  constructor
  · rintro ⟨f1,f2,f3,f4,⟨h1,h2,h3,h4⟩,⟨o1,o2,o3,o4⟩,⟨d1,d2,d3,d4⟩,z⟩
    cases Ex.gx_inj h1
    cases Ex.gx_inj h2
    cases Ex.gx_inj h3
    cases Ex.gx_inj h4
    exact ⟨⟨o1,d1⟩,⟨o2,d2⟩,⟨o3,d3⟩,⟨o4,d4⟩,z⟩
  · rintro ⟨⟨o1,d1⟩,⟨o2,d2⟩,⟨o3,d3⟩,⟨o4,d4⟩,z⟩
    exact ⟨e1,e2,e3,e4,⟨rfl,rfl,rfl,rfl⟩,⟨o1,o2,o3,o4⟩,⟨d1,d2,d3,d4⟩,z⟩
theorem ok_prog (T : Txt w K mg a) : FnOk P w K mg base CX0 22 a.f_qJ a.d_qJ ["self", "start", "send", "when", "renew"] (spProg a) :=
  (calm (ok_prog1 T)).imp fun vs H Q E h=>by
    obtain ⟨p,dx,r1,r2,r3,r4,e1,e2,e3,e4,rfl,hp,hF,k⟩:=h
    have hG:=good_gx.mpr hF.good
    obtain ⟨⟨m1,_⟩,⟨m2,_⟩,⟨m3,_⟩,⟨m4,_⟩,_⟩:=hF
    exact ⟨p,dx,r1,r2,r3,r4,e1.gx,e2.gx,e3.gx,e4.gx,rfl,hp,⟨m1.gx T,m2.gx T,m3.gx T,m4.gx T⟩,fun _=>k,fun z=>absurd hG z⟩
def spText (a : Ad) : Sp:=fun vs H Q _=>∃ (r : V) (e1 e2 e3 e4 : Ex),vs = [r]∧ProgAt a H e1 e2 e3 e4 r∧∀ H',Same H H'→Q (.str (progT e1 e2 e3 e4)) H'
theorem ok_text (T : Txt w K mg a) : FnOk P w K mg base CX0 10 a.f_qh a.d_qh ["program"] (spText a):=by
  have WW : Wordss P w K mg base a 8:=wordss T 8
  refine T.F_qh.ok sc_qh (fun vs H Q E h=>?_) (fun cdv A outer s H vs Q E hr h=>?_)
  · obtain ⟨r,e1,e2,e3,e4,rfl,_⟩:=h
    rfl
  · obtain ⟨r,e1,e2,e3,e4,rfl,⟨p,dx,r1,r2,r3,r4,rfl,hp,hF⟩,k⟩:=h
    have hG:=hF.good
    obtain ⟨d1,d2,d3,d4⟩:=hG.rd
    obtain ⟨⟨m1,o1,g1⟩,⟨m2,o2,g2⟩,⟨m3,o3,g3⟩,⟨m4,o4,g4⟩,_⟩:=hF
    refine bx_in (w_pss_cons (w_ps_set (i:=1) sc_qh.nd rfl (Or.inl rfl) (w_pe_lst (w_pa_cons (w_pe_fld (w_pv 0) rfl) (w_pa_cons (w_pe_fld (w_pv 0) rfl) (w_pa_cons (w_pe_fld (w_pv 0) rfl) (w_pa_cons (w_pe_fld (w_pv 0) rfl) w_pa_nil))))))
      (w_pss_one (w_ps_ret (w_pe_bm PySem.F.plainAttrs_str PySem.F.slot_str_join PySem.F.type_str_join mt_join w_pe_str (w_pa_cons (w_pe_comp rfl (N':=["first", "expr"]) (t:=2) (caps:=[]) ⟨rfl,rfl,rfl⟩ (w_pi_zip rfl T.n_zip (w_pa_N (w_pe_glob (v:=.ref a.t_ROW_WORDS) rfl T.g_ROW_WORDS rfl) (w_pa_N (w_pv 1) w_pa_nil))) (fun _=>(w_pg_tup rfl (w_pgs_cons (w_pg_name (i:=0) (show (["first", "expr"] : List Str).Nodup by decide +kernel) rfl (Or.inl rfl)) (w_pgs_cons (w_pg_name (i:=1) (show (["first", "expr"] : List Str).Nodup by decide +kernel) rfl (Or.inl rfl)) w_pgs_nil)))) (fun _=>w_pts_nil) (fun _=>(w_pe_bm PySem.F.plainAttrs_str PySem.F.slot_str_join PySem.F.type_str_join mt_join w_pe_str (w_pa_B (w_pe_op op_cat (w_pe_lst (w_pa_N (w_pv 0) w_pa_nil)) (w_pe_meth0D (w_pv 1))) w_pa_nil)))) w_pa_nil))))) ?_
    refine ⟨_,rfl,p,_,dx,_,_,rfl,hp,T.cl_Program,T.na_Program_start,rfl,_,rfl,p,_,dx,_,_,rfl,hp,T.cl_Program,T.na_Program_send,rfl,_,rfl,p,_,dx,_,_,rfl,hp,T.cl_Program,T.na_Program_when,rfl,_,rfl,p,_,dx,_,_,rfl,hp,T.cl_Program,T.na_Program_renew,rfl,(by show 4 ≤ sizeLine; decide),fun lq hlq=>?_⟩
    have s0:=Same.new (o:=HO.lst [r1,r2,r3,r4]) hlq
    have part : ∀ (i : Nat) x y,(rowWs.map V.str)[i]? = some x→[r1,r2,r3,r4][i]? = some y→∃ first e names,x = .str first∧first ∈ rowWs∧Rdb e∧Made a H e y∧e.ok names∧e.dep ≤ 8∧(rowsOf e1 e2 e3 e4)[i]? = some (rowT first e):=fun i x y hx hy=>by
      match i,hx,hy with
      | 0,hx,hy=>cases hx; cases hy; exact ⟨_,e1,_,rfl,by simp,d1,m1,o1,g1,rfl⟩
      | 1,hx,hy=>cases hx; cases hy; exact ⟨_,e2,_,rfl,by simp,d2,m2,o2,g2,rfl⟩
      | 2,hx,hy=>cases hx; cases hy; exact ⟨_,e3,_,rfl,by simp,d3,m3,o3,g3,rfl⟩
      | 3,hx,hy=>cases hx; cases hy; exact ⟨_,e4,_,rfl,by simp,d4,m4,o4,g4,rfl⟩
      | _ + 4,hx,hy=>simp at hy
    refine ⟨rfl,_,rfl,.t,.l,a.t_ROW_WORDS,lq,rowWs.map V.str,[r1,r2,r3,r4],rfl,T.s_ROW_WORDS _,SqL.of upd_same,fun D hD _=>?_⟩
    refine comp_zip (K:=K) (k1:=.t) (k2:=.l) (a:=a.t_ROW_WORDS) (b:=lq) (xs:=rowWs.map V.str) (ys:=[r1,r2,r3,r4]) rfl (fun i zs τ H'=>∃ o1 o2,τ = [o1,o2]∧zs = ((rowsOf e1 e2 e3 e4).take i).map V.str∧H' D = some (.lst zs)∧Same (upd H lq (HO.lst [r1,r2,r3,r4])) H') ?_ ?_ ?_ ?_
    · exact ⟨none,none,rfl,rfl,upd_same,Same.new hD⟩
    · rintro i zs τ H' ⟨_,_,_,_,_,sm⟩
      exact ⟨T.s_ROW_WORDS _,SqL.of (sm _ _ upd_same)⟩
    · rintro i x y zs τ H' q' hx hy ⟨v1,v2,rfl,rfl,hD',sm⟩ hq'
      have s1:=(s0.trans sm).trans (Same.new (o:=HO.tup [x,y]) hq')
      obtain ⟨first,e,names,rfl,hf,hd,m,ok,dd,hrow⟩:=part i x y hx hy
      have i4 : i < 4:=(List.getElem?_eq_some_iff.mp hx).1
      have hcnt:=row_cnt hf hd
      rw [List.length_cons] at hcnt
      have e2' : sizeLine = 16777216:=rfl
      refine ⟨q',[.str first,y],rfl,SqT.of upd_same,rfl,_,_,rfl,_,_,rfl,rfl,?_⟩
      refine yes_if ?_
      refine ⟨rfl,_,rfl,(by show 1 ≤ sizeLine; decide),fun p1 hp1=>?_⟩
      have s2:=s1.trans (Same.new (o:=HO.lst [V.str first]) hp1)
      refine ⟨_,rfl,?_⟩
      obtain ⟨c0,c1,x1,f1,f2,f3,f4,f5,f6,z1,z2,z3,z4,z5,z6,z7,z8,z9⟩:=WW.call T (A:=A.deeper (PyProof.Rows.envOfC "program_text" (defScope st_qh) s.heap.objs.size a.f_qh cdv)) hr (m.same s2) ok dd (by have:=hd.sz; omega)
      refine ⟨c0,c1,x1,f1,f2,f3,f4,f5,f6,z1,z2,z3,z4,z5,z6,z7,z8,z9 _ fun p2 H1 t1 s3=>?_⟩
      refine ⟨p1,p2,_,_,rfl,rfl,s3 _ _ upd_same,t1,(by simp; omega),fun p3 hp3=>?_⟩
      have s4:=(s3.trans (Same.new (o:=HO.lst ([V.str first] ++ e.words.map V.str)) hp3))
      refine ⟨_,p3,first :: e.words,rfl,rfl,SqL.of upd_same,row_ok hf hd,?_⟩
      refine ⟨s4 _ _ ((Same.new hp1) _ _ ((Same.new hq') _ _ hD')),small1000 (by simp; omega),_,_,rfl,?_,upd_same,?_⟩
      · rw [List.take_add_one,hrow,List.map_append]
        rfl
      · exact Same.updF (sm.trans ((Same.new hq').trans ((Same.new hp1).trans s4))) hD
    · rintro zs τ H' ⟨_,_,_,rfl,hD',sm⟩
      exact ⟨_,D,rowsOf e1 e2 e3 e4,rfl,rfl,SqL.of hD',prog_ok d1 d2 d3 d4,k _ (s0.trans sm)⟩
theorem ok_notext (T : Txt w K mg a) : FnOk P w K mg base CX0 1 a.f_qK a.d_qK ["self", "row"] (sInitX a.c_NoText "row"):=by
  refine T.F_qK.ok sc_qK (fun vs H Q E h=>?_) (fun cdv A outer s H vs Q E hr h=>?_)
  · obtain ⟨p,v,rfl,_⟩:=h
    rfl
  · obtain ⟨p,v,rfl,hp,k⟩:=h
    refine bx_in (w_pss_one (w_ps_fldX (w_pv 0) (w_pv 1) rfl)) ?_
    exact ⟨_,rfl,_,rfl,p,_,rfl,hp,T.xs_NoText,T.xt_NoText,fun d hd=>k d hd⟩
def rowAt (rows : List Str) (i : Nat) : Option Ex:=(rowWs[i]?).bind fun f=>(rows[i]?).bind (rowG f)
def spRead (a : Ad) : Sp:=fun vs H Q E=>∃ (x : Str) (rows : List Str),vs = [.str x]∧Txt.split x "\n" = rows∧x.length ≤ 400000∧rows.length ≤ 1000∧(∀ r ∈ rows,Fit r) ∧
  (∀ i : Nat,i < 4→(∀ j < i,rowAt rows j ≠ none)→rowAt rows i = none→∀ d H',Same H H'→H d = none→H' d = some (.xd [("row",.int i)])→E (.ref a.c_NoText) (some d) H') ∧
  ((∀ j < 4,rowAt rows j ≠ none)→4 < rows.length→∀ d H',Same H H'→H d = none→H' d = some (.xd [("row",.int 4)])→E (.ref a.c_NoText) (some d) H') ∧
  (∀ e1 e2 e3 e4,rowAt rows 0 = some e1→rowAt rows 1 = some e2→rowAt rows 2 = some e3→rowAt rows 3 = some e4→rows.length ≤ 4 →
    (GoodE e1 e2 e3 e4→∀ r H',ProgAt a H' e1 e2 e3 e4 r→Same H H'→Q r H')∧(¬ GoodE e1 e2 e3 e4→∀ H',Same H H'→E (.ref a.c_NoProgram) none H'))
theorem ok_read (T : Txt w K mg a) : FnOk P w K mg base (CX1 P w) 24 a.f_qn a.d_qn ["text"] (spRead a):=by
  have c_qm : Callee P w K mg base "read_row" a.f_qm a.d_qm ["row", "first"] 5 (spRow a):=⟨ok_row T,T.g_qm,T.F_qm.kp,T.b_qm⟩
  have mx_Program : Maker1 P w K mg base "Program" a.c_Program a.f_qJ a.d_qJ ["self", "start", "send", "when", "renew"] 22 (spProg1 K a):=⟨ok_prog1 T,T.g_Program,T.mk_Program,T.b_qJ⟩
  have xi_NoText : XInit P w K mg base "NoText" a.c_NoText a.f_qK a.d_qK ["self", "row"] 1 "row" := ⟨ok_notext T,T.xn_NoText,T.xf_NoText,T.xk_NoText,T.g_NoText,T.b_qK⟩
  refine T.F_qn.ok1 sc_qn (fun vs H Q E h=>?_) (fun cdv A outer s H vs Q E hr h=>?_)
  · obtain ⟨x,rows,rfl,_⟩:=h
    rfl
  · obtain ⟨x,rows,rfl,hs,hl,hrl,hfit,k1,k2,k3⟩:=h
    refine bx_in (w_pss_cons (w_ps_if (w_pt_not (w_pt_val (w_pe_callB call_isi (by rfl) T.n_isinstance bt_isinstance (w_pa_N (w_pv 0) (w_pa_N (w_pe_bty T.n_str bt_str) w_pa_nil)))))
        (w_pss_one (w_ps_raiseF xi_NoText hr.hd (hr.mono (by omega)) (w_pa_C w_pe_int w_pa_nil)))
        w_pss_nil)
      (w_pss_cons (w_ps_set (i:=1) sc_qn.nd rfl (Or.inl rfl) (w_pe_bm PySem.F.plainAttrs_str PySem.F.slot_str_split PySem.F.type_str_split mt_split (w_pv 0) (w_pa_C w_pe_str w_pa_nil)))
      (w_pss_cons (w_ps_set (i:=2) sc_qn.nd rfl (Or.inl rfl) (w_pe_lst w_pa_nil))
      (w_pss_cons (w_ps_for PassesOwn.leaving rfl (w_pi_enum rfl T.n_enumerate (w_pa_N (w_pe_glob (v:=.ref a.t_ROW_WORDS) rfl T.g_ROW_WORDS rfl) w_pa_nil)) (w_pg_tup rfl (w_pgs_cons (w_pg_name (i:=3) sc_qn.nd rfl (Or.inl rfl)) (w_pgs_cons (w_pg_name (i:=4) sc_qn.nd rfl (Or.inl rfl)) w_pgs_nil)))
        (w_pss_cons (w_ps_set (i:=5) sc_qn.nd rfl (Or.inl rfl) (w_pe_ifExp (w_pt_cmpR op_lt (w_pv 3) (w_pe_callB call_len_seq (by rfl) T.n_len bt_len (w_pa_N (w_pv 1) w_pa_nil)) (nomark _)) (w_pe_c c_qm (hr.mono (by omega)) (w_pa_cons (w_pe_ix ix_list (w_pv 1) (w_pv 3) (fun _ _=>rfl)) (w_pa_N (w_pv 4) w_pa_nil))) w_pe_non))
        (w_pss_cons (w_ps_if (w_pt_cmpR op_isN (w_pv 5) w_pe_non (nomark _))
          (w_pss_one (w_ps_raiseF xi_NoText hr.hd (hr.mono (by omega)) (w_pa_N (w_pv 3) w_pa_nil)))
          w_pss_nil)
        (w_pss_one (w_ps_expr (w_pe_bm PySem.F.plainAttrs_list PySem.F.slot_list_append PySem.F.type_list_append mt_append (w_pv 2) (w_pa_N (w_pv 5) w_pa_nil)))))))
      (w_pss_cons (w_ps_if (w_pt_cmpR op_gt (w_pe_callB call_len_seq (by rfl) T.n_len bt_len (w_pa_N (w_pv 1) w_pa_nil)) (w_pe_callB call_len_seq (by rfl) T.n_len bt_len (w_pa_N (w_pe_glob (v:=.ref a.t_ROW_WORDS) rfl T.g_ROW_WORDS rfl) w_pa_nil)) (nomark _))
        (w_pss_one (w_ps_raiseF xi_NoText hr.hd (hr.mono (by omega)) (w_pa_K (w_pe_callB call_len_seq (by rfl) T.n_len bt_len (w_pa_N (w_pe_glob (v:=.ref a.t_ROW_WORDS) rfl T.g_ROW_WORDS rfl) w_pa_nil)) w_pa_nil)))
        w_pss_nil)
      (w_pss_one (w_ps_ret (w_pe_mX mx_Program (hr.mono (by omega)) (w_pa_cons (w_pe_ix ix_list (w_pv 2) w_pe_int (fun _ _=>rfl)) (w_pa_cons (w_pe_ix ix_list (w_pv 2) w_pe_int (fun _ _=>rfl)) (w_pa_cons (w_pe_ix ix_list (w_pv 2) w_pe_int (fun _ _=>rfl)) (w_pa_cons (w_pe_ix ix_list (w_pv 2) w_pe_int (fun _ _=>rfl)) w_pa_nil)))))))))))) ?_
    have hpl:=parts_len x "\n"
    have e2' : sizeLine = 16777216:=rfl
    refine ⟨_,rfl,_,_,_,_,_,rfl,rfl,TyOf.str _,T.k_tstr_tstr,_,rfl,iteN rfl ?_⟩
    refine ⟨_,rfl,rfl,_,_,rfl,rfl,(by decide +kernel),(by omega),(by rw [hs]; omega),(by omega),fun pr hpr=>?_⟩
    rw [hs]
    have s0:=Same.new (o:=HO.lst (rows.map V.str)) hpr
    refine ⟨by show 0 ≤ sizeLine; decide,fun pe hpe=>?_⟩
    have s1:=Same.new (o:=HO.lst []) hpe
    refine ⟨.t,a.t_ROW_WORDS,_,rfl,T.s_ROW_WORDS _,?_⟩
    refine for_enum (K:=K) (k:=.t) (a:=a.t_ROW_WORDS) (xs:=rowWs.map V.str) (fun i σ H'=>∃ o3 o4 o5 rs es,σ = [some (.str x),some (.ref pr),some (.ref pe),o3,o4,o5]∧Same (upd H pr (HO.lst (rows.map V.str))) H'∧H' pe = some (.lst rs)∧MadeL a H' rs es∧i ≤ 4∧es.length = i∧∀ j < i,rowAt rows j = es[j]?) ?_ ?_ ?_ ?_
    · exact ⟨none,none,none,[],[],rfl,s1,upd_same,trivial,by omega,rfl,fun j hj=>by omega⟩
    · rintro i σ H' _ _
      exact T.s_ROW_WORDS _
    · rintro i x' σ H' q hx ⟨o3,o4,o5,rs,es,rfl,sm,hpe',hm,hi4,hel,hat⟩ hq
      rw [List.getElem?_map] at hx
      obtain ⟨first,hfirst,rfl⟩:=Option.map_eq_some_iff.mp hx
      have i4 : i < 4:=(List.getElem?_eq_some_iff.mp hfirst).1
      have sq:=Same.new (o:=HO.tup [V.int i,V.str first]) hq
      have hpr':=sq _ _ (sm _ _ upd_same)
      have sH : Same H _:=s0.trans (sm.trans sq)
      have hno : ∀ j < i,rowAt rows j ≠ none:=fun j hj=>by
        rw [hat j hj]
        intro z
        rw [List.getElem?_eq_none_iff] at z
        omega
      have hlen : rs.length = i:=by rw [hm.len,hel]
      refine ⟨q,[.int i,.str first],rfl,SqT.of upd_same,rfl,_,_,rfl,_,_,rfl,rfl,?_⟩
      have bad : ∀ H1,Same (upd H' q (HO.tup [V.int i,V.str first])) H1→rowAt rows i = none→∀ d,H1 d = none→E (.ref a.c_NoText) (some d) (upd H1 d (.xd [("row",.int i)])):=fun H1 sr hr d hd =>
        k1 i i4 hno hr d _ (Same.updF (sH.trans sr) ((sH.trans sr).free hd)) ((sH.trans sr).free hd) upd_same
      refine ⟨_,rfl,_,rfl,pr,_,rfl,.inl (SqL.of hpr'),_,_,rfl,rfl,_,rfl,?_⟩
      rw [List.length_map]
      by_cases hir : i < rows.length
      · refine iteB (decide_eq_true (by show (i : Int) < rows.length; omega)) ?_
        have hrow : rows[i]? = some rows[i]:=List.getElem?_eq_getElem hir
        have hat' : rowAt rows i = rowG first rows[i]:=by
          unfold rowAt
          rw [hfirst,hrow]
          rfl
        refine ⟨_,rfl,_,rfl,pr,_,i,_,rfl,rfl,SqL.of hpr',atI_nat (by rw [List.getElem?_map,hrow]; rfl),_,rfl,rows[i],first,rfl,hfit _ (List.getElem_mem hir),fun e he r H1 m1 sr=>?_,fun he H1 sr=>?_⟩
        · refine ⟨_,rfl,rfl,_,rfl,iteN m1.no ?_⟩
          have hpe1:=sr _ _ (sq _ _ hpe')
          refine ⟨_,rfl,.inl ⟨rfl,_,SqL.of hpe1⟩,_,rfl,pe,rs,r,rfl,rfl,hpe1,small1000 (by omega),?_⟩
          refine ⟨_,_,_,rs ++ [r],es ++ [e],rfl,Same.updF (sm.trans (sq.trans sr)) hpe,upd_same,((hm.same (sq.trans sr)).snoc m1).updL hpe1,i4,by simp [hel],fun j hj=>?_⟩
          by_cases hji : j < i
          · rw [hat j hji,List.getElem?_append_left (by omega)]
          · have : j = i:=by omega
            subst this
            rw [hat',he,List.getElem?_append_right (by omega),hel,Nat.sub_self]
            rfl
        · refine ⟨_,rfl,rfl,_,rfl,iteB rfl ?_⟩
          exact ⟨_,rfl,_,rfl,bad H1 sr (hat'.trans he)⟩
      · refine iteN (decide_eq_false (by show ¬ (i : Int) < rows.length; omega)) ?_
        refine ⟨_,rfl,rfl,_,rfl,iteB rfl ?_⟩
        refine ⟨_,rfl,_,rfl,bad _ (Same.refl _) ?_⟩
        unfold rowAt
        rw [hfirst,List.getElem?_eq_none_iff.mpr (by omega)]
        rfl
    · rintro σ H' ⟨o3,o4,o5,rs,es,rfl,sm,hpe',hm,_,hel,hat⟩
      have hel : es.length = 4:=hel
      have hat : ∀ j < 4,rowAt rows j = es[j]?:=hat
      have hpr':=sm _ _ upd_same
      have sH:=s0.trans sm
      refine ⟨_,rfl,pr,_,rfl,.inl (SqL.of hpr'),a.t_ROW_WORDS,_,rfl,.inr (T.s_ROW_WORDS _),_,_,rfl,rfl,_,rfl,?_⟩
      rw [List.length_map]
      by_cases hr4 : 4 < rows.length
      · refine iteB (decide_eq_true (by show (rows.length : Int) > 4; omega)) ?_
        refine ⟨a.t_ROW_WORDS,_,rfl,.inr (T.s_ROW_WORDS _),_,rfl,fun d hd=>?_⟩
        refine k2 (fun j hj z=>?_) hr4 d _ (Same.updF sH (sH.free hd)) (sH.free hd) upd_same
        rw [hat j hj,List.getElem?_eq_none_iff] at z
        omega
      refine iteN (decide_eq_false (by show ¬ (rows.length : Int) > 4; omega)) ?_
      match es,hel,hm,hat with
      | [e1,e2,e3,e4],_,hm,hat =>
        obtain ⟨r1,rs1,rfl,m1,hm⟩:=hm.cons
        obtain ⟨r2,rs2,rfl,m2,hm⟩:=hm.cons
        obtain ⟨r3,rs3,rfl,m3,hm⟩:=hm.cons
        obtain ⟨r4,rs4,rfl,m4,hm⟩:=hm.cons
        cases hm.nil
        obtain ⟨kg,kb⟩:=k3 e1 e2 e3 e4 (hat 0 (by decide)) (hat 1 (by decide)) (hat 2 (by decide)) (hat 3 (by decide)) (by omega)
        refine ⟨_,rfl,pe,_,0,_,rfl,rfl,SqL.of hpe',rfl,_,rfl,pe,_,1,_,rfl,rfl,SqL.of hpe',rfl,_,rfl,pe,_,2,_,rfl,rfl,SqL.of hpe',rfl,_,rfl,pe,_,3,_,rfl,rfl,SqL.of hpe',rfl,fun x dx nx ndx nex=>?_⟩
        have sN : Same H' (L2.upd (L2.upd H' dx (.own x)) x (.ins a.c_Program dx [])):=fun b o e=>by
          rw [upd_ne (ne_of_none e nx),upd_ne (ne_of_none e ndx)]
          exact e
        refine ⟨x,dx,r1,r2,r3,r4,e1.gx,e2.gx,e3.gx,e4.gx,rfl,upd_same,⟨(m1.same sN).gx T,(m2.same sN).gx T,(m3.same sN).gx T,(m4.same sN).gx T⟩,fun hG H4 s4=>⟨rfl,?_⟩,fun hG H4 s4=>kb (fun z=>hG (good_gx.mpr z)) _ (sH.trans (sN.trans s4))⟩
        have hG:=good_gx.mp hG
        have s34 : Same H' (L2.upd H4 x (.ins a.c_Program dx [("start",r1),("send",r2),("when",r3),("renew",r4)])):=Same.updF (sN.trans s4) nx
        have hG':=hG
        obtain ⟨⟨q1,g1⟩,⟨q2,g2⟩,⟨q3,g3⟩,⟨q4,g4⟩,z⟩:=hG'
        exact kg hG _ _ ⟨x,dx,r1,r2,r3,r4,rfl,upd_same,⟨m1.same s34,q1,g1⟩,⟨m2.same s34,q2,g2⟩,⟨m3.same s34,q3,g3⟩,⟨m4.same s34,q4,g4⟩,z⟩ (sH.trans s34)
def FourT (H : Hp) (e1 e2 e3 e4 : Ex) (v1 v2 v3 v4 : V) : Prop:=(Told H e1 v1∧e1.ok startNs∧e1.dep ≤ 4∧e1.size ≤ 15)∧(Told H e2 v2∧e2.ok sendNs∧e2.dep ≤ 4∧e2.size ≤ 15)∧(Told H e3 v3∧e3.ok sendNs∧e3.dep ≤ 4∧e3.size ≤ 15)∧(Told H e4 v4∧e4.ok renewNs∧e4.dep ≤ 4∧e4.size ≤ 15)
def spLawProg (a : Ad) : Sp:=fun vs H Q _=>∃ (q : Addr) (v1 v2 v3 v4 : V) (e1 e2 e3 e4 : Ex),vs = [.ref q]∧H q = some (.lst [v1,v2,v3,v4])∧FourT H e1 e2 e3 e4 v1 v2 v3 v4∧∀ r H',ProgAt a H' e1 e2 e3 e4 r→Same H H'→Q r H'
theorem ok_lawprog (T : Txt w K mg a) : FnOk P w K mg base CX0 24 a.f_qv a.d_qv ["_law_four_here"] (spLawProg a):=by
  have c_qr : Callee P w K mg base "_law_made" a.f_qr a.d_qr ["_law_told"] 6 (spMade a 4):=⟨ok_made T 4,T.g_qr,T.F_qr.kp,T.b_qr⟩
  have m_Program : Maker P w K mg base "Program" a.c_Program a.f_qJ a.d_qJ ["self", "start", "send", "when", "renew"] 22 (spProg a):=⟨ok_prog T,T.g_Program,T.mk_Program,T.b_qJ⟩
  refine T.F_qv.ok sc_qv (fun vs H Q E h=>?_) (fun cdv A outer s H vs Q E hr h=>?_)
  · obtain ⟨q,v1,v2,v3,v4,e1,e2,e3,e4,rfl,_⟩:=h
    rfl
  · obtain ⟨q,v1,v2,v3,v4,e1,e2,e3,e4,rfl,hq,⟨⟨t1,o1,d1,z1⟩,⟨t2,o2,d2,z2⟩,⟨t3,o3,d3,z3⟩,⟨t4,o4,d4,z4⟩⟩,k⟩:=h
    refine bx_in (w_pss_one (w_ps_ret (w_pe_m m_Program (hr.mono (by omega)) (w_pa_K (w_pe_c c_qr (hr.mono (by omega)) (w_pa_cons (w_pe_ix ix_list (w_pv 0) w_pe_int (fun _ _=>rfl)) w_pa_nil)) (w_pa_K (w_pe_c c_qr (hr.mono (by omega)) (w_pa_cons (w_pe_ix ix_list (w_pv 0) w_pe_int (fun _ _=>rfl)) w_pa_nil)) (w_pa_K (w_pe_c c_qr (hr.mono (by omega)) (w_pa_cons (w_pe_ix ix_list (w_pv 0) w_pe_int (fun _ _=>rfl)) w_pa_nil)) (w_pa_K (w_pe_c c_qr (hr.mono (by omega)) (w_pa_cons (w_pe_ix ix_list (w_pv 0) w_pe_int (fun _ _=>rfl)) w_pa_nil)) w_pa_nil))))))) ?_
    refine ⟨_,rfl,q,_,0,_,rfl,rfl,SqL.of hq,rfl,e1,_,_,rfl,t1,d1,o1,fun r1 H1 m1 s1=>?_⟩
    refine ⟨_,rfl,q,_,1,_,rfl,rfl,SqL.of (s1 _ _ hq),rfl,e2,_,_,rfl,t2.same s1,d2,o2,fun r2 H2 m2 s2=>?_⟩
    have s12:=s1.trans s2
    refine ⟨_,rfl,q,_,2,_,rfl,rfl,SqL.of (s12 _ _ hq),rfl,e3,_,_,rfl,t3.same s12,d3,o3,fun r3 H3 m3 s3=>?_⟩
    have s123:=s12.trans s3
    refine ⟨_,rfl,q,_,3,_,rfl,rfl,SqL.of (s123 _ _ hq),rfl,e4,_,_,rfl,t4.same s123,d4,o4,fun r4 H4 m4 s4=>?_⟩
    refine fun x dx nx ndx nex=>?_
    have sN : Same H4 (L2.upd (L2.upd H4 dx (.own x)) x (.ins a.c_Program dx [])):=fun b o e=>by
      rw [upd_ne (ne_of_none e nx),upd_ne (ne_of_none e ndx)]
      exact e
    have m1:=m1.same ((s2.trans s3).trans s4)
    have m2:=m2.same (s3.trans s4)
    have m3:=m3.same s4
    refine ⟨x,dx,r1,r2,r3,r4,e1,e2,e3,e4,rfl,upd_same,⟨⟨m1.same sN,o1,by omega⟩,⟨m2.same sN,o2,by omega⟩,⟨m3.same sN,o3,by omega⟩,⟨m4.same sN,o4,by omega⟩,by omega⟩,fun H5 s5=>⟨rfl,?_⟩⟩
    have s45 : Same H4 (L2.upd H5 x (.ins a.c_Program dx [("start",r1),("send",r2),("when",r3),("renew",r4)])):=Same.updF (sN.trans s5) nx
    exact k _ _ ⟨x,dx,r1,r2,r3,r4,rfl,upd_same,⟨m1.same s45,o1,by omega⟩,⟨m2.same s45,o2,by omega⟩,⟨m3.same s45,o3,by omega⟩,⟨m4.same s45,o4,by omega⟩,by omega⟩ ((s123.trans s4).trans s45)
end
end K04

namespace K04
open PySem L2
theorem pickV {xs : List V} {d : Int} (h0 : 0 ≤ d) (h1 : d < xs.length) : ∃ v,atI xs d = some v∧v ∈ xs:=by
  obtain ⟨n,rfl⟩ : ∃ n : Nat,d = n:=⟨d.toNat,by omega⟩
  have hn : n < xs.length:=by omega
  exact ⟨xs[n],atI_nat (by simp [hn]),List.getElem_mem hn⟩
abbrev bad7 : List Str:=["worth", "round", "to", "sum", "least", "most", "count"]
abbrev bad4 : List Str:=["sum", "least", "most", "count"]
abbrev signsL : List Str:=["", "-"]
abbrev noughts : List Int:=[20,21,60,35]
theorem pickS {ws : List Str} {d : Int} (h0 : 0 ≤ d) (h1 : d < ws.length) : ∃ x ∈ ws,atI (ws.map V.str) d = some (.str x):=by
  obtain ⟨v,e,hv⟩:=pickV (xs:=ws.map V.str) h0 (by rw [List.length_map]; exact h1)
  obtain ⟨x,hx,rfl⟩:=List.mem_map.mp hv
  exact ⟨x,hx,e⟩
theorem pickI {ns : List Int} {d : Int} (h0 : 0 ≤ d) (h1 : d < ns.length) : ∃ x ∈ ns,atI (ns.map V.int) d = some (.int x):=by
  obtain ⟨v,e,hv⟩:=pickV (xs:=ns.map V.int) h0 (by rw [List.length_map]; exact h1)
  obtain ⟨x,hx,rfl⟩:=List.mem_map.mp hv
  exact ⟨x,hx,e⟩
def greatB (x : Str) : Bool:=!inV (.str x) (allNs.map V.str) && numW x && wdB x && (decide (numG x ≤ -100000000000000000000) || decide (100000000000000000000 ≤ numG x))
theorem great_of {x : Str} (h : greatB x = true) : Fg x (numG x)∧Wd x∧¬ Short (numG x):=by
  unfold greatB at h
  rw [Bool.and_eq_true,Bool.and_eq_true,Bool.and_eq_true,Bool.not_eq_true',Bool.or_eq_true,decide_eq_true_eq,decide_eq_true_eq] at h
  obtain ⟨⟨⟨h1,h2⟩,h3⟩,h4⟩:=h
  exact ⟨⟨h1,h2,rfl⟩,wd_of h3,fun z=>by have:=z.1; have:=z.2; omega⟩
theorem great_all : ∀ s ∈ signsL,∀ n ∈ noughts,greatB (s ++ "1" ++ Txt.mul "0" n) = true:=by decide +kernel
theorem great_len : ∀ s ∈ signsL,∀ n ∈ noughts,(s ++ "1" ++ Txt.mul "0" n).length ≤ 62:=by decide +kernel
theorem fits {x y : Str} (h1 : x.length ≤ 10000) (h2 : y.length ≤ 10000) : x.length + y.length ≤ sizeLine:=by
  have e2 : sizeLine = 16777216:=rfl
  omega
theorem len_app (x y : Str) : (x ++ y).length = x.length + y.length:=by
  rw [← cl_len,cl_app,List.length_append,cl_len,cl_len]
theorem app_le {x y : Str} {i j : Nat} (h1 : x.length ≤ i) (h2 : y.length ≤ j) (h : i + j ≤ 10000) : (x ++ y).length ≤ 10000:=by
  rw [len_app]
  omega
theorem flat_len (l : List Nat) : ∀ n,(List.replicate n l).flatten.length = n * l.length
  | 0=>by simp
  | n + 1=>by
    rw [List.replicate_succ,List.flatten_cons,List.length_append,flat_len l n,Nat.succ_mul]
    omega
theorem mul_le {x : Str} {i n : Nat} (h1 : x.length ≤ i) (h : n * i ≤ 5000) : (Txt.mul x (n : Int)).length ≤ 5000:=by
  rw [← cl_len,cl_mul,flat_len,cl_len]
  exact Nat.le_trans (Nat.mul_le_mul_left n h1) h
structure Bads (at_ : Nat) (ns : List Str) : Prop where
  n0 : 0 < ns.length
  n9 : ns.length ≤ 9
  all : ∀ x ∈ ns,x ∈ allNs∧wdB x = true∧x ∉ namesAt at_
section
variable {P : Program} {w : World} {K : PySem.W.Frag} {mg : Str→Option Value} {base : Heap} {a : Ad}
def spOdd : Sp:=fun vs H Q _=>∃ (at_ : Nat) (cell : Int),vs = [.int at_,.int cell]∧at_ < 4∧∀ odd H',OddOk at_ odd→Same H H'→Q (.str odd) H'
theorem ok_odd (T : Txt w K mg a) : FnOk P w K mg base CX0 1 a.f_qw a.d_qw ["_law_at", "_law_cell"] spOdd:=by
  refine T.F_qw.ok sc_qw (fun vs H Q E h=>?_) (fun cdv A outer s H vs Q E hr h=>?_)
  · obtain ⟨at_,cell,rfl,_⟩:=h
    rfl
  · obtain ⟨at_,cell,rfl,h4,k⟩:=h
    refine bx_in (w_pss_cons (w_ps_set (i:=2) sc_qw.nd rfl (Or.inl rfl) (w_pe_ix ix_list (w_pe_lst (w_pa_cons (w_pe_lst (w_pa_C w_pe_str (w_pa_C w_pe_str (w_pa_C w_pe_str (w_pa_C w_pe_str (w_pa_C w_pe_str (w_pa_C w_pe_str (w_pa_C w_pe_str w_pa_nil)))))))) (w_pa_cons (w_pe_lst (w_pa_C w_pe_str (w_pa_C w_pe_str (w_pa_C w_pe_str (w_pa_C w_pe_str w_pa_nil))))) w_pa_nil))) (w_pe_callTy call_int1 (by rfl) T.n_int bt_int (w_pa_cons (w_pe_cmpR op_gt (w_pv 0) w_pe_int (nomark _)) w_pa_nil)) (fun _ _=>rfl)))
      (w_pss_cut (w_ps_if (w_pt_cmpR op_eq (w_pv 0) w_pe_int (nomark _))
        (w_pss_one (w_ps_set (i:=2) sc_qw.nd rfl (Or.inl rfl) (w_pe_lst (w_pa_C w_pe_str w_pa_nil))))
        w_pss_nil)
      (w_pss_cons (w_ps_set (i:=3) sc_qw.nd rfl (Or.inl rfl) (w_pe_ix ix_list (w_pv 2) (w_pe_op op_mod (w_pe_op op_fdivG (w_pv 1) w_pe_int) (w_pe_callB call_len_seq (by rfl) T.n_len bt_len (w_pa_N (w_pv 2) w_pa_nil))) (fun _ _=>rfl)))
      (w_pss_cons (w_ps_set (i:=4) sc_qw.nd rfl (Or.inl rfl) (w_pe_op op_add_str (w_pe_op op_add_str (w_pe_ix ix_list (w_pe_lst (w_pa_C w_pe_str (w_pa_C w_pe_str w_pa_nil))) (w_pe_op op_mod (w_pe_op op_fdivG (w_pv 1) w_pe_int) w_pe_int) (fun _ _=>rfl)) w_pe_str) (w_pe_op op_mulS w_pe_str (w_pe_ix ix_list (w_pe_lst (w_pa_C w_pe_int (w_pa_C w_pe_int (w_pa_C w_pe_int (w_pa_C w_pe_int w_pa_nil))))) (w_pe_op op_mod (w_pe_op op_fdivG (w_pv 1) w_pe_int) w_pe_int) (fun _ _=>rfl)))))
      (w_pss_cons (w_ps_set (i:=5) sc_qw.nd rfl (Or.inl rfl) (w_pe_op op_add w_pe_int (w_pe_op op_mod (w_pe_op op_fdivG (w_pv 1) w_pe_int) w_pe_int)))
      (w_pss_cons (w_ps_set (i:=6) sc_qw.nd rfl (Or.inl rfl) (w_pe_lst (w_pa_N (w_pv 3) (w_pa_B (w_pe_op op_add_str w_pe_str (w_pv 3)) (w_pa_B (w_pe_op op_add_str w_pe_str (w_pv 3)) (w_pa_B (w_pe_op op_add_str (w_pe_op op_add_str w_pe_str (w_pv 3)) w_pe_str) (w_pa_N (w_pv 4) (w_pa_B (w_pe_op op_add_str (w_pe_op op_add_str w_pe_str (w_pv 4)) w_pe_str) w_pa_nil))))))))
      (w_pss_cons (w_ps_set (i:=6) sc_qw.nd rfl (Or.inl rfl) (w_pe_op op_cat (w_pv 6) (w_pe_lst (w_pa_C w_pe_str (w_pa_C w_pe_str (w_pa_C w_pe_str (w_pa_B (w_pe_op op_add_str w_pe_str (w_pv 4)) (w_pa_B (w_pe_op op_add_str (w_pe_op op_mulS w_pe_str w_pe_int) w_pe_str) w_pa_nil))))))))
      (w_pss_one (w_ps_ret (w_pe_ix ix_list (w_pe_op op_cat (w_pv 6) (w_pe_lst (w_pa_B (w_pe_op op_add_str (w_pe_op op_add_str (w_pe_op op_mulS w_pe_str (w_pv 5)) w_pe_str) (w_pe_op op_mulS w_pe_str (w_pv 5))) (w_pa_B (w_pe_op op_add_str (w_pe_op op_mulS w_pe_str (w_pv 5)) w_pe_str) w_pa_nil)))) (w_pe_op op_mod (w_pv 1) w_pe_int) (fun _ _=>rfl))))))))))) ?_
    refine ⟨(by show 7 ≤ sizeLine; decide),fun p1 hp1=>?_⟩
    refine ⟨(by show 4 ≤ sizeLine; decide),fun p2 hp2=>?_⟩
    refine ⟨(by show 2 ≤ sizeLine; decide),fun p3 hp3=>?_⟩
    have s1:=Same.new (o:=HO.lst (bad7.map V.str)) hp1
    have s2:=Same.new (o:=HO.lst (bad4.map V.str)) hp2
    have s3:=Same.new (o:=HO.lst [V.ref p1,V.ref p2]) hp3
    have g1:=(s2.trans s3) _ _ upd_same
    have g2:=s3 _ _ upd_same
    refine ⟨_,rfl,_,_,rfl,rfl,.inr ⟨_,rfl,p3,_,_,if decide ((at_ : Int) > 0) = true then V.ref p2 else V.ref p1,rfl,rfl,SqL.of upd_same,?_,?_⟩⟩
    · by_cases h : (at_ : Int) > 0
      · rw [decide_eq_true h]; rfl
      · rw [decide_eq_false h]; rfl
    refine ⟨fun σ' H'=>∃ q ns,σ' = [some (.int at_),some (.int cell),some (.ref q),none,none,none,none]∧H' q = some (.lst (ns.map V.str))∧Same H H'∧Bads at_ ns,?_,?_⟩
    · refine ⟨_,rfl,rfl,_,rfl,?_⟩
      have at3 : at_ = 0∨at_ = 1∨at_ = 2∨at_ = 3:=by omega
      rcases at3 with rfl | rfl | rfl | rfl
      · refine iteN (by decide) ?_
        exact ⟨p1,bad7,rfl,g1,s1.trans (s2.trans s3),⟨by decide,by decide,by decide +kernel⟩⟩
      · refine iteN (by decide) ?_
        exact ⟨p2,bad4,rfl,g2,s1.trans (s2.trans s3),⟨by decide,by decide,by decide +kernel⟩⟩
      · refine iteN (by decide) ?_
        exact ⟨p2,bad4,rfl,g2,s1.trans (s2.trans s3),⟨by decide,by decide,by decide +kernel⟩⟩
      · refine iteB (by decide) ?_
        refine ⟨(by show 1 ≤ sizeLine; decide),fun p4 hp4=>?_⟩
        exact ⟨p4,["to"],rfl,upd_same,(s1.trans (s2.trans s3)).trans (Same.new hp4),⟨by decide,by decide,by decide +kernel⟩⟩
    rintro σ' H' ⟨q,ns,rfl,hq,sm,hb⟩
    have n0:=hb.n0
    have n9:=hb.n9
    obtain ⟨word,hw,ew⟩:=pickS (ws:=ns) (d:=cell / 8 % (ns.length : Int)) (Int.emod_nonneg _ (by omega)) (Int.emod_lt_of_pos _ (by omega))
    obtain ⟨wn,wb,wx⟩:=hb.all word hw
    obtain ⟨sg,hsg,esg⟩:=pickS (ws:=signsL) (d:=cell / 8 % 2) (Int.emod_nonneg _ (by decide)) (Int.emod_lt_of_pos _ (by decide))
    obtain ⟨nz,hnz,enz⟩:=pickI (ns:=noughts) (d:=cell / 16 % 4) (Int.emod_nonneg _ (by decide)) (Int.emod_lt_of_pos _ (by decide))
    have hgr:=great_of (great_all sg hsg nz hnz)
    have hgl:=great_len sg hsg nz hnz
    have wl : word.length ≤ 70:=(wd_of wb).2
    have lsg : sg.length ≤ 1:=by
      have : ∀ x ∈ signsL,x.length ≤ 1:=by decide +kernel
      exact this sg hsg
    have rnz : 0 ≤ nz∧nz ≤ 60:=by
      have : ∀ x ∈ noughts,0 ≤ x∧x ≤ 60:=by decide +kernel
      exact this nz hnz
    refine ⟨_,rfl,_,rfl,_,_,rfl,rfl,⟨by decide,by decide⟩,_,rfl,q,_,rfl,.inl (SqL.of hq),_,_,rfl,rfl,(by rw [List.length_map]; omega),q,_,_,_,rfl,rfl,SqL.of hq,(by rw [List.length_map]; exact ew),(by show 2 ≤ sizeLine; decide),fun p5 hp5=>?_⟩
    have s5:=Same.new (o:=HO.lst (signsL.map V.str)) hp5
    refine ⟨_,rfl,_,_,rfl,rfl,⟨by decide,by decide⟩,_,_,rfl,rfl,(show (0 : Int) < 2 by decide),p5,_,_,_,rfl,rfl,SqL.of upd_same,esg,_,_,rfl,rfl,(by rw [show ("1" : Str).length = 1 by decide +kernel]; exact Nat.le_trans (show sg.length + 1 ≤ 2 by omega) (by decide)),(by show 4 ≤ sizeLine; decide),fun p6 hp6=>?_⟩
    have s6:=s5.trans (Same.new (o:=HO.lst (noughts.map V.int)) hp6)
    obtain ⟨m,hm8,hm⟩ : ∃ m : Nat,7 ≤ m∧m ≤ 198∧8 + cell / 8 % 190 = ((m + 1 : Nat) : Int):=by
      have h1:=Int.emod_nonneg (cell / 8) (show (190 : Int) ≠ 0 by decide)
      have h2:=Int.emod_lt_of_pos (cell / 8) (show (0 : Int) < 190 by decide)
      exact ⟨(7 + cell / 8 % 190).toNat,by omega,by omega,by omega⟩
    obtain ⟨hm1,hm⟩:=hm
    have l1 : ∀ x ∈ (["add 1 ", "less 1 2 3 ", "mod ", " 5", "max ", " 1", "min 1 mod 5 ", "1", "2", "sub 1 ", " 2"] : List Str),x.length ≤ 20:=by decide +kernel
    refine ⟨_,rfl,_,_,rfl,rfl,⟨by decide,by decide⟩,_,_,rfl,rfl,(show (0 : Int) < 4 by decide),p6,_,_,_,rfl,rfl,SqL.of upd_same,enz,_,_,rfl,rfl,rnz.1,by omega,by decide +kernel,_,_,rfl,rfl,?_,?_⟩
    · obtain ⟨n',rfl⟩ : ∃ n' : Nat,nz = n':=⟨nz.toNat,by omega⟩
      exact fits (app_le (i:=1) (j:=20) lsg (by decide +kernel) (by decide)) (Nat.le_trans (mul_le (i:=1) (by decide +kernel) (by omega)) (by decide))
    generalize hgreat : sg ++ "1" ++ Txt.mul "0" nz = great at *
    obtain ⟨fg,gw,gs⟩:=hgr
    have wf:=wd_of wb
    have gl : great.length ≤ 10000:=by omega
    have wl' : word.length ≤ 10000:=by omega
    have L : ∀ {x : Str},x ∈ (["add 1 ", "less 1 2 3 ", "mod ", " 5", "max ", " 1", "min 1 mod 5 ", "1", "2", "sub 1 ", " 2"] : List Str)→x.length ≤ 10000:=fun h=>Nat.le_trans (l1 _ h) (by decide)
    refine ⟨_,rfl,_,_,rfl,rfl,⟨by decide,by decide⟩,_,_,rfl,rfl,(show (0 : Int) < 190 by decide),_,_,rfl,rfl,_,rfl,_,rfl,_,_,rfl,rfl,fits (L (by simp)) wl',_,rfl,_,_,rfl,rfl,fits (L (by simp)) wl',_,rfl,_,_,rfl,rfl,fits (L (by simp)) wl',_,_,rfl,rfl,fits (app_le (i:=20) (l1 _ (by simp)) wl (by decide)) (L (by simp)),_,rfl,_,rfl,_,_,rfl,rfl,fits (L (by simp)) gl,_,_,rfl,rfl,fits (app_le (i:=20) (l1 _ (by simp)) hgl (by decide)) (L (by simp)),(by show 6 ≤ sizeLine; decide),fun p7 hp7=>?_⟩
    have s7:=s6.trans (Same.new (o:=HO.lst [V.str word,V.str ("add 1 " ++ word),V.str ("less 1 2 3 " ++ word),V.str ("mod " ++ word ++ " 5"),V.str great,V.str ("max " ++ great ++ " 1")]) hp7)
    refine ⟨_,rfl,_,rfl,_,_,rfl,rfl,fits (L (by simp)) gl,_,_,rfl,rfl,by decide,by decide,by decide +kernel,_,_,rfl,rfl,fits (Nat.le_trans (mul_le (n:=30) (i:=20) (l1 _ (by simp)) (by decide)) (by decide)) (L (by simp)),(by show 5 ≤ sizeLine; decide),fun p8 hp8=>?_⟩
    have s8:=Same.new (o:=HO.lst [V.str "mod 5 0",V.str "mod 5 -7",V.str "mod 5 1000000001",V.str ("min 1 mod 5 " ++ great),V.str (Txt.mul "add 1 " 30 ++ "1")]) hp8
    refine ⟨p7,p8,_,_,rfl,rfl,s8 _ _ upd_same,upd_same,(by show 6 + 5 ≤ sizeLine; decide),fun p9 hp9=>?_⟩
    have s9:=s8.trans (Same.new (o:=HO.lst ([V.str word,V.str ("add 1 " ++ word),V.str ("less 1 2 3 " ++ word),V.str ("mod " ++ word ++ " 5"),V.str great,V.str ("max " ++ great ++ " 1")] ++ [V.str "mod 5 0",V.str "mod 5 -7",V.str "mod 5 1000000001",V.str ("min 1 mod 5 " ++ great),V.str (Txt.mul "add 1 " 30 ++ "1")])) hp9)
    have b0 : (0 : Int) ≤ 8 + cell / 8 % 190:=by omega
    have b1 : 8 + cell / 8 % 190 ≤ 1000:=by omega
    have lm : ∀ x ∈ (["add 1 ", "less 1 2 3 ", "mod ", " 5", "max ", " 1", "min 1 mod 5 ", "1", "2", "sub 1 ", " 2"] : List Str),(Txt.mul x (8 + cell / 8 % 190)).length ≤ 5000:=fun x hx=>by
      rw [hm]
      exact mul_le (l1 x hx) (by omega)
    refine ⟨_,rfl,_,rfl,_,_,rfl,rfl,b0,b1,(by decide +kernel),_,_,rfl,rfl,fits (Nat.le_trans (lm _ (by simp)) (by decide)) (L (by simp)),_,rfl,_,_,rfl,rfl,b0,b1,(by decide +kernel),_,_,rfl,rfl,fits (app_le (i:=5000) (lm _ (by simp)) (l1 _ (by simp)) (by decide)) (Nat.le_trans (lm _ (by simp)) (by decide)),_,rfl,_,_,rfl,rfl,b0,b1,(by decide +kernel),_,_,rfl,rfl,fits (Nat.le_trans (lm _ (by simp)) (by decide)) (L (by simp)),(by show 2 ≤ sizeLine; decide),fun p10 hp10=>?_⟩
    have s10:=Same.new (o:=HO.lst [V.str (Txt.mul "mod " (8 + cell / 8 % 190) ++ "1" ++ Txt.mul " 2" (8 + cell / 8 % 190)),V.str (Txt.mul "sub 1 " (8 + cell / 8 % 190) ++ "2")]) hp10
    refine ⟨p9,p10,_,_,rfl,rfl,s10 _ _ upd_same,upd_same,(by show 6 + 5 + 2 ≤ sizeLine; decide),fun p11 hp11=>?_⟩
    have hd0:=Int.emod_nonneg cell (show (13 : Int) ≠ 0 by decide)
    have hd1:=Int.emod_lt_of_pos cell (show (0 : Int) < 13 by decide)
    have sE:=(sm.trans s7).trans ((s9.trans s10).trans (Same.new (o:=HO.lst ([V.str word,V.str ("add 1 " ++ word),V.str ("less 1 2 3 " ++ word),V.str ("mod " ++ word ++ " 5"),V.str great,V.str ("max " ++ great ++ " 1")] ++ [V.str "mod 5 0",V.str "mod 5 -7",V.str "mod 5 1000000001",V.str ("min 1 mod 5 " ++ great),V.str (Txt.mul "add 1 " 30 ++ "1")] ++ [V.str (Txt.mul "mod " (8 + cell / 8 % 190) ++ "1" ++ Txt.mul " 2" (8 + cell / 8 % 190)),V.str (Txt.mul "sub 1 " (8 + cell / 8 % 190) ++ "2")])) hp11))
    obtain ⟨v,ev,hv⟩:=pickV (xs:=[V.str word,V.str ("add 1 " ++ word),V.str ("less 1 2 3 " ++ word),V.str ("mod " ++ word ++ " 5"),V.str great,V.str ("max " ++ great ++ " 1")] ++ [V.str "mod 5 0",V.str "mod 5 -7",V.str "mod 5 1000000001",V.str ("min 1 mod 5 " ++ great),V.str (Txt.mul "add 1 " 30 ++ "1")] ++ [V.str (Txt.mul "mod " (8 + cell / 8 % 190) ++ "1" ++ Txt.mul " 2" (8 + cell / 8 % 190)),V.str (Txt.mul "sub 1 " (8 + cell / 8 % 190) ++ "2")]) hd0 hd1
    refine ⟨_,rfl,_,_,rfl,rfl,(show (0 : Int) < 13 by decide),p11,_,_,v,rfl,rfl,SqL.of upd_same,ev,?_⟩
    have hall : ∃ odd,v = .str odd∧OddOk at_ odd:=by
      simp only [List.cons_append,List.nil_append,List.mem_cons,List.not_mem_nil,or_false] at hv
      rcases hv with rfl | rfl | rfl | rfl | rfl | rfl | rfl | rfl | rfl | rfl | rfl | rfl | rfl
      · exact ⟨_,rfl,odd0 wn wf wx⟩
      · exact ⟨_,rfl,odd1 wn wf wx⟩
      · exact ⟨_,rfl,odd2 wn wf wx⟩
      · exact ⟨_,rfl,odd3 wn wf wx⟩
      · exact ⟨_,rfl,odd4 fg gw gs⟩
      · exact ⟨_,rfl,odd5 fg gw gs⟩
      · exact ⟨_,rfl,odd6 fg0 (wd_of (by decide +kernel)) (by decide) _ (by decide +kernel)⟩
      · exact ⟨_,rfl,odd6 fgm7 (wd_of (by decide +kernel)) (by decide) _ (by decide +kernel)⟩
      · exact ⟨_,rfl,odd6 fgbig (wd_of (by decide +kernel)) (by decide) _ (by decide +kernel)⟩
      · exact ⟨_,rfl,odd9 fg gw gs⟩
      · exact ⟨_,rfl,oddT (w := "add") (.inl rfl) (wd_of (by decide +kernel)) (by decide +kernel) fg1 (wd_of (by decide +kernel)) 29 (by decide) (by decide)⟩
      · exact ⟨_,rfl,by rw [hm]; exact oddM m (by omega) (by omega)⟩
      · exact ⟨_,rfl,by rw [hm]; exact oddT (w := "sub") (.inr (.inl rfl)) (wd_of (by decide +kernel)) (by decide +kernel) fg2 (wd_of (by decide +kernel)) m (by omega) (by omega)⟩
    obtain ⟨odd,rfl,ho⟩:=hall
    exact k odd _ ho sE
end
end K04

namespace K04
open PySem L2
structure Rw (f row : Str) (r : Option Ex) : Prop where
  fit : Fit row
  nf : 10 ∉ row.cps.toList
  len : row.length ≤ 30000
  res : rowG f row = r
theorem asc_wd {w : Str} (h : Wd w) : Asc w:=⟨asc_mem fun c hc=>by have:=h.1 c hc; omega,Nat.le_trans h.2 (by decide)⟩
theorem rw_words {f : Str} {ws : List Str} (h : ∀ w ∈ f :: ws,Wd w) (hn : ws.length ≤ 400) : Rw f (Txt.join " " (f :: ws)) (readG ws):=by
  have hs : Txt.split (Txt.join " " (f :: ws)) " " = f :: ws:=by
    rw [blank_one]
    exact split_join (by simp) fun w hw z=>by have:=(h w hw).1 _ z; omega
  have hl : (Txt.join " " (f :: ws)).length ≤ 30000:=by
    rw [blank_one]
    have:=join_len (c:=32) (B:=70) (fun w hw=>(h w hw).2)
    rw [List.length_cons] at this
    omega
  refine ⟨⟨by omega,fun w hw=>?_,?_⟩,?_,hl,rowG_of hs⟩
  · rw [hs] at hw
    exact asc_wd (h w hw)
  · rw [hs,List.length_cons]
    omega
  · rw [blank_one]
    intro z
    rcases mem_join z with z | ⟨w,hw,z⟩
    · cases z
    · have:=(h w hw).1 _ z
      omega
theorem wd_plain {w : Str} (h : Plain w) : Wd w:=⟨h.1,Nat.le_trans h.2 (by decide)⟩
theorem rw_good {f : Str} {e : Ex} (hf : f ∈ rowWs) (h : Rdb e) : Rw f (rowT f e) (some e):=by
  have hc:=row_cnt hf h
  rw [List.length_cons] at hc
  have:=rw_words (f:=f) (ws:=e.words) (fun w hw=>wd_plain (row_plain hf h w hw)) (by omega)
  have e1:=rowG_T hf h
  exact ⟨this.fit,this.nf,this.len,e1⟩
theorem rw_odd {f odd : Str} {at_ : Nat} (hf : f ∈ rowWs) (h : OddOk at_ odd) : ∃ e,Rw f (f ++ " " ++ odd) (some e)∧¬ (e.ok (namesAt at_)∧e.dep ≤ 8):=by
  obtain ⟨ws,e,rfl,hne,hw,hl,hr,hb⟩:=h.ex
  refine ⟨e,?_,hb⟩
  have : f ++ " " ++ Txt.join " " ws = Txt.join " " (f :: ws):=by
    conv=>lhs; rw [← join_one f]
    exact join_app (by simp) hne
  rw [this,← hr]
  exact rw_words (wd_cons (wd_plain (plain_row f hf)) hw) hl
theorem rw_bad {f : Str} (hf : f ∈ rowWs) : Rw f (f ++ " add 1") none:=by
  have e1 : f ++ " add 1" = Txt.join " " (f :: ["add", "1"]):=by
    have:=join_app (us:=[f]) (vs:=["add", "1"]) (by simp) (by simp)
    rw [join_one] at this
    show _ = Txt.join " " ([f] ++ (["add", "1"] : List Str))
    rw [← this]
    apply str_ext
    rw [cl_app,cl_app,cl_app,List.append_assoc,show (" add 1" : Str).cps.toList = (" " : Str).cps.toList ++ (Txt.join " " (["add", "1"] : List Str)).cps.toList by decide +kernel]
  rw [e1]
  have:=rw_words (f:=f) (ws:=["add", "1"]) (wd_cons (wd_plain (plain_row f hf)) (wd_cons (wd_of (by decide +kernel)) (wd_cons (wd_of (by decide +kernel)) wd_nil))) (by simp)
  have e2 : readG ["add", "1"] = none:=by
    show oneG (rdG "add" (rdG "1" (some []))) = none
    rw [rdG_some,fg1.st]
    decide +kernel
  rw [e2] at this
  exact this
structure RwL (xs : List Str) (rs : List (Option Ex)) : Prop where
  l4 : xs.length = 4
  r4 : rs.length = 4
  at_ : ∀ (i : Nat) f x r,rowWs[i]? = some f→xs[i]? = some x→rs[i]? = some r→Rw f x r
theorem RwL.set {xs : List Str} {rs : List (Option Ex)} (h : RwL xs rs) {i : Nat} {f x : Str} {r : Option Ex} (hf : rowWs[i]? = some f) (hx : Rw f x r) : RwL (xs.set i x) (rs.set i r):=by
  refine ⟨by rw [List.length_set]; exact h.l4,by rw [List.length_set]; exact h.r4,fun j g y q hg hy hq=>?_⟩
  have l4:=h.l4
  have r4:=h.r4
  by_cases hj : i = j
  · subst hj
    have i4 : i < 4:=(List.getElem?_eq_some_iff.mp hf).1
    rw [hf] at hg
    cases hg
    rw [List.getElem?_set_self (by omega)] at hy hq
    cases hy
    cases hq
    exact hx
  · rw [List.getElem?_set_ne hj] at hy hq
    exact h.at_ j g y q hg hy hq
theorem RwL.mem {xs : List Str} {rs : List (Option Ex)} (h : RwL xs rs) {x : Str} (hx : x ∈ xs) : ∃ f r,Rw f x r:=by
  obtain ⟨i,hi,rfl⟩:=List.getElem_of_mem hx
  have l4:=h.l4
  have r4:=h.r4
  have h1 : rowWs[i]? = some (rowWs[i]'(by show i < 4; omega)):=List.getElem?_eq_getElem _
  exact ⟨_,_,h.at_ i _ _ _ h1 (List.getElem?_eq_getElem hi) (List.getElem?_eq_getElem (by omega))⟩
theorem RwL.rowAt {xs : List Str} {rs : List (Option Ex)} (h : RwL xs rs) {i : Nat} (hi : i < 4) : some (rowAt xs i) = rs[i]?:=by
  have l4:=h.l4
  have r4:=h.r4
  have h1 : rowWs[i]? = some (rowWs[i]'(by show i < 4; omega)):=List.getElem?_eq_getElem _
  have h2 : xs[i]? = some xs[i]:=List.getElem?_eq_getElem (by omega)
  have h3 : rs[i]? = some rs[i]:=List.getElem?_eq_getElem (by omega)
  unfold K04.rowAt
  rw [h1,h2,h3]
  exact congrArg some (h.at_ i _ _ _ h1 h2 h3).res
theorem join_okB {c B : Nat} {ws : List Str} (h : ∀ w ∈ ws,w.length ≤ B) (hz : ws.length * B + ws.length ≤ 10000000) : JoinOk ⟨#[c]⟩ ws = true:=by
  unfold JoinOk
  rw [StrLaws.joinTotal,Bool.not_eq_true']
  have h2:=sum_le h
  have e : (⟨#[c]⟩ : Str).length = 1:=rfl
  rw [e]
  unfold Builtin.Str.tooLong
  have e2 : sizeLine = 16777216:=rfl
  rw [decide_eq_false_iff_not,e2,Nat.mul_one]
  omega
section
variable {xs : List Str} {rs : List (Option Ex)} (h : RwL xs rs)
include h
theorem RwL.len : ∀ w ∈ xs,w.length ≤ 30000:=fun w hw=>by
  obtain ⟨f,r,q⟩:=h.mem hw
  exact q.len
theorem RwL.ok : JoinOk "\n" xs = true:=by
  rw [feed_one]
  exact join_okB h.len (by rw [h.l4]; decide)
theorem RwL.tlen : (Txt.join "\n" xs).length ≤ 400000:=by
  rw [feed_one]
  have:=join_len (c:=10) h.len
  rw [h.l4] at this
  omega
theorem RwL.split : Txt.split (Txt.join "\n" xs) "\n" = xs:=by
  rw [feed_one]
  refine split_join (fun z=>by have:=h.l4; rw [z] at this; cases this) fun w hw=>?_
  obtain ⟨f,r,q⟩:=h.mem hw
  exact q.nf
end
section
variable {P : Program} {w : World} {K : PySem.W.Frag} {mg : Str→Option Value} {base : Heap} {a : Ad}
def spRef : Sp:=fun vs H Q _=>∃ (xs : List Str) (rs : List (Option Ex)),vs = [.str (Txt.join "\n" xs)]∧RwL xs rs ∧
  (∀ i : Nat,i < 4→(∀ j < i,rs[j]? ≠ some none)→rs[i]? = some none→∀ H',Same H H'→Q (.int i) H') ∧
  (∀ e1 e2 e3 e4,rs = [some e1,some e2,some e3,some e4]→(GoodE e1 e2 e3 e4→∀ H',Same H H'→Q (.str "none") H')∧(¬ GoodE e1 e2 e3 e4→∀ H',Same H H'→Q (.str "program") H'))
theorem ok_ref (T : Txt w K mg a) : FnOk P w K mg base CX0 25 a.f_qx a.d_qx ["_law_text"] spRef:=by
  have cx_qn : Callee1 P w K mg base "read_program" a.f_qn a.d_qn ["text"] 24 (spRead a):=⟨ok_read T,T.g_qn,T.F_qn.kp,T.b_qn⟩
  refine T.F_qx.ok sc_qx (fun vs H Q E h=>?_) (fun cdv A outer s H vs Q E hr h=>?_)
  · obtain ⟨xs,rs,rfl,_⟩:=h
    rfl
  · obtain ⟨xs,rs,rfl,hR,k1,k2⟩:=h
    refine bx_in (w_pss_cons (w_ps_set (i:=1) sc_qx.nd rfl (Or.inl rfl) w_pe_str)
      (w_pss_cut (w_ps_tryAA (i:=2) (i2:=2) rfl rfl sc_qx.nd rfl rfl (Or.inr ⟨_,T.xn_NoText⟩) T.g_NoText rfl rfl (Or.inl T.xc_NoProgram) T.g_NoProgram (w_px_expr (w_pv_c cx_qn (hr.mono (by omega)) (w_pa_N (w_pv 0) w_pa_nil))) (fun _=>(w_pss_one (w_ps_set (i:=1) sc_qx.nd rfl (Or.inl rfl) (w_pe_fldK (K:=K) rfl (w_pv 2) rfl)))) (fun _=>(w_pss_cons (w_ps_set (i:=1) sc_qx.nd rfl (Or.inl rfl) w_pe_str)
        (w_pss_one (w_ps_if (w_pt (w_pw_or (w_pt_val (w_pe_callB (call_isiK (K:=K) rfl) (by rfl) T.n_isinstance bt_isinstance (w_pa_N (w_pv 2) (w_pa_N (w_pe_cls T.g_NoWay) w_pa_nil)))) (w_pw_or (w_pt_not (w_pt_val (w_pe_callB (call_isiK (K:=K) rfl) (by rfl) T.n_isinstance bt_isinstance (w_pa_N (w_pv 2) (w_pa_N (w_pe_cls T.g_BeatlessError) w_pa_nil))))) (w_pw_or1 (w_pt_not (w_pt_val (w_pe_callB (call_isiK (K:=K) rfl) (by rfl) T.n_isinstance bt_isinstance (w_pa_N (w_pv 2) (w_pa_N (w_pe_bty T.n_ValueError bt_ValueError) w_pa_nil)))))))))
          (w_pss_one (w_ps_set (i:=1) sc_qx.nd rfl (Or.inl rfl) w_pe_str))
          w_pss_nil)))))
      (w_pss_one (w_ps_ret (w_pv 1))))) ?_
    refine ⟨fun σ' H'=>∃ v,σ' = [some (.str (Txt.join "\n" xs)),some v,none]∧Q v H',?_,?_⟩
    · refine ⟨_,rfl,_,xs,rfl,hR.split,hR.tlen,by rw [hR.l4]; decide,fun r hr=>?_,fun i hi hj hr d H' sm hd0 hd=>?_,fun _ h4=>?_,fun e1 e2 e3 e4 h1 h2 h3 h4 _=>?_⟩
      · obtain ⟨f,q,z⟩:=hR.mem hr
        exact z.fit
      · refine ⟨a.c_NoText,rfl,.inl ⟨rfl,fun ax hax=>?_⟩⟩
        have nd : d ≠ ax:=ne_of_none hd hax
        refine ⟨_,rfl,ax,_,d,_,_,rfl,upd_same,(upd_ne nd).trans hd,T.xg_NoText,rfl,?_⟩
        refine ⟨_,rfl,k1 i hi (fun j hji z=>?_) ?_ _ (sm.trans (Same.new hax))⟩
        · have:=hR.rowAt (i:=j) (by omega)
          rw [z] at this
          exact hj j hji (Option.some.inj this)
        · rw [← hR.rowAt hi,hr]
      · rw [hR.l4] at h4
        omega
      · have hrs : rs = [some e1,some e2,some e3,some e4]:=by
          have r4:=hR.r4
          apply List.ext_getElem?
          intro i
          match i with
          | 0=>rw [← hR.rowAt (by decide),h1]; rfl
          | 1=>rw [← hR.rowAt (by decide),h2]; rfl
          | 2=>rw [← hR.rowAt (by decide),h3]; rfl
          | 3=>rw [← hR.rowAt (by decide),h4]; rfl
          | n + 4=>rw [List.getElem?_eq_none_iff.mpr (by omega),List.getElem?_eq_none_iff.mpr (by simp)]
        obtain ⟨kg,kb⟩:=k2 e1 e2 e3 e4 hrs
        refine ⟨fun hG r H' _ sm=>⟨_,rfl,kg hG _ sm⟩,fun hG H' sm=>⟨a.c_NoProgram,rfl,.inr ⟨T.xu_NoProgram_NoText,.inl T.xc_NoProgram,.inl ⟨rfl,fun ax hax=>?_⟩⟩⟩⟩
        have hX : upd H' ax (.ext (ObX ax a.c_NoProgram none)) ax = some (.ext (ObC ax a.c_NoProgram)):=upd_same
        have sX:=sm.trans (Same.new (o:=HO.ext (ObX ax a.c_NoProgram none)) hax)
        refine ⟨_,rfl,ax,a.c_NoProgram,_,_,_,rfl,rfl,hX,T.xi_NoProgram,T.k_NoProgram_NoWay,_,rfl,iteN rfl ?_⟩
        refine ⟨_,rfl,ax,a.c_NoProgram,_,_,_,rfl,rfl,hX,T.xi_NoProgram,T.k_NoProgram_BeatlessError,_,rfl,iteN rfl ?_⟩
        refine ⟨_,rfl,ax,a.c_NoProgram,_,_,_,rfl,rfl,hX,T.xi_NoProgram,T.k_NoProgram_tValueError,_,rfl,iteN rfl ?_⟩
        exact ⟨_,rfl,kb hG _ sX⟩
    · rintro σ' H' ⟨v,rfl,q⟩
      exact ⟨_,rfl,q⟩
end
end K04

namespace K04
open PySem L2
theorem sqSame {K : PySem.W.Frag} {H H' : Hp} {b : Addr} {xs : List V} (h : SqL K H b xs) (s : Same H H') : SqL K H' b xs:=by
  rcases h with (h | ⟨o,h⟩) | h
  · exact .inl (.inl (s _ _ h))
  · exact .inl (.inr ⟨o,s _ _ h⟩)
  · exact .inr h
theorem cut_to {xs : List V} (k : Nat) : cutV xs none (some (k : Int)) = xs.take k:=by
  have h1 : HT.sIx xs.length xs.length (some (k : Int)) = min k xs.length:=by
    unfold HT.sIx
    simp
    omega
  have h2 : HT.sIx xs.length 0 none = 0:=rfl
  unfold cutV
  rw [h1,h2]
  simp
theorem cut_set {xs : List Str} {i : Nat} (h : i < xs.length) (y : Str) : cutV (xs.map V.str) none (some (i : Int)) ++ [V.str y] ++ cutV (xs.map V.str) (some ((i : Int) + 1)) none = (xs.set i y).map V.str:=by
  rw [cut_to,show ((i : Int) + 1) = ((i + 1 : Nat) : Int) by omega,cut_from,List.set_eq_take_append_cons_drop,if_pos h]
  simp
section
variable {P : Program} {w : World} {K : PySem.W.Frag} {mg : Str→Option Value} {base : Heap} {a : Ad}
def spCell (K : PySem.W.Frag) : Sp:=fun vs H Q _=>∃ (l : Addr) (ns : List Int) (k : Int),vs = [.ref l,.int k]∧SqL K H l (ns.map V.int)∧0 ≤ k∧∀ i : Int,Q (.int i) H
theorem ok_cell (T : Txt w K mg a) : FnOk P w K mg base CX0 1 a.f_qo a.d_qo ["_law_script", "_law_k"] (spCell K):=by
  refine T.F_qo.ok sc_qo (fun vs H Q E h=>?_) (fun cdv A outer s H vs Q E hr h=>?_)
  · obtain ⟨l,ns,k,rfl,_⟩:=h
    rfl
  · obtain ⟨l,ns,k,rfl,hl,k0,q⟩:=h
    refine bx_in (w_pss_cons (w_ps_if (w_pt_cmpR op_lt (w_pv 1) (w_pe_callB call_len_seq (by rfl) T.n_len bt_len (w_pa_N (w_pv 0) w_pa_nil)) (nomark _))
        (w_pss_one (w_ps_ret (w_pe_ix ix_list (w_pv 0) (w_pv 1) (fun _ _=>rfl))))
        w_pss_nil)
      (w_pss_one (w_ps_ret w_pe_int))) ?_
    refine ⟨_,rfl,_,rfl,l,_,rfl,.inl hl,_,_,rfl,rfl,_,rfl,?_⟩
    rw [List.length_map]
    refine ite2 (fun z=>?_) (fun z=>?_)
    · have z : k < ns.length:=of_decide_eq_true z
      obtain ⟨n,rfl⟩ : ∃ n : Nat,k = n:=⟨k.toNat,by omega⟩
      have hn : n < ns.length:=by omega
      refine ⟨_,rfl,_,rfl,l,_,_,V.int ns[n],rfl,rfl,hl,atI_nat (by simp [hn]),?_⟩
      exact q _
    · exact q 0
def spLaw (K : PySem.W.Frag) : Sp:=fun vs H Q _=>∃ (a : Addr) (ns : List Int),vs = [.ref a]∧SqL K H a (ns.map V.int)∧ns.length ≤ 63∧∀ H',Q (.bl true) H'
theorem sp_law_of {K : PySem.W.Frag} {H : Hp} {a : Addr} {ns : List Int} (hl : ns.length ≤ 63) (hO : Only H) (hS : SqL K H a (ns.map V.int)) : spLaw K [.ref a] H (fun v _=>v = .bl true) fun _ _ _=>False:=⟨a,ns,rfl,hS,hl,fun _=>rfl⟩
theorem not_good {e1 e2 e3 e4 e : Ex} {i : Nat} (hi : i < 4) (h : ¬ (e.ok (namesAt i)∧e.dep ≤ 8)) {f1 f2 f3 f4 : Ex} (hs : ([some e1,some e2,some e3,some e4] : List (Option Ex)).set i (some e) = [some f1,some f2,some f3,some f4]) : ¬ GoodE f1 f2 f3 f4:=by
  rintro ⟨g1,g2,g3,g4,_⟩
  have : i = 0∨i = 1∨i = 2∨i = 3:=by omega
  rcases this with rfl | rfl | rfl | rfl
  · cases hs
    exact h g1
  · cases hs
    exact h g2
  · cases hs
    exact h g3
  · cases hs
    exact h g4
theorem all_some {e1 e2 e3 e4 e : Ex} {t j : Nat} : (([some e1,some e2,some e3,some e4] : List (Option Ex)).set t (some e))[j]? ≠ some none:=by
  intro z
  have hm:=List.mem_of_getElem? z
  rcases List.mem_or_eq_of_mem_set hm with h | h
  · simp at h
  · cases h
theorem ok_law (T : Txt w K mg a) : FnOk P w K mg base CX0 26 a.f_qy a.d_qy ["_law_script"] (spLaw K):=by
  have c_qo : Callee P w K mg base "_law_cell_at" a.f_qo a.d_qo ["_law_script", "_law_k"] 1 (spCell K):=⟨ok_cell T,T.g_qo,T.F_qo.kp,T.b_qo⟩
  have c_qu : Callee P w K mg base "_law_four" a.f_qu a.d_qu ["_law_state"] 8 spFour:=⟨ok_four T,T.g_qu,T.F_qu.kp,T.b_qu⟩
  have c_qv : Callee P w K mg base "_law_program" a.f_qv a.d_qv ["_law_four_here"] 24 (spLawProg a):=⟨ok_lawprog T,T.g_qv,T.F_qv.kp,T.b_qv⟩
  have c_qh : Callee P w K mg base "program_text" a.f_qh a.d_qh ["program"] 10 (spText a):=⟨ok_text T,T.g_qh,T.F_qh.kp,T.b_qh⟩
  have c_qw : Callee P w K mg base "_law_odd" a.f_qw a.d_qw ["_law_at", "_law_cell"] 1 spOdd:=⟨ok_odd T,T.g_qw,T.F_qw.kp,T.b_qw⟩
  have c_qx : Callee P w K mg base "_law_refused" a.f_qx a.d_qx ["_law_text"] 25 spRef:=⟨ok_ref T,T.g_qx,T.F_qx.kp,T.b_qx⟩
  refine T.F_qy.ok sc_qy (fun vs H Q E h=>?_) (fun cdv A outer s H vs Q E hr h=>?_)
  · obtain ⟨x,ns,rfl,_⟩:=h
    rfl
  · obtain ⟨sc,ns,rfl,hS,hlen,k⟩:=h
    refine bx_in (w_pss_cons (w_ps_set (i:=1) sc_qy.nd rfl (Or.inl rfl) (w_pe_lst (w_pa_C w_pe_str (w_pa_C w_pe_str (w_pa_C w_pe_str (w_pa_C w_pe_str w_pa_nil))))))
      (w_pss_cons (w_ps_set (i:=2) sc_qy.nd rfl (Or.inl rfl) (w_pe_bm PySem.F.plainAttrs_str PySem.F.slot_str_split PySem.F.type_str_split mt_split (w_pe_c c_qh (hr.mono (by omega)) (w_pa_K (w_pe_c c_qv (hr.mono (by omega)) (w_pa_K (w_pe_c c_qu (hr.mono (by omega)) (w_pa_cons (w_pe_lst (w_pa_K (w_pe_c c_qo (hr.mono (by omega)) (w_pa_N (w_pv 0) (w_pa_C w_pe_int w_pa_nil))) w_pa_nil)) w_pa_nil)) w_pa_nil)) w_pa_nil)) (w_pa_C w_pe_str w_pa_nil)))
      (w_pss_cons (w_ps_for PassesOwn.never rfl (w_pi_range2 rfl T.n_range (w_pa_C w_pe_int (w_pa_K (w_pe_callB (call_max2 rfl) (by rfl) T.n_max bt_max (w_pa_C w_pe_int (w_pa_K (w_pe_callB (call_min2 rfl) (by rfl) T.n_min bt_min (w_pa_C w_pe_int (w_pa_K (w_pe_callB call_len_seq (by rfl) T.n_len bt_len (w_pa_N (w_pv 0) w_pa_nil)) w_pa_nil))) w_pa_nil))) w_pa_nil))) (w_pg_name (i:=3) sc_qy.nd rfl (Or.inl rfl))
        (w_pss_cons (w_ps_set (i:=4) sc_qy.nd rfl (Or.inl rfl) (w_pe_op op_add (w_pe_c c_qo (hr.mono (by omega)) (w_pa_N (w_pv 0) (w_pa_N (w_pv 3) w_pa_nil))) (w_pe_op op_mul w_pe_int (w_pv 3))))
        (w_pss_cons (w_ps_set (i:=5) sc_qy.nd rfl (Or.inl rfl) (w_pe_op op_mod (w_pv 4) w_pe_int))
        (w_pss_cons (w_ps_set (i:=6) sc_qy.nd rfl (Or.inl rfl) (w_pe_op op_cat (w_pe_op op_cat (w_pe_slice sl_list (w_pv 2) w_po_none (w_po_some (w_pv 5))) (w_pe_lst (w_pa_B (w_pe_op op_add_str (w_pe_op op_add_str (w_pe_ix ix_list (w_pv 1) (w_pv 5) (fun _ _=>rfl)) w_pe_str) (w_pe_c c_qw (hr.mono (by omega)) (w_pa_N (w_pv 5) (w_pa_B (w_pe_op op_fdivG (w_pv 4) w_pe_int) w_pa_nil)))) w_pa_nil))) (w_pe_slice sl_list (w_pv 2) (w_po_some (w_pe_op op_add (w_pv 5) w_pe_int)) w_po_none)))
        (w_pss_cons (w_ps_if (w_pt_cmpR op_ne (w_pe_c c_qx (hr.mono (by omega)) (w_pa_K (w_pe_bm PySem.F.plainAttrs_str PySem.F.slot_str_join PySem.F.type_str_join mt_join w_pe_str (w_pa_N (w_pv 6) w_pa_nil)) w_pa_nil)) w_pe_str (nomark _))
          (w_pss_one (w_ps_ret w_pe_bl))
          w_pss_nil)
        (w_pss_cons (w_ps_set (i:=7) sc_qy.nd rfl (Or.inl rfl) (w_pe_op op_mod (w_pe_op op_add (w_pe_op op_add (w_pv 5) w_pe_int) (w_pe_op op_mod (w_pe_op op_fdivG (w_pv 4) w_pe_int) w_pe_int)) w_pe_int))
        (w_pss_cons (w_ps_asg (w_pe_op op_add_str (w_pe_ix ix_list (w_pv 1) (w_pv 7) (fun _ _=>rfl)) w_pe_str) (w_pg_sub (w_pv 6) (w_pv 7) set_list))
        (w_pss_one (w_ps_if (w_pt_cmpR op_ne (w_pe_c c_qx (hr.mono (by omega)) (w_pa_K (w_pe_bm PySem.F.plainAttrs_str PySem.F.slot_str_join PySem.F.type_str_join mt_join w_pe_str (w_pa_N (w_pv 6) w_pa_nil)) w_pa_nil)) (w_pv 7) (nomark _))
          (w_pss_one (w_ps_ret w_pe_bl))
          w_pss_nil)))))))))
      (w_pss_one (w_ps_ret (w_pe_cmpR op_eq (w_pe_c c_qx (hr.mono (by omega)) (w_pa_K (w_pe_bm PySem.F.plainAttrs_str PySem.F.slot_str_join PySem.F.type_str_join mt_join w_pe_str (w_pa_N (w_pv 2) w_pa_nil)) w_pa_nil)) w_pe_str (nomark _))))))) ?_
    refine ⟨(by show 4 ≤ sizeLine; decide),fun hp hhp=>?_⟩
    have s0:=Same.new (o:=HO.lst (rowWs.map V.str)) hhp
    refine ⟨_,rfl,sc,ns,0,rfl,sqSame hS s0,by decide,fun c=>⟨by show 1 ≤ sizeLine; decide,fun l hl=>?_⟩⟩
    have s1:=Same.new (o:=HO.lst [V.int c]) hl
    refine ⟨l,rfl,⟨_,upd_same,.inl ⟨c,rfl⟩⟩,fun q v1 v2 v3 v4 e1 e2 e3 e4 H2 hq0 hq t1 t2 t3 t4 _ x2=>?_⟩
    have s2 : Same (upd H hp (HO.lst (rowWs.map V.str))) H2:=fun b o e=>x2 b o (s1 b o e) (ne_of_none e hl)
    refine ⟨q,v1,v2,v3,v4,e1,e2,e3,e4,rfl,hq,⟨t1,t2,t3,t4⟩,fun r H3 hP s3=>?_⟩
    obtain ⟨pp,pdx,r1,r2,r3,r4,hre,hpp,hF⟩:=id hP
    have hG:=hF.good
    obtain ⟨d1,d2,d3,d4⟩:=hG.rd
    refine ⟨r,e1,e2,e3,e4,rfl,hP,fun H4 s4=>?_⟩
    have hsp : Txt.split (progT e1 e2 e3 e4) "\n" = rowsOf e1 e2 e3 e4:=prog_split d1 d2 d3 d4
    have hpl:=prog_len d1 d2 d3 d4
    have hpt:=parts_len (progT e1 e2 e3 e4) "\n"
    have e2' : sizeLine = 16777216:=rfl
    refine ⟨rfl,_,_,rfl,rfl,(by decide +kernel),(by omega),(by rw [hsp]; show 4 ≤ sizeLine; decide),(by omega),fun pr hpr=>?_⟩
    rw [hsp]
    have s5 : Same H _:=(s0.trans (s2.trans (s3.trans s4))).trans (Same.new (o:=HO.lst ((rowsOf e1 e2 e3 e4).map V.str)) hpr)
    have hheads:=(Same.new (o:=HO.lst ((rowsOf e1 e2 e3 e4).map V.str)) hpr) _ _ ((s2.trans (s3.trans s4)) _ _ (upd_same (H:=H) (a:=hp) (o:=HO.lst (rowWs.map V.str))))
    have R0 : RwL (rowsOf e1 e2 e3 e4) [some e1,some e2,some e3,some e4]:=⟨rfl,rfl,fun i f x r hf hx hr=>by
      match i,hf,hx,hr with
      | 0,hf,hx,hr=>cases hf; cases hx; cases hr; exact rw_good (by simp) d1
      | 1,hf,hx,hr=>cases hf; cases hx; cases hr; exact rw_good (by simp) d2
      | 2,hf,hx,hr=>cases hf; cases hx; cases hr; exact rw_good (by simp) d3
      | 3,hf,hx,hr=>cases hf; cases hx; cases hr; exact rw_good (by simp) d4
      | _ + 4,hf,hx,hr=>simp at hf⟩
    generalize hH5 : upd H4 pr (HO.lst ((rowsOf e1 e2 e3 e4).map V.str)) = H5 at *
    have hrows : H5 pr = some (.lst ((rowsOf e1 e2 e3 e4).map V.str)):=by rw [← hH5]; exact upd_same
    have hS5:=sqSame hS s5
    refine ⟨_,rfl,sc,_,rfl,.inl hS5,30,_,rfl,2,_,rfl,1,_,rfl,⟨by decide,by decide,?_,?_⟩,?_⟩
    · rw [List.length_map]
      repeat' split
      all_goals omega
    · rw [List.length_map]
      repeat' split
      all_goals omega
    refine for_range (lo:=1) (fun i σ H'=>∃ (o3 o4 o5 o6 o7 : Option V),σ = [some (.ref sc),some (.ref hp),some (.ref pr),o3,o4,o5,o6,o7]∧Same H5 H') ?_ ?_ ?_
    · exact ⟨none,none,none,none,none,rfl,Same.refl H5⟩
    · rintro i σ H6 hi ⟨o3,o4,o5,o6,o7,rfl,s6⟩
      refine ⟨_,rfl,_,rfl,sc,ns,_,rfl,sqSame hS5 s6,by omega,fun c'=>?_⟩
      refine ⟨_,rfl,11,_,rfl,rfl,.inl ⟨by decide,by decide⟩,_,_,rfl,rfl,_,rfl,_,_,rfl,rfl,(show (0 : Int) < 4 by decide),?_⟩
      obtain ⟨cell,hcell⟩ : ∃ cell : Int,cell = c' + 11 * (1 + (i : Int)):=⟨_,rfl⟩
      have ha0:=Int.emod_nonneg cell (show (4 : Int) ≠ 0 by decide)
      have ha1:=Int.emod_lt_of_pos cell (show (0 : Int) < 4 by decide)
      obtain ⟨t,ht⟩ : ∃ t : Nat,cell % 4 = t:=⟨(cell % 4).toNat,by omega⟩
      have t4 : t < 4:=by omega
      have hft : rowWs[t]? = some (rowWs[t]'t4):=List.getElem?_eq_getElem _
      generalize hfe : rowWs[t]'t4 = ft at hft
      have hfm : ft ∈ rowWs:=List.mem_of_getElem? hft
      have hr6:=s6 _ _ hrows
      have hh6:=s6 _ _ hheads
      have et : (c' + 11 * (1 + (i : Int))) % 4 = t:=by rw [← hcell]; exact ht
      refine ⟨_,rfl,_,rfl,_,rfl,pr,_,rfl,SqL.of hr6,fun p1 hp1=>?_⟩
      have y1:=Same.new (o:=HO.lst (cutV ((rowsOf e1 e2 e3 e4).map V.str) none (some ((c' + 11 * (1 + (i : Int))) % 4)))) hp1
      refine ⟨_,rfl,_,rfl,hp,_,_,.str ft,rfl,rfl,SqL.of (y1 _ _ hh6),(by rw [et]; exact atI_nat (by rw [List.getElem?_map,hft]; rfl)),_,_,rfl,rfl,?_,?_⟩
      · have : ft.length ≤ 21:=(plain_row ft hfm).2
        exact fits (by omega) (by decide +kernel)
      refine ⟨_,rfl,_,rfl,_,_,rfl,rfl,⟨by decide,by decide⟩,t,_,(by rw [← et]; rfl),t4,fun odd H7 ho s7=>?_⟩
      obtain ⟨e,hrw,hbad⟩:=rw_odd hfm ho
      have ol : odd.length ≤ 30000:=by
        have:=hrw.len
        rw [len_app] at this
        omega
      refine ⟨_,_,rfl,rfl,?_,?_⟩
      · have : ft.length ≤ 21:=(plain_row ft hfm).2
        have e2' : sizeLine = 16777216:=rfl
        rw [len_app]
        have : (" " : Str).length = 1:=by decide +kernel
        omega
      refine ⟨(by show 1 ≤ sizeLine; decide),fun p2 hp2=>?_⟩
      have y2:=y1.trans (s7.trans (Same.new (o:=HO.lst [V.str (ft ++ " " ++ odd)]) hp2))
      have yp1:=(s7.trans (Same.new (o:=HO.lst [V.str (ft ++ " " ++ odd)]) hp2)) _ _ (upd_same (H:=H6) (a:=p1) (o:=HO.lst (cutV ((rowsOf e1 e2 e3 e4).map V.str) none (some ((c' + 11 * (1 + (i : Int))) % 4)))))
      have lc1 : (cutV ((rowsOf e1 e2 e3 e4).map V.str) none (some ((c' + 11 * (1 + (i : Int))) % 4))).length ≤ 4:=by
        rw [et,cut_to]
        exact Nat.le_trans (List.length_take_le' _ _) (by simp [rowsOf])
      refine ⟨p1,p2,_,_,rfl,rfl,yp1,upd_same,(by simp only [List.length_singleton]; exact Nat.le_trans (show _ + 1 ≤ 5 by omega) (by decide)),fun p3 hp3=>?_⟩
      have y3:=Same.new (o:=HO.lst (cutV ((rowsOf e1 e2 e3 e4).map V.str) none (some ((c' + 11 * (1 + (i : Int))) % 4)) ++ [V.str (ft ++ " " ++ odd)])) hp3
      refine ⟨_,rfl,_,rfl,_,_,rfl,rfl,_,rfl,pr,_,rfl,SqL.of (y3 _ _ (y2 _ _ hr6)),fun p4 hp4=>?_⟩
      have y4:=Same.new (o:=HO.lst (cutV ((rowsOf e1 e2 e3 e4).map V.str) (some ((c' + 11 * (1 + (i : Int))) % 4 + 1)) none)) hp4
      have lc2 : (cutV ((rowsOf e1 e2 e3 e4).map V.str) (some ((c' + 11 * (1 + (i : Int))) % 4 + 1)) none).length ≤ 4:=by
        rw [et,show ((t : Int) + 1) = ((t + 1 : Nat) : Int) by omega,cut_from,List.length_drop,List.length_map]
        show 4 - (t + 1) ≤ 4
        omega
      refine ⟨p3,p4,_,_,rfl,rfl,y4 _ _ upd_same,upd_same,(by rw [List.length_append,List.length_singleton]; exact Nat.le_trans (show _ + 1 + _ ≤ 9 by omega) (by decide)),fun p5 hp5=>?_⟩
      have es : cutV ((rowsOf e1 e2 e3 e4).map V.str) none (some ((c' + 11 * (1 + (i : Int))) % 4)) ++ [V.str (ft ++ " " ++ odd)] ++ cutV ((rowsOf e1 e2 e3 e4).map V.str) (some ((c' + 11 * (1 + (i : Int))) % 4 + 1)) none = ((rowsOf e1 e2 e3 e4).set t (ft ++ " " ++ odd)).map V.str:=by
        rw [et]
        exact cut_set t4 _
      rw [es] at *
      have R1:=R0.set hft hrw
      have y5:=y2.trans (y3.trans (y4.trans (Same.new (o:=HO.lst (((rowsOf e1 e2 e3 e4).set t (ft ++ " " ++ odd)).map V.str)) hp5)))
      refine ⟨rfl,_,rfl,_,p5,(rowsOf e1 e2 e3 e4).set t (ft ++ " " ++ odd),rfl,rfl,SqL.of upd_same,R1.ok,_,_,rfl,R1,fun j hj _ z=>?_,fun f1 f2 f3 f4 hf=>⟨fun hg=>absurd hg (not_good t4 hbad hf),fun _ H8 s8=>⟨rfl,_,rfl,iteN rfl ?_⟩⟩⟩
      · exact absurd z all_some
      obtain ⟨u,hu⟩ : ∃ u : Nat,(cell % 4 + 1 + cell / 64 % 3) % 4 = u:=⟨((cell % 4 + 1 + cell / 64 % 3) % 4).toNat,by omega⟩
      have u4 : u < 4:=by omega
      have ut : u ≠ t:=by omega
      have hfu : rowWs[u]? = some (rowWs[u]'u4):=List.getElem?_eq_getElem _
      generalize hfue : rowWs[u]'u4 = fu at hfu
      have hfum : fu ∈ rowWs:=List.mem_of_getElem? hfu
      have eu : ((c' + 11 * (1 + (i : Int))) % 4 + 1 + (c' + 11 * (1 + (i : Int))) / 64 % 3) % 4 = u:=by rw [← hcell]; exact hu
      have h8:=s8 _ _ upd_same
      have hh8:=s8 _ _ (y5 _ _ hh6)
      have R2:=R1.set hfu (rw_bad hfum)
      have lu : fu.length ≤ 21:=(plain_row fu hfum).2
      have em : (((rowsOf e1 e2 e3 e4).set t (ft ++ " " ++ odd)).map V.str).set u (V.str (fu ++ " add 1")) = (((rowsOf e1 e2 e3 e4).set t (ft ++ " " ++ odd)).set u (fu ++ " add 1")).map V.str:=List.map_set.symm
      refine ⟨_,rfl,_,_,rfl,rfl,_,rfl,_,_,rfl,rfl,⟨by decide,by decide⟩,_,_,rfl,rfl,(show (0 : Int) < 3 by decide),_,_,rfl,rfl,_,_,rfl,rfl,(show (0 : Int) < 4 by decide),?_⟩
      refine ⟨_,rfl,_,rfl,hp,_,_,.str fu,rfl,rfl,SqL.of hh8,(by rw [eu]; exact atI_nat (by rw [List.getElem?_map,hfu]; rfl)),_,_,rfl,rfl,fits (by omega) (by decide +kernel),_,rfl,_,rfl,p5,_,_,u,rfl,rfl,h8,?_,?_⟩
      · rw [eu,List.length_map,List.length_set]
        show ixN 4 (u : Int) = some u
        have : u = 0∨u = 1∨u = 2∨u = 3:=by omega
        rcases this with rfl | rfl | rfl | rfl <;> rfl
      rw [em]
      have y9 : Same H5 (L2.upd H8 p5 (.lst ((((rowsOf e1 e2 e3 e4).set t (ft ++ " " ++ odd)).set u (fu ++ " add 1")).map V.str))) :=
        Same.updF (s6.trans (y5.trans s8)) ((s6.trans (y2.trans (y3.trans y4))).free hp5)
      refine ⟨rfl,_,rfl,_,p5,_,rfl,rfl,SqL.of upd_same,R2.ok,_,_,rfl,R2,fun j hj _ z=>?_,fun f1 f2 f3 f4 hf=>?_⟩
      · have hju : j = u:=by
          by_cases h : j = u
          · exact h
          · rw [List.getElem?_set_ne (Ne.symm h)] at z
            exact absurd z all_some
        subst hju
        intro H9 s9
        refine ⟨_,rfl,rfl,_,rfl,iteN ?_ ?_⟩
        · show (!decide (V.int (j : Int) = V.int (((c' + 11 * (1 + (i : Int))) % 4 + 1 + (c' + 11 * (1 + (i : Int))) / 64 % 3) % 4))) = false
          rw [eu]
          simp
        · exact ⟨_,_,_,_,_,rfl,y9.trans s9⟩
      · exfalso
        have : ((([some e1,some e2,some e3,some e4] : List (Option Ex)).set t (some e)).set u none)[u]? = some none:=List.getElem?_set_self (by simp; omega)
        rw [hf] at this
        have hm:=List.mem_of_getElem? this
        simp at hm
    · rintro σ H6 ⟨o3,o4,o5,o6,o7,rfl,s6⟩
      refine ⟨rfl,_,rfl,_,pr,rowsOf e1 e2 e3 e4,rfl,rfl,SqL.of (s6 _ _ hrows),R0.ok,rowsOf e1 e2 e3 e4,_,rfl,R0,fun j hj _ z=>?_,fun f1 f2 f3 f4 hf=>⟨fun _ H7 _=>⟨rfl,?_⟩,fun hb=>?_⟩⟩
      · match j,hj,z with
        | 0,_,z=>cases z
        | 1,_,z=>cases z
        | 2,_,z=>cases z
        | 3,_,z=>cases z
      · exact k _
      · cases hf
        exact absurd hG hb
end
end K04

noncomputable section
namespace Hd
open PySem PySem.W PySem.Calls PyProof.Rows
variable (P : Params)
def tt {α : Type} (_ : α) : Bool:=true
def S (i : Nat) : Stmt:=PySem.Challenge.pw_beatless_k11_texts_of_no_program.main.body.getD i (.Pass ⟨0,0,0,0⟩)
def en (P : Params) (x : Str) (t : Tok) (v : Value) : DictEntry:=⟨PyData.keyHash P x,.str x t,v⟩
def fd (n q : Str) (s : Stmt) (g : Addr) (cl : List (Str × Addr)) (d k c m : Value) (an : Option Addr) (cd ct : Value) (b : Addr) : FuncData :=
  ⟨n,q,L2.defArgs s,.stmts (L2.defBody s),L2.defScope s,g,cl,d,k,c,m,an,cd,ct,b⟩
abbrev an : Option Value:=(Option.some (.ref 6))
def env : Env:={ scope:=PySem.Challenge.pw_beatless_k11_texts_of_no_program.main.scope,locals:=mainNs,globals:=mainNs,cells:=[],code:=(.ref 13),frame:=some 14 }
abbrev bE : List Stmt:=behindTheImports PySem.Challenge.pw_beatless_k11_texts_of_no_program
abbrev cE : Code:=.body bE env
abbrev qE : Pos:=(Pos.mk 0 0 0 0)
abbrev B : List Frame:=[topFrame qE]
def s0 (w : World) (os : OsState) : Shared:=⟨boot_heap w.params,⟨[]⟩,boot_drawn,boot_toks,os⟩
def tO (l : Array Value) : Obj:=Obj.mk (.type "tuple") .none (Data.seq l 0) #[]
def vO (l : Array Value) : Obj:=Obj.mk .none .none (Data.fields l) #[]
def cO (n q : Str) (a b c : Tok) (l m : Int) (k : Int) (r1 r2 r3 r4 r5 : Addr) (x : Int) (y : Tok) : Obj:=Obj.mk (.type "code") .none (Data.fields #[(.str n a),(.str q b),(.str "/claim/cut.py" c),(.int l 0),(.int m 0),(.int 0 0),(.int 0 0),(.int k 0),(.ref r1),(.bool true),(.int 181 0),(.ref r2),.none,(.ref r3),(.ref r4),(.ref r5),(.int x 0),(.int l 0),(.str "/claim/cut.py" y)]) #[]
def uO (n q : Str) (s : Stmt) (m : Str) (t : Tok) (r : Addr) : Obj:=Obj.mk (.type "function") .none (Data.func (fd n q s 3 [] .none .none .none (.str m t) .none (.ref r) .none 0)) #[]
def gO (n q : Str) (s : Stmt) : Obj:=Obj.mk .none .none (Data.func (fd n q s 0 [] .none .none .none .none .none .none .none 0)) #[]
def o0 (P : Params):=tO #[]
def o1 (P : Params):=vO #[]
def o2 (P : Params):=Obj.mk (.type "code") .none (Data.fields #[(.str "<module>" 182),(.str "<module>" 183),(.str "/claim/cut.py" 184),(.int 1 0),(.int 0 0),(.int 0 0),(.int 0 0),(.int 0 0),(.ref 11),(.bool false),(.int 181 0),(.ref 12),.none,.none,.none,.none,(.int 185 0),(.int 1 0),(.str "/claim/cut.py" 186)]) #[]
def o3 (P : Params):=Obj.mk (.type "frame") .none Data.plain #[(Option.some (.ref 13)),(Option.some (.ref 3)),(Option.some (.ref 3)),.none,(Option.some (.str "__main__" 164)),.none,(Option.some (.ref 0))]
def t14:=BT.node (boot_o_0 P) (BT.node (boot_o_1 P) (BT.node (boot_o_3 P) (BT.node (boot_o_7 P) .nil .nil) (BT.node (o0 P) .nil .nil)) (BT.node (boot_o_5 P) (BT.node (boot_o_9 P) .nil .nil) (BT.node (o2 P) .nil .nil))) (BT.node (boot_o_2 P) (BT.node (boot_o_4 P) (BT.node (boot_o_8 P) .nil .nil) (BT.node (o1 P) .nil .nil)) (BT.node (boot_o_6 P) (BT.node (boot_o_10 P) .nil .nil) (BT.node (o3 P) .nil .nil)))
def sa (w : World) (os : OsState) : SharedT:=⟨(t14 w.params),15,(Life.mk [] [] [] 0 [] [] false #[] [] 0 false false false 0 [2000,10,10] false 0 true [] [] 0 false),⟨[]⟩,(Drawn.mk 0 0 0 0),187,os⟩
def La (w : World) (os : OsState) : Option (Shared × Thread):=topGo treeTable PySem.Challenge.pw_beatless_k11_texts_of_no_program w 11 an 12 (s0 w os) (topStub PySem.Challenge.pw_beatless_k11_texts_of_no_program)
def Ra (w : World) (os : OsState) : Option (Shared × Thread):=some ((sa w os).abs,⟨denote treeTable cE,cE,(Pos.mk 0 0 0 0),B⟩)
theorem qa : tt (Hd.La,Hd.Ra) = true:=by k_qdec
theorem ra : ∀ w,Fast.tw11367235000924431832 w = Fast.tw15912052731592885781 w:=fun w=>by kernel_rfl
theorem ea (w : World) (os : OsState) : Hd.La w os = Hd.Ra w os :=
  (congrFun (congrFun Fast.te11367235000924431832 w) os).trans ((congrFun (ra w) os).trans (congrFun (congrFun Fast.te15912052731592885781 w) os).symm)
def sb0 (w : World) (os : OsState) : SharedT:=⟨(t14 w.params),15,(Life.mk [] [] [] 0 [] [] false #[] [] 0 false false false 0 [2000,10,10] false 0 true [] [] 0 false),⟨[]⟩,(Drawn.mk 0 0 0 0),187,os⟩
def Lb (w : World) (os : OsState) : Option (Flow × SharedT × Code × Pos):=segRunT treeTable PySem.Challenge.pw_beatless_k11_texts_of_no_program w 11 an 1 1 (sa w os) (blockOf bE env cE (Pos.mk 0 0 0 0) B)
def Rb (w : World) (os : OsState) : Option (Flow × SharedT × Code × Pos):=some (.next,sb0 w os,cE,(Pos.mk 0 0 0 0))
theorem qb : tt (Hd.Lb,Hd.Rb) = true:=by k_qdec
theorem rb : ∀ w,Fast.tw16430817790641568776 w = Fast.tw15716482383535360375 w:=fun w=>by kernel_rfl
theorem eb (w : World) (os : OsState) : Hd.Lb w os = Hd.Rb w os :=
  (congrFun (congrFun Fast.te16430817790641568776 w) os).trans ((congrFun (rb w) os).trans (congrFun (congrFun Fast.te15716482383535360375 w) os).symm)
def sts0 : List Stmt:=[S 0,S 1,S 2,S 3]
def o4:=Obj.mk (.type "dict") .none (Data.dict #[en P "__name__" 165 (.str "beatless.errors" 194),en P "__doc__" 166 .none,en P "__package__" 167 .none,en P "__loader__" 168 (.builtin "__main__.__loader__#opaque"),en P "__spec__" 169 .none,en P "__annotations__" 170 (.ref 6),en P "__builtins__" 171 (.ref 4),en P "__file__" 173 (.str "/claim/cut.py" 172),en P "__cached__" 174 .none,en P "_wall" 193 (.ref 21),en P "BeatlessError" 213 (.ref 31),en P "NoProgram" 229 (.ref 44)] 12) #[]
def o5 (P : Params):=vO #[(.int 1 0),(.int 0 0),(.ref 20),(.int 5 0),(.int 0 0),(.ref 27),(.int 7 0),(.int 0 0),(.ref 40)]
def o6 (P : Params):=tO #[]
def o7 (P : Params):=vO #[]
def o8 (P : Params):=tO #[(.str "k" 190)]
def o9 (P : Params):=tO #[]
def o10 (P : Params):=gO "_wall" "_wall" (S 0)
def o11 (P : Params):=cO "_wall" "_wall" 187 188 189 1 1 3 15 16 17 18 19 191 192
def o12 (P : Params):=uO "_wall" "_wall" (S 0) "__main__" 164 20
def o13 (P : Params):=tO #[(.type "ValueError")]
def o14 (P : Params):=Obj.mk (.type "builtin_function_or_method") .none (Data.fields #[(.builtin "type.__prepare__"),(.type "type")]) #[]
def o15:=Obj.mk (.type "dict") .none (Data.dict #[en P "__module__" 203 (.str "beatless.errors" 194),en P "__qualname__" 205 (.str "BeatlessError" 204),en P "__firstlineno__" 207 (.int 5 206),en P "__static_attributes__" 208 (.ref 29)] 4) #[]
def o16 (P : Params):=tO #[]
def o17 (P : Params):=vO #[]
def o18 (P : Params):=Obj.mk (.type "code") .none (Data.fields #[(.str "BeatlessError" 198),(.str "BeatlessError" 199),(.str "/claim/cut.py" 200),(.int 5 0),(.int 0 0),(.int 0 0),(.int 0 0),(.int 0 0),(.ref 25),(.bool false),(.int 181 0),(.ref 26),.none,.none,.none,.none,(.int 201 0),(.int 5 0),(.str "/claim/cut.py" 202)]) #[]
def o19 (P : Params):=Obj.mk (.type "frame") .none Data.plain #[(Option.some (.ref 27)),(Option.some (.ref 3)),(Option.some (.ref 24)),.none,(Option.some (.str "beatless.errors" 194)),.none,(Option.some (.ref 0))]
def o20 (P : Params):=tO #[]
def o21:=Obj.mk (.type "dict") .none (Data.dict #[en P "__module__" 203 (.str "beatless.errors" 194),en P "__firstlineno__" 207 (.int 5 206),en P "__static_attributes__" 208 (.ref 29),en P "__weakref__" 210 (.ref 32),en P "__doc__" 211 .none] 3) #[]
def o22 (P : Params):=Obj.mk (.type "type") .none (Data.cls (ClassData.mk "BeatlessError" [(.type "ValueError")] [(.ref 31),(.type "ValueError"),(.type "Exception"),(.type "BaseException"),(.type "object")] 30 "BeatlessError" true [] [(.ref 44)] false .none false)) #[(Option.some (.ref 22)),.none,(Option.some (.str "BeatlessError" 196)),(Option.some (.str "BeatlessError" 204)),(Option.some (.builtin "ValueError.__new__")),(Option.some (.bool true))]
def o23 (P : Params):=Obj.mk (.type "getset_descriptor") .none (Data.fields #[(.str "__weakref__" 209),(.ref 31),(.builtin "ExceptionGroup.__weakref__"),.none]) #[]
def o24 (P : Params):=Obj.mk (.type "super") .none (Data.fields #[(.ref 31),(.ref 31),(.ref 31)]) #[]
def o25 (P : Params):=Obj.mk (.type "builtin_function_or_method") .none (Data.fields #[(.builtin "object.__init_subclass__"),(.ref 31)]) #[]
def o26 (P : Params):=tO #[(.ref 31)]
def o27 (P : Params):=Obj.mk (.type "builtin_function_or_method") .none (Data.fields #[(.builtin "type.__prepare__"),(.type "type")]) #[]
def o28:=Obj.mk (.type "dict") .none (Data.dict #[en P "__module__" 221 (.str "beatless.errors" 194),en P "__qualname__" 223 (.str "NoProgram" 222),en P "__firstlineno__" 225 (.int 7 224),en P "__static_attributes__" 226 (.ref 42)] 4) #[]
def o29 (P : Params):=tO #[]
def o30 (P : Params):=vO #[]
def o31 (P : Params):=Obj.mk (.type "code") .none (Data.fields #[(.str "NoProgram" 216),(.str "NoProgram" 217),(.str "/claim/cut.py" 218),(.int 7 0),(.int 0 0),(.int 0 0),(.int 0 0),(.int 0 0),(.ref 38),(.bool false),(.int 181 0),(.ref 39),.none,.none,.none,.none,(.int 219 0),(.int 7 0),(.str "/claim/cut.py" 220)]) #[]
def o32 (P : Params):=Obj.mk (.type "frame") .none Data.plain #[(Option.some (.ref 40)),(Option.some (.ref 3)),(Option.some (.ref 37)),.none,(Option.some (.str "beatless.errors" 194)),.none,(Option.some (.ref 0))]
def o33 (P : Params):=tO #[]
def o34:=Obj.mk (.type "dict") .none (Data.dict #[en P "__module__" 221 (.str "beatless.errors" 194),en P "__firstlineno__" 225 (.int 7 224),en P "__static_attributes__" 226 (.ref 42),en P "__doc__" 227 .none] 2) #[]
def o35 (P : Params):=Obj.mk (.type "type") .none (Data.cls (ClassData.mk "NoProgram" [(.ref 31)] [(.ref 44),(.ref 31),(.type "ValueError"),(.type "Exception"),(.type "BaseException"),(.type "object")] 43 "NoProgram" true [] [] false .none false)) #[(Option.some (.ref 35)),.none,(Option.some (.str "NoProgram" 214)),(Option.some (.str "NoProgram" 222)),(Option.some (.builtin "ValueError.__new__")),(Option.some (.bool true))]
def o36 (P : Params):=Obj.mk (.type "super") .none (Data.fields #[(.ref 44),(.ref 44),(.ref 44)]) #[]
def o37 (P : Params):=Obj.mk (.type "builtin_function_or_method") .none (Data.fields #[(.builtin "object.__init_subclass__"),(.ref 44)]) #[]
def t56:=BT.node (o37 P) .nil .nil
def t60:=BT.node (boot_o_2 P) (BT.node (boot_o_4 P) (BT.node (boot_o_8 P) (BT.node (o7 P) (BT.node (o23 P) .nil .nil) .nil) (BT.node (o15 P) (BT.node (o31 P) .nil .nil) .nil)) (BT.node (o5 P) (BT.node (o11 P) (BT.node (o27 P) .nil .nil) .nil) (BT.node (o19 P) (BT.node (o35 P) .nil .nil) .nil))) (BT.node (boot_o_6 P) (BT.node (boot_o_10 P) (BT.node (o9 P) (BT.node (o25 P) .nil .nil) .nil) (BT.node (o17 P) (BT.node (o33 P) .nil .nil) .nil)) (BT.node (o3 P) (BT.node (o13 P) (BT.node (o29 P) .nil .nil) .nil) (BT.node (o21 P) (t56 P) .nil)))
def t61:=BT.node (boot_o_0 P) (BT.node (boot_o_1 P) (BT.node (o4 P) (BT.node (boot_o_7 P) (BT.node (o6 P) (BT.node (o22 P) .nil .nil) .nil) (BT.node (o14 P) (BT.node (o30 P) .nil .nil) .nil)) (BT.node (o0 P) (BT.node (o10 P) (BT.node (o26 P) .nil .nil) .nil) (BT.node (o18 P) (BT.node (o34 P) .nil .nil) .nil))) (BT.node (boot_o_5 P) (BT.node (boot_o_9 P) (BT.node (o8 P) (BT.node (o24 P) .nil .nil) .nil) (BT.node (o16 P) (BT.node (o32 P) .nil .nil) .nil)) (BT.node (o2 P) (BT.node (o12 P) (BT.node (o28 P) .nil .nil) .nil) (BT.node (o20 P) (BT.node (o36 P) .nil .nil) .nil)))) (t60 P)
def sb1 (w : World) (os : OsState) : SharedT:=⟨(t61 w.params),47,(Life.mk [] [] [] 0 [] [] false #[] [] 0 false false false 0 [2000,10,10] false 0 true [] [] 0 false),⟨[]⟩,(Drawn.mk 0 0 0 0),230,os⟩
def L0 (w : World) (os : OsState) : Option (Flow × SharedT × Code × Pos):=segRunT treeTable PySem.Challenge.pw_beatless_k11_texts_of_no_program w 11 an 1 438 (sb0 w os) (piecesOf sts0 env cE (Pos.mk 0 0 0 0) B)
def R0 (w : World) (os : OsState) : Option (Flow × SharedT × Code × Pos):=some (.next,sb1 w os,cE,(Pos.mk 7 0 8 8))
theorem q0 : tt (Hd.L0,Hd.R0) = true:=by k_qdec
theorem r0 : ∀ w,Fast.tw4453942571644881324 w = Fast.tw13470614248104656481 w:=fun w=>by kernel_rfl
theorem e0 (w : World) (os : OsState) : Hd.L0 w os = Hd.R0 w os :=
  (congrFun (congrFun Fast.te4453942571644881324 w) os).trans ((congrFun (r0 w) os).trans (congrFun (congrFun Fast.te13470614248104656481 w) os).symm)
def sts1 : List Stmt:=[S 4,S 5,S 6]
def o38:=Obj.mk (.type "dict") .none (Data.dict #[en P "__name__" 165 (.str "beatless.exprs" 271),en P "__doc__" 166 .none,en P "__package__" 167 .none,en P "__loader__" 168 (.builtin "__main__.__loader__#opaque"),en P "__spec__" 169 .none,en P "__annotations__" 170 (.ref 6),en P "__builtins__" 171 (.ref 4),en P "__file__" 173 (.str "/claim/cut.py" 172),en P "__cached__" 174 .none,en P "_wall" 193 (.ref 21),en P "BeatlessError" 213 (.ref 31),en P "NoProgram" 229 (.ref 44),en P "NoText" 254 (.ref 63),en P "NoWay" 270 (.ref 75)] 14) #[]
def o39 (P : Params):=vO #[(.int 1 0),(.int 0 0),(.ref 20),(.int 5 0),(.int 0 0),(.ref 27),(.int 7 0),(.int 0 0),(.ref 40),(.int 9 0),(.int 0 0),(.ref 52),(.int 13 0),(.int 0 0),(.ref 71)]
def o40 (P : Params):=Obj.mk (.type "type") .none (Data.cls (ClassData.mk "BeatlessError" [(.type "ValueError")] [(.ref 31),(.type "ValueError"),(.type "Exception"),(.type "BaseException"),(.type "object")] 30 "BeatlessError" true [] [(.ref 44),(.ref 63),(.ref 75)] false .none false)) #[(Option.some (.ref 22)),.none,(Option.some (.str "BeatlessError" 196)),(Option.some (.str "BeatlessError" 204)),(Option.some (.builtin "ValueError.__new__")),(Option.some (.bool true))]
def o41 (P : Params):=tO #[(.ref 31)]
def o42 (P : Params):=Obj.mk (.type "builtin_function_or_method") .none (Data.fields #[(.builtin "type.__prepare__"),(.type "type")]) #[]
def o43:=Obj.mk (.type "dict") .none (Data.dict #[en P "__module__" 237 (.str "beatless.errors" 194),en P "__qualname__" 239 (.str "NoText" 238),en P "__firstlineno__" 241 (.int 9 240),en P "__init__" 249 (.ref 60),en P "__static_attributes__" 251 (.ref 61)] 5) #[]
def o44 (P : Params):=tO #[]
def o45 (P : Params):=vO #[(.int 11 0),(.int 4 0),(.ref 59)]
def o46 (P : Params):=Obj.mk (.type "code") .none (Data.fields #[(.str "NoText" 232),(.str "NoText" 233),(.str "/claim/cut.py" 234),(.int 9 0),(.int 0 0),(.int 0 0),(.int 0 0),(.int 0 0),(.ref 50),(.bool false),(.int 181 0),(.ref 51),.none,.none,.none,.none,(.int 235 0),(.int 9 0),(.str "/claim/cut.py" 236)]) #[]
def o47 (P : Params):=Obj.mk (.type "frame") .none Data.plain #[(Option.some (.ref 52)),(Option.some (.ref 3)),(Option.some (.ref 49)),.none,(Option.some (.str "beatless.errors" 194)),.none,(Option.some (.ref 0))]
def o48 (P : Params):=tO #[]
def o49 (P : Params):=vO #[]
def o50 (P : Params):=tO #[(.str "self" 245),(.str "row" 246)]
def o51 (P : Params):=tO #[]
def o52 (P : Params):=gO "__init__" "NoText.__init__" (L2.inClass (S 4) 0)
def o53 (P : Params):=cO "__init__" "NoText.__init__" 242 243 244 11 2 3 54 55 56 57 58 247 248
def o54 (P : Params):=uO "__init__" "NoText.__init__" (L2.inClass (S 4) 0) "beatless.errors" 194 59
def o55 (P : Params):=tO #[(.str "row" 250)]
def o56:=Obj.mk (.type "dict") .none (Data.dict #[en P "__module__" 237 (.str "beatless.errors" 194),en P "__firstlineno__" 241 (.int 9 240),en P "__init__" 249 (.ref 60),en P "__static_attributes__" 251 (.ref 61),en P "__doc__" 252 .none] 2) #[]
def o57 (P : Params):=Obj.mk (.type "type") .none (Data.cls (ClassData.mk "NoText" [(.ref 31)] [(.ref 63),(.ref 31),(.type "ValueError"),(.type "Exception"),(.type "BaseException"),(.type "object")] 62 "NoText" true [] [] false .none false)) #[(Option.some (.ref 47)),.none,(Option.some (.str "NoText" 230)),(Option.some (.str "NoText" 238)),(Option.some (.builtin "ValueError.__new__")),(Option.some (.bool true))]
def o58 (P : Params):=Obj.mk (.type "super") .none (Data.fields #[(.ref 63),(.ref 63),(.ref 63)]) #[]
def o59 (P : Params):=Obj.mk (.type "builtin_function_or_method") .none (Data.fields #[(.builtin "object.__init_subclass__"),(.ref 63)]) #[]
def o60 (P : Params):=tO #[(.ref 31)]
def o61 (P : Params):=Obj.mk (.type "builtin_function_or_method") .none (Data.fields #[(.builtin "type.__prepare__"),(.type "type")]) #[]
def o62:=Obj.mk (.type "dict") .none (Data.dict #[en P "__module__" 262 (.str "beatless.errors" 194),en P "__qualname__" 264 (.str "NoWay" 263),en P "__firstlineno__" 266 (.int 13 265),en P "__static_attributes__" 267 (.ref 73)] 4) #[]
def o63 (P : Params):=tO #[]
def o64 (P : Params):=vO #[]
def o65 (P : Params):=Obj.mk (.type "code") .none (Data.fields #[(.str "NoWay" 257),(.str "NoWay" 258),(.str "/claim/cut.py" 259),(.int 13 0),(.int 0 0),(.int 0 0),(.int 0 0),(.int 0 0),(.ref 69),(.bool false),(.int 181 0),(.ref 70),.none,.none,.none,.none,(.int 260 0),(.int 13 0),(.str "/claim/cut.py" 261)]) #[]
def o66 (P : Params):=Obj.mk (.type "frame") .none Data.plain #[(Option.some (.ref 71)),(Option.some (.ref 3)),(Option.some (.ref 68)),.none,(Option.some (.str "beatless.errors" 194)),.none,(Option.some (.ref 0))]
def o67 (P : Params):=tO #[]
def o68:=Obj.mk (.type "dict") .none (Data.dict #[en P "__module__" 262 (.str "beatless.errors" 194),en P "__firstlineno__" 266 (.int 13 265),en P "__static_attributes__" 267 (.ref 73),en P "__doc__" 268 .none] 2) #[]
def o69 (P : Params):=Obj.mk (.type "type") .none (Data.cls (ClassData.mk "NoWay" [(.ref 31)] [(.ref 75),(.ref 31),(.type "ValueError"),(.type "Exception"),(.type "BaseException"),(.type "object")] 74 "NoWay" true [] [] false .none false)) #[(Option.some (.ref 66)),.none,(Option.some (.str "NoWay" 255)),(Option.some (.str "NoWay" 263)),(Option.some (.builtin "ValueError.__new__")),(Option.some (.bool true))]
def o70 (P : Params):=Obj.mk (.type "super") .none (Data.fields #[(.ref 75),(.ref 75),(.ref 75)]) #[]
def o71 (P : Params):=Obj.mk (.type "builtin_function_or_method") .none (Data.fields #[(.builtin "object.__init_subclass__"),(.ref 75)]) #[]
def t66:=BT.node (o65 P) .nil .nil
def t75:=BT.node (o69 P) .nil .nil
def t85:=BT.node (o67 P) .nil .nil
def t90:=BT.node (o63 P) .nil .nil
def t94:=BT.node (o71 P) .nil .nil
def t99:=BT.node (boot_o_5 P) (BT.node (boot_o_9 P) (BT.node (o8 P) (BT.node (o24 P) (BT.node (o59 P) .nil .nil) .nil) (BT.node (o43 P) .nil .nil)) (BT.node (o16 P) (BT.node (o32 P) (t85 P) .nil) (BT.node (o51 P) .nil .nil))) (BT.node (o2 P) (BT.node (o12 P) (BT.node (o28 P) (t90 P) .nil) (BT.node (o47 P) .nil .nil)) (BT.node (o20 P) (BT.node (o36 P) (t94 P) .nil) (BT.node (o55 P) .nil .nil)))
def t105:=BT.node (o66 P) .nil .nil
def t110:=BT.node (o62 P) .nil .nil
def t114:=BT.node (o70 P) .nil .nil
def t124:=BT.node (o68 P) .nil .nil
def t129:=BT.node (o64 P) .nil .nil
def t136:=BT.node (boot_o_6 P) (BT.node (boot_o_10 P) (BT.node (o9 P) (BT.node (o25 P) (BT.node (o60 P) .nil .nil) .nil) (BT.node (o44 P) .nil .nil)) (BT.node (o17 P) (BT.node (o33 P) (t124 P) .nil) (BT.node (o52 P) .nil .nil))) (BT.node (o3 P) (BT.node (o13 P) (BT.node (o29 P) (t129 P) .nil) (BT.node (o48 P) .nil .nil)) (BT.node (o21 P) (t56 P) (BT.node (o56 P) .nil .nil)))
def t137:=BT.node (boot_o_2 P) (BT.node (boot_o_4 P) (BT.node (boot_o_8 P) (BT.node (o7 P) (BT.node (o23 P) (BT.node (o58 P) .nil .nil) .nil) (BT.node (o42 P) .nil .nil)) (BT.node (o15 P) (BT.node (o31 P) (t105 P) .nil) (BT.node (o50 P) .nil .nil))) (BT.node (o39 P) (BT.node (o11 P) (BT.node (o27 P) (t110 P) .nil) (BT.node (o46 P) .nil .nil)) (BT.node (o19 P) (BT.node (o35 P) (t114 P) .nil) (BT.node (o54 P) .nil .nil)))) (t136 P)
def t138:=BT.node (boot_o_0 P) (BT.node (boot_o_1 P) (BT.node (o38 P) (BT.node (boot_o_7 P) (BT.node (o6 P) (BT.node (o40 P) (BT.node (o57 P) .nil .nil) .nil) (BT.node (o41 P) .nil .nil)) (BT.node (o14 P) (BT.node (o30 P) (t66 P) .nil) (BT.node (o49 P) .nil .nil))) (BT.node (o0 P) (BT.node (o10 P) (BT.node (o26 P) (BT.node (o61 P) .nil .nil) .nil) (BT.node (o45 P) .nil .nil)) (BT.node (o18 P) (BT.node (o34 P) (t75 P) .nil) (BT.node (o53 P) .nil .nil)))) (t99 P)) (t137 P)
def sb2 (w : World) (os : OsState) : SharedT:=⟨(t138 w.params),78,(Life.mk [] [] [] 0 [] [] false #[] [] 0 false false false 0 [2000,10,10] false 0 true [] [] 0 false),⟨[]⟩,(Drawn.mk 0 0 0 0),273,os⟩
def L1 (w : World) (os : OsState) : Option (Flow × SharedT × Code × Pos):=segRunT treeTable PySem.Challenge.pw_beatless_k11_texts_of_no_program w 11 an 1 468 (sb1 w os) (piecesOf sts1 env cE (Pos.mk 7 0 8 8) B)
def R1 (w : World) (os : OsState) : Option (Flow × SharedT × Code × Pos):=some (.next,sb2 w os,cE,(Pos.mk 15 0 15 8))
theorem q1 : tt (Hd.L1,Hd.R1) = true:=by k_qdec
theorem r1 : ∀ w,Fast.tw6387051279210280424 w = Fast.tw17943070361625844382 w:=fun w=>by kernel_rfl
theorem e1 (w : World) (os : OsState) : Hd.L1 w os = Hd.R1 w os :=
  (congrFun (congrFun Fast.te6387051279210280424 w) os).trans ((congrFun (r1 w) os).trans (congrFun (congrFun Fast.te17943070361625844382 w) os).symm)
def sts2 : List Stmt:=[S 7,S 8]
def o72:=Obj.mk (.type "dict") .none (Data.dict #[en P "__name__" 165 (.str "beatless.exprs" 271),en P "__doc__" 166 .none,en P "__package__" 167 .none,en P "__loader__" 168 (.builtin "__main__.__loader__#opaque"),en P "__spec__" 169 .none,en P "__annotations__" 170 (.ref 6),en P "__builtins__" 171 (.ref 4),en P "__file__" 173 (.str "/claim/cut.py" 172),en P "__cached__" 174 .none,en P "_wall" 193 (.ref 21),en P "BeatlessError" 213 (.ref 31),en P "NoProgram" 229 (.ref 44),en P "NoText" 254 (.ref 63),en P "NoWay" 270 (.ref 75),en P "Expr" 292 (.ref 87),en P "Num" 339 (.ref 129)] 16) #[]
def o73 (P : Params):=vO #[(.int 1 0),(.int 0 0),(.ref 20),(.int 5 0),(.int 0 0),(.ref 27),(.int 7 0),(.int 0 0),(.ref 40),(.int 9 0),(.int 0 0),(.ref 52),(.int 13 0),(.int 0 0),(.ref 71),(.int 16 0),(.int 0 0),(.ref 83),(.int 18 0),(.int 0 0),(.ref 97)]
def o74 (P : Params):=tO #[]
def o75 (P : Params):=Obj.mk (.type "builtin_function_or_method") .none (Data.fields #[(.builtin "type.__prepare__"),(.type "type")]) #[]
def o76:=Obj.mk (.type "dict") .none (Data.dict #[en P "__module__" 280 (.str "beatless.exprs" 271),en P "__qualname__" 282 (.str "Expr" 281),en P "__firstlineno__" 284 (.int 16 283),en P "__static_attributes__" 285 (.ref 85)] 4) #[]
def o77 (P : Params):=tO #[]
def o78 (P : Params):=vO #[]
def o79 (P : Params):=Obj.mk (.type "code") .none (Data.fields #[(.str "Expr" 275),(.str "Expr" 276),(.str "/claim/cut.py" 277),(.int 16 0),(.int 0 0),(.int 0 0),(.int 0 0),(.int 0 0),(.ref 81),(.bool false),(.int 181 0),(.ref 82),.none,.none,.none,.none,(.int 278 0),(.int 16 0),(.str "/claim/cut.py" 279)]) #[]
def o80 (P : Params):=Obj.mk (.type "frame") .none Data.plain #[(Option.some (.ref 83)),(Option.some (.ref 3)),(Option.some (.ref 80)),.none,(Option.some (.str "beatless.exprs" 271)),.none,(Option.some (.ref 0))]
def o81 (P : Params):=tO #[]
def o82:=Obj.mk (.type "dict") .none (Data.dict #[en P "__module__" 280 (.str "beatless.exprs" 271),en P "__firstlineno__" 284 (.int 16 283),en P "__static_attributes__" 285 (.ref 85),en P "__dict__" 287 (.ref 88),en P "__weakref__" 289 (.ref 89),en P "__doc__" 290 .none] 4) #[]
def o83 (P : Params):=Obj.mk (.type "type") .none (Data.cls (ClassData.mk "Expr" [(.type "object")] [(.ref 87),(.type "object")] 86 "Expr" true [] [(.ref 129)] false .none false)) #[.none,.none,(Option.some (.str "Expr" 273)),(Option.some (.str "Expr" 281)),(Option.some (.builtin "object.__new__")),(Option.some (.bool true))]
def o84 (P : Params):=Obj.mk (.type "getset_descriptor") .none (Data.fields #[(.str "__dict__" 286),(.ref 87),(.builtin "function.__dict__"),(.builtin "function.__dict__#set")]) #[]
def o85 (P : Params):=Obj.mk (.type "getset_descriptor") .none (Data.fields #[(.str "__weakref__" 288),(.ref 87),(.builtin "ExceptionGroup.__weakref__"),.none]) #[]
def o86 (P : Params):=Obj.mk (.type "super") .none (Data.fields #[(.ref 87),(.ref 87),(.ref 87)]) #[]
def o87 (P : Params):=Obj.mk (.type "builtin_function_or_method") .none (Data.fields #[(.builtin "object.__init_subclass__"),(.ref 87)]) #[]
def o88 (P : Params):=tO #[(.ref 87)]
def o89 (P : Params):=Obj.mk (.type "builtin_function_or_method") .none (Data.fields #[(.builtin "type.__prepare__"),(.type "type")]) #[]
def o90:=Obj.mk (.type "dict") .none (Data.dict #[en P "__module__" 300 (.str "beatless.exprs" 271),en P "__qualname__" 302 (.str "Num" 301),en P "__firstlineno__" 304 (.int 18 303),en P "__init__" 312 (.ref 105),en P "reckon" 320 (.ref 112),en P "told" 327 (.ref 119),en P "words" 334 (.ref 126),en P "__static_attributes__" 336 (.ref 127)] 8) #[]
def o91 (P : Params):=tO #[]
def o92 (P : Params):=vO #[(.int 20 0),(.int 4 0),(.ref 104),(.int 23 0),(.int 4 0),(.ref 111),(.int 26 0),(.int 4 0),(.ref 118),(.int 29 0),(.int 4 0),(.ref 125)]
def o93 (P : Params):=Obj.mk (.type "code") .none (Data.fields #[(.str "Num" 295),(.str "Num" 296),(.str "/claim/cut.py" 297),(.int 18 0),(.int 0 0),(.int 0 0),(.int 0 0),(.int 0 0),(.ref 95),(.bool false),(.int 181 0),(.ref 96),.none,.none,.none,.none,(.int 298 0),(.int 18 0),(.str "/claim/cut.py" 299)]) #[]
def o94 (P : Params):=Obj.mk (.type "frame") .none Data.plain #[(Option.some (.ref 97)),(Option.some (.ref 3)),(Option.some (.ref 94)),.none,(Option.some (.str "beatless.exprs" 271)),.none,(Option.some (.ref 0))]
def o95 (P : Params):=tO #[]
def o96 (P : Params):=vO #[]
def o97 (P : Params):=tO #[(.str "self" 308),(.str "value" 309)]
def o98 (P : Params):=tO #[]
def o99 (P : Params):=gO "__init__" "Num.__init__" (L2.inClass (S 8) 0)
def o100 (P : Params):=cO "__init__" "Num.__init__" 305 306 307 20 2 3 99 100 101 102 103 310 311
def o101 (P : Params):=uO "__init__" "Num.__init__" (L2.inClass (S 8) 0) "beatless.exprs" 271 104
def o102 (P : Params):=tO #[]
def o103 (P : Params):=vO #[]
def o104 (P : Params):=tO #[(.str "self" 316),(.str "worths" 317)]
def o105 (P : Params):=tO #[]
def o106 (P : Params):=gO "reckon" "Num.reckon" (L2.inClass (S 8) 1)
def o107 (P : Params):=cO "reckon" "Num.reckon" 313 314 315 23 2 3 106 107 108 109 110 318 319
def o108 (P : Params):=uO "reckon" "Num.reckon" (L2.inClass (S 8) 1) "beatless.exprs" 271 111
def o109 (P : Params):=tO #[]
def o110 (P : Params):=vO #[]
def o111 (P : Params):=tO #[(.str "self" 324)]
def o112 (P : Params):=tO #[]
def o113 (P : Params):=gO "told" "Num.told" (L2.inClass (S 8) 2)
def o114 (P : Params):=cO "told" "Num.told" 321 322 323 26 1 3 113 114 115 116 117 325 326
def o115 (P : Params):=uO "told" "Num.told" (L2.inClass (S 8) 2) "beatless.exprs" 271 118
def o116 (P : Params):=tO #[]
def o117 (P : Params):=vO #[]
def o118 (P : Params):=tO #[(.str "self" 331)]
def o119 (P : Params):=tO #[]
def o120 (P : Params):=gO "words" "Num.words" (L2.inClass (S 8) 3)
def o121 (P : Params):=cO "words" "Num.words" 328 329 330 29 1 3 120 121 122 123 124 332 333
def o122 (P : Params):=uO "words" "Num.words" (L2.inClass (S 8) 3) "beatless.exprs" 271 125
def o123 (P : Params):=tO #[(.str "value" 335)]
def o124:=Obj.mk (.type "dict") .none (Data.dict #[en P "__module__" 300 (.str "beatless.exprs" 271),en P "__firstlineno__" 304 (.int 18 303),en P "__init__" 312 (.ref 105),en P "reckon" 320 (.ref 112),en P "told" 327 (.ref 119),en P "words" 334 (.ref 126),en P "__static_attributes__" 336 (.ref 127),en P "__doc__" 337 .none] 2) #[]
def o125 (P : Params):=Obj.mk (.type "type") .none (Data.cls (ClassData.mk "Num" [(.ref 87)] [(.ref 129),(.ref 87),(.type "object")] 128 "Num" true [] [] false .none false)) #[(Option.some (.ref 92)),.none,(Option.some (.str "Num" 293)),(Option.some (.str "Num" 301)),(Option.some (.builtin "object.__new__")),(Option.some (.bool true))]
def o126 (P : Params):=Obj.mk (.type "super") .none (Data.fields #[(.ref 129),(.ref 129),(.ref 129)]) #[]
def o127 (P : Params):=Obj.mk (.type "builtin_function_or_method") .none (Data.fields #[(.builtin "object.__init_subclass__"),(.ref 129)]) #[]
def t139:=BT.node (o123 P) .nil .nil
def t140:=BT.node (o57 P) (t139 P) .nil
def t144:=BT.node (o107 P) .nil .nil
def t150:=BT.node (o115 P) .nil .nil
def t154:=BT.node (o127 P) .nil .nil
def t155:=BT.node (o61 P) (t154 P) .nil
def t159:=BT.node (o111 P) .nil .nil
def t165:=BT.node (o119 P) .nil .nil
def t170:=BT.node (o125 P) .nil .nil
def t171:=BT.node (o59 P) (t170 P) .nil
def t175:=BT.node (o109 P) .nil .nil
def t181:=BT.node (o117 P) .nil .nil
def t188:=BT.node (o113 P) .nil .nil
def t191:=BT.node (o105 P) .nil .nil
def t194:=BT.node (o121 P) .nil .nil
def t198:=BT.node (boot_o_5 P) (BT.node (boot_o_9 P) (BT.node (o8 P) (BT.node (o24 P) (t171 P) (BT.node (o93 P) .nil .nil)) (BT.node (o43 P) (BT.node (o77 P) .nil .nil) (t175 P))) (BT.node (o16 P) (BT.node (o32 P) (t85 P) (BT.node (o101 P) .nil .nil)) (BT.node (o51 P) (BT.node (o85 P) .nil .nil) (t181 P)))) (BT.node (o2 P) (BT.node (o12 P) (BT.node (o28 P) (t90 P) (BT.node (o97 P) .nil .nil)) (BT.node (o47 P) (BT.node (o81 P) .nil .nil) (t188 P))) (BT.node (o20 P) (BT.node (o36 P) (t94 P) (t191 P)) (BT.node (o55 P) (BT.node (o89 P) .nil .nil) (t194 P))))
def t199:=BT.node (boot_o_1 P) (BT.node (o72 P) (BT.node (boot_o_7 P) (BT.node (o6 P) (BT.node (o40 P) (t140 P) (BT.node (o91 P) .nil .nil)) (BT.node (o41 P) (BT.node (o75 P) .nil .nil) (t144 P))) (BT.node (o14 P) (BT.node (o30 P) (t66 P) (BT.node (o99 P) .nil .nil)) (BT.node (o49 P) (BT.node (o83 P) .nil .nil) (t150 P)))) (BT.node (o0 P) (BT.node (o10 P) (BT.node (o26 P) (t155 P) (BT.node (o95 P) .nil .nil)) (BT.node (o45 P) (BT.node (o79 P) .nil .nil) (t159 P))) (BT.node (o18 P) (BT.node (o34 P) (t75 P) (BT.node (o103 P) .nil .nil)) (BT.node (o53 P) (BT.node (o87 P) .nil .nil) (t165 P))))) (t198 P)
def t200:=BT.node (o124 P) .nil .nil
def t201:=BT.node (o58 P) (t200 P) .nil
def t205:=BT.node (o108 P) .nil .nil
def t211:=BT.node (o116 P) .nil .nil
def t218:=BT.node (o112 P) .nil .nil
def t221:=BT.node (o104 P) .nil .nil
def t224:=BT.node (o120 P) .nil .nil
def t229:=BT.node (o126 P) .nil .nil
def t230:=BT.node (o60 P) (t229 P) .nil
def t234:=BT.node (o110 P) .nil .nil
def t240:=BT.node (o118 P) .nil .nil
def t247:=BT.node (o114 P) .nil .nil
def t251:=BT.node (o106 P) .nil .nil
def t254:=BT.node (o122 P) .nil .nil
def t258:=BT.node (boot_o_6 P) (BT.node (boot_o_10 P) (BT.node (o9 P) (BT.node (o25 P) (t230 P) (BT.node (o94 P) .nil .nil)) (BT.node (o44 P) (BT.node (o78 P) .nil .nil) (t234 P))) (BT.node (o17 P) (BT.node (o33 P) (t124 P) (BT.node (o102 P) .nil .nil)) (BT.node (o52 P) (BT.node (o86 P) .nil .nil) (t240 P)))) (BT.node (o3 P) (BT.node (o13 P) (BT.node (o29 P) (t129 P) (BT.node (o98 P) .nil .nil)) (BT.node (o48 P) (BT.node (o82 P) .nil .nil) (t247 P))) (BT.node (o21 P) (BT.node (o37 P) (BT.node (o74 P) .nil .nil) (t251 P)) (BT.node (o56 P) (BT.node (o90 P) .nil .nil) (t254 P))))
def t260:=BT.node (boot_o_0 P) (t199 P) (BT.node (boot_o_2 P) (BT.node (boot_o_4 P) (BT.node (boot_o_8 P) (BT.node (o7 P) (BT.node (o23 P) (t201 P) (BT.node (o92 P) .nil .nil)) (BT.node (o42 P) (BT.node (o76 P) .nil .nil) (t205 P))) (BT.node (o15 P) (BT.node (o31 P) (t105 P) (BT.node (o100 P) .nil .nil)) (BT.node (o50 P) (BT.node (o84 P) .nil .nil) (t211 P)))) (BT.node (o73 P) (BT.node (o11 P) (BT.node (o27 P) (t110 P) (BT.node (o96 P) .nil .nil)) (BT.node (o46 P) (BT.node (o80 P) .nil .nil) (t218 P))) (BT.node (o19 P) (BT.node (o35 P) (t114 P) (t221 P)) (BT.node (o54 P) (BT.node (o88 P) .nil .nil) (t224 P))))) (t258 P))
def sb3 (w : World) (os : OsState) : SharedT:=⟨(t260 w.params),132,(Life.mk [] [] [] 0 [] [] false #[] [] 0 false false false 0 [2000,10,10] false 0 true [] [] 0 false),⟨[]⟩,(Drawn.mk 0 0 0 0),340,os⟩
def L2 (w : World) (os : OsState) : Option (Flow × SharedT × Code × Pos):=segRunT treeTable PySem.Challenge.pw_beatless_k11_texts_of_no_program w 11 an 1 530 (sb2 w os) (piecesOf sts2 env cE (Pos.mk 15 0 15 8) B)
def R2 (w : World) (os : OsState) : Option (Flow × SharedT × Code × Pos):=some (.next,sb3 w os,cE,(Pos.mk 18 0 30 32))
theorem q2 : tt (Hd.L2,Hd.R2) = true:=by k_qdec
theorem r2 : ∀ w,Fast.tw9171306275460833034 w = Fast.tw12913952840628719863 w:=fun w=>by kernel_rfl
theorem e2 (w : World) (os : OsState) : Hd.L2 w os = Hd.R2 w os :=
  (congrFun (congrFun Fast.te9171306275460833034 w) os).trans ((congrFun (r2 w) os).trans (congrFun (congrFun Fast.te12913952840628719863 w) os).symm)
def sts3 : List Stmt:=[S 9]
def o128:=Obj.mk (.type "dict") .none (Data.dict #[en P "__name__" 165 (.str "beatless.exprs" 271),en P "__doc__" 166 .none,en P "__package__" 167 .none,en P "__loader__" 168 (.builtin "__main__.__loader__#opaque"),en P "__spec__" 169 .none,en P "__annotations__" 170 (.ref 6),en P "__builtins__" 171 (.ref 4),en P "__file__" 173 (.str "/claim/cut.py" 172),en P "__cached__" 174 .none,en P "_wall" 193 (.ref 21),en P "BeatlessError" 213 (.ref 31),en P "NoProgram" 229 (.ref 44),en P "NoText" 254 (.ref 63),en P "NoWay" 270 (.ref 75),en P "Expr" 292 (.ref 87),en P "Num" 339 (.ref 129),en P "Name" 386 (.ref 169)] 17) #[]
def o129 (P : Params):=vO #[(.int 1 0),(.int 0 0),(.ref 20),(.int 5 0),(.int 0 0),(.ref 27),(.int 7 0),(.int 0 0),(.ref 40),(.int 9 0),(.int 0 0),(.ref 52),(.int 13 0),(.int 0 0),(.ref 71),(.int 16 0),(.int 0 0),(.ref 83),(.int 18 0),(.int 0 0),(.ref 97),(.int 31 0),(.int 0 0),(.ref 137)]
def o130 (P : Params):=Obj.mk (.type "type") .none (Data.cls (ClassData.mk "Expr" [(.type "object")] [(.ref 87),(.type "object")] 86 "Expr" true [] [(.ref 129),(.ref 169)] false .none false)) #[.none,.none,(Option.some (.str "Expr" 273)),(Option.some (.str "Expr" 281)),(Option.some (.builtin "object.__new__")),(Option.some (.bool true))]
def o131 (P : Params):=tO #[(.ref 87)]
def o132 (P : Params):=Obj.mk (.type "builtin_function_or_method") .none (Data.fields #[(.builtin "type.__prepare__"),(.type "type")]) #[]
def o133:=Obj.mk (.type "dict") .none (Data.dict #[en P "__module__" 347 (.str "beatless.exprs" 271),en P "__qualname__" 349 (.str "Name" 348),en P "__firstlineno__" 351 (.int 31 350),en P "__init__" 359 (.ref 145),en P "reckon" 367 (.ref 152),en P "told" 374 (.ref 159),en P "words" 381 (.ref 166),en P "__static_attributes__" 383 (.ref 167)] 8) #[]
def o134 (P : Params):=tO #[]
def o135 (P : Params):=vO #[(.int 33 0),(.int 4 0),(.ref 144),(.int 36 0),(.int 4 0),(.ref 151),(.int 39 0),(.int 4 0),(.ref 158),(.int 42 0),(.int 4 0),(.ref 165)]
def o136 (P : Params):=Obj.mk (.type "code") .none (Data.fields #[(.str "Name" 342),(.str "Name" 343),(.str "/claim/cut.py" 344),(.int 31 0),(.int 0 0),(.int 0 0),(.int 0 0),(.int 0 0),(.ref 135),(.bool false),(.int 181 0),(.ref 136),.none,.none,.none,.none,(.int 345 0),(.int 31 0),(.str "/claim/cut.py" 346)]) #[]
def o137 (P : Params):=Obj.mk (.type "frame") .none Data.plain #[(Option.some (.ref 137)),(Option.some (.ref 3)),(Option.some (.ref 134)),.none,(Option.some (.str "beatless.exprs" 271)),.none,(Option.some (.ref 0))]
def o138 (P : Params):=tO #[]
def o139 (P : Params):=vO #[]
def o140 (P : Params):=tO #[(.str "self" 355),(.str "word" 356)]
def o141 (P : Params):=tO #[]
def o142 (P : Params):=gO "__init__" "Name.__init__" (L2.inClass (S 9) 0)
def o143 (P : Params):=cO "__init__" "Name.__init__" 352 353 354 33 2 3 139 140 141 142 143 357 358
def o144 (P : Params):=uO "__init__" "Name.__init__" (L2.inClass (S 9) 0) "beatless.exprs" 271 144
def o145 (P : Params):=tO #[]
def o146 (P : Params):=vO #[]
def o147 (P : Params):=tO #[(.str "self" 363),(.str "worths" 364)]
def o148 (P : Params):=tO #[]
def o149 (P : Params):=gO "reckon" "Name.reckon" (L2.inClass (S 9) 1)
def o150 (P : Params):=cO "reckon" "Name.reckon" 360 361 362 36 2 3 146 147 148 149 150 365 366
def o151 (P : Params):=uO "reckon" "Name.reckon" (L2.inClass (S 9) 1) "beatless.exprs" 271 151
def o152 (P : Params):=tO #[]
def o153 (P : Params):=vO #[]
def o154 (P : Params):=tO #[(.str "self" 371)]
def o155 (P : Params):=tO #[]
def o156 (P : Params):=gO "told" "Name.told" (L2.inClass (S 9) 2)
def o157 (P : Params):=cO "told" "Name.told" 368 369 370 39 1 3 153 154 155 156 157 372 373
def o158 (P : Params):=uO "told" "Name.told" (L2.inClass (S 9) 2) "beatless.exprs" 271 158
def o159 (P : Params):=tO #[]
def o160 (P : Params):=vO #[]
def o161 (P : Params):=tO #[(.str "self" 378)]
def o162 (P : Params):=tO #[]
def o163 (P : Params):=gO "words" "Name.words" (L2.inClass (S 9) 3)
def o164 (P : Params):=cO "words" "Name.words" 375 376 377 42 1 3 160 161 162 163 164 379 380
def o165 (P : Params):=uO "words" "Name.words" (L2.inClass (S 9) 3) "beatless.exprs" 271 165
def o166 (P : Params):=tO #[(.str "word" 382)]
def o167:=Obj.mk (.type "dict") .none (Data.dict #[en P "__module__" 347 (.str "beatless.exprs" 271),en P "__firstlineno__" 351 (.int 31 350),en P "__init__" 359 (.ref 145),en P "reckon" 367 (.ref 152),en P "told" 374 (.ref 159),en P "words" 381 (.ref 166),en P "__static_attributes__" 383 (.ref 167),en P "__doc__" 384 .none] 2) #[]
def o168 (P : Params):=Obj.mk (.type "type") .none (Data.cls (ClassData.mk "Name" [(.ref 87)] [(.ref 169),(.ref 87),(.type "object")] 168 "Name" true [] [] false .none false)) #[(Option.some (.ref 132)),.none,(Option.some (.str "Name" 340)),(Option.some (.str "Name" 348)),(Option.some (.builtin "object.__new__")),(Option.some (.bool true))]
def o169 (P : Params):=Obj.mk (.type "super") .none (Data.fields #[(.ref 169),(.ref 169),(.ref 169)]) #[]
def o170 (P : Params):=Obj.mk (.type "builtin_function_or_method") .none (Data.fields #[(.builtin "object.__init_subclass__"),(.ref 169)]) #[]
def t261:=BT.node (o158 P) .nil .nil
def t262:=BT.node (o91 P) (t261 P) .nil
def t264:=BT.node (o142 P) .nil .nil
def t268:=BT.node (o134 P) .nil .nil
def t270:=BT.node (o166 P) .nil .nil
def t271:=BT.node (o99 P) (t270 P) .nil
def t273:=BT.node (o150 P) .nil .nil
def t278:=BT.node (o162 P) .nil .nil
def t279:=BT.node (o95 P) (t278 P) .nil
def t281:=BT.node (o146 P) .nil .nil
def t285:=BT.node (o138 P) .nil .nil
def t287:=BT.node (o170 P) .nil .nil
def t288:=BT.node (o103 P) (t287 P) .nil
def t290:=BT.node (o154 P) .nil .nil
def t291:=BT.node (o87 P) (t290 P) .nil
def t296:=BT.node (o160 P) .nil .nil
def t297:=BT.node (o93 P) (t296 P) .nil
def t299:=BT.node (o144 P) .nil .nil
def t303:=BT.node (o136 P) .nil .nil
def t305:=BT.node (o168 P) .nil .nil
def t306:=BT.node (o101 P) (t305 P) .nil
def t308:=BT.node (o152 P) .nil .nil
def t309:=BT.node (o85 P) (t308 P) .nil
def t313:=BT.node (o132 P) .nil .nil
def t315:=BT.node (o164 P) .nil .nil
def t316:=BT.node (o97 P) (t315 P) .nil
def t318:=BT.node (o148 P) .nil .nil
def t319:=BT.node (o81 P) (t318 P) .nil
def t322:=BT.node (o140 P) .nil .nil
def t325:=BT.node (o156 P) .nil .nil
def t326:=BT.node (o89 P) (t325 P) .nil
def t330:=BT.node (boot_o_5 P) (BT.node (boot_o_9 P) (BT.node (o8 P) (BT.node (o24 P) (t171 P) (t297 P)) (BT.node (o43 P) (BT.node (o77 P) (t299 P) .nil) (t175 P))) (BT.node (o16 P) (BT.node (o32 P) (BT.node (o67 P) (t303 P) .nil) (t306 P)) (BT.node (o51 P) (t309 P) (t181 P)))) (BT.node (o2 P) (BT.node (o12 P) (BT.node (o28 P) (BT.node (o63 P) (t313 P) .nil) (t316 P)) (BT.node (o47 P) (t319 P) (t188 P))) (BT.node (o20 P) (BT.node (o36 P) (BT.node (o71 P) (t322 P) .nil) (t191 P)) (BT.node (o55 P) (t326 P) (t194 P))))
def t332:=BT.node (o159 P) .nil .nil
def t333:=BT.node (o92 P) (t332 P) .nil
def t335:=BT.node (o143 P) .nil .nil
def t339:=BT.node (o135 P) .nil .nil
def t341:=BT.node (o167 P) .nil .nil
def t342:=BT.node (o100 P) (t341 P) .nil
def t344:=BT.node (o151 P) .nil .nil
def t345:=BT.node (o84 P) (t344 P) .nil
def t349:=BT.node (o131 P) .nil .nil
def t351:=BT.node (o163 P) .nil .nil
def t352:=BT.node (o96 P) (t351 P) .nil
def t354:=BT.node (o147 P) .nil .nil
def t355:=BT.node (o80 P) (t354 P) .nil
def t358:=BT.node (o139 P) .nil .nil
def t361:=BT.node (o155 P) .nil .nil
def t362:=BT.node (o88 P) (t361 P) .nil
def t367:=BT.node (o161 P) .nil .nil
def t368:=BT.node (o94 P) (t367 P) .nil
def t370:=BT.node (o145 P) .nil .nil
def t374:=BT.node (o137 P) .nil .nil
def t376:=BT.node (o169 P) .nil .nil
def t377:=BT.node (o102 P) (t376 P) .nil
def t379:=BT.node (o153 P) .nil .nil
def t380:=BT.node (o86 P) (t379 P) .nil
def t384:=BT.node (o133 P) .nil .nil
def t386:=BT.node (o165 P) .nil .nil
def t387:=BT.node (o98 P) (t386 P) .nil
def t389:=BT.node (o149 P) .nil .nil
def t390:=BT.node (o82 P) (t389 P) .nil
def t393:=BT.node (o141 P) .nil .nil
def t396:=BT.node (o157 P) .nil .nil
def t397:=BT.node (o90 P) (t396 P) .nil
def t401:=BT.node (boot_o_6 P) (BT.node (boot_o_10 P) (BT.node (o9 P) (BT.node (o25 P) (t230 P) (t368 P)) (BT.node (o44 P) (BT.node (o78 P) (t370 P) .nil) (t234 P))) (BT.node (o17 P) (BT.node (o33 P) (BT.node (o68 P) (t374 P) .nil) (t377 P)) (BT.node (o52 P) (t380 P) (t240 P)))) (BT.node (o3 P) (BT.node (o13 P) (BT.node (o29 P) (BT.node (o64 P) (t384 P) .nil) (t387 P)) (BT.node (o48 P) (t390 P) (t247 P))) (BT.node (o21 P) (BT.node (o37 P) (BT.node (o74 P) (t393 P) .nil) (t251 P)) (BT.node (o56 P) (t397 P) (t254 P))))
def t402:=BT.node (boot_o_2 P) (BT.node (boot_o_4 P) (BT.node (boot_o_8 P) (BT.node (o7 P) (BT.node (o23 P) (t201 P) (t333 P)) (BT.node (o42 P) (BT.node (o76 P) (t335 P) .nil) (t205 P))) (BT.node (o15 P) (BT.node (o31 P) (BT.node (o66 P) (t339 P) .nil) (t342 P)) (BT.node (o50 P) (t345 P) (t211 P)))) (BT.node (o129 P) (BT.node (o11 P) (BT.node (o27 P) (BT.node (o62 P) (t349 P) .nil) (t352 P)) (BT.node (o46 P) (t355 P) (t218 P))) (BT.node (o19 P) (BT.node (o35 P) (BT.node (o70 P) (t358 P) .nil) (t221 P)) (BT.node (o54 P) (t362 P) (t224 P))))) (t401 P)
def t403:=BT.node (boot_o_0 P) (BT.node (boot_o_1 P) (BT.node (o128 P) (BT.node (boot_o_7 P) (BT.node (o6 P) (BT.node (o40 P) (t140 P) (t262 P)) (BT.node (o41 P) (BT.node (o75 P) (t264 P) .nil) (t144 P))) (BT.node (o14 P) (BT.node (o30 P) (BT.node (o65 P) (t268 P) .nil) (t271 P)) (BT.node (o49 P) (BT.node (o130 P) (t273 P) .nil) (t150 P)))) (BT.node (o0 P) (BT.node (o10 P) (BT.node (o26 P) (t155 P) (t279 P)) (BT.node (o45 P) (BT.node (o79 P) (t281 P) .nil) (t159 P))) (BT.node (o18 P) (BT.node (o34 P) (BT.node (o69 P) (t285 P) .nil) (t288 P)) (BT.node (o53 P) (t291 P) (t165 P))))) (t330 P)) (t402 P)
def sb4 (w : World) (os : OsState) : SharedT:=⟨(t403 w.params),172,(Life.mk [] [] [] 0 [] [] false #[] [] 0 false false false 0 [2000,10,10] false 0 true [] [] 0 false),⟨[]⟩,(Drawn.mk 0 0 0 0),387,os⟩
def L3 (w : World) (os : OsState) : Option (Flow × SharedT × Code × Pos):=segRunT treeTable PySem.Challenge.pw_beatless_k11_texts_of_no_program w 11 an 1 340 (sb3 w os) (piecesOf sts3 env cE (Pos.mk 18 0 30 32) B)
def R3 (w : World) (os : OsState) : Option (Flow × SharedT × Code × Pos):=some (.next,sb4 w os,cE,(Pos.mk 31 0 43 26))
theorem q3 : tt (Hd.L3,Hd.R3) = true:=by k_qdec
theorem r3 : ∀ w,Fast.tw6196771281854559479 w = Fast.tw4539841377621278456 w:=fun w=>by kernel_rfl
theorem e3 (w : World) (os : OsState) : Hd.L3 w os = Hd.R3 w os :=
  (congrFun (congrFun Fast.te6196771281854559479 w) os).trans ((congrFun (r3 w) os).trans (congrFun (congrFun Fast.te4539841377621278456 w) os).symm)
def sts4 : List Stmt:=[S 10]
def o171:=Obj.mk (.type "dict") .none (Data.dict #[en P "__name__" 165 (.str "beatless.exprs" 271),en P "__doc__" 166 .none,en P "__package__" 167 .none,en P "__loader__" 168 (.builtin "__main__.__loader__#opaque"),en P "__spec__" 169 .none,en P "__annotations__" 170 (.ref 6),en P "__builtins__" 171 (.ref 4),en P "__file__" 173 (.str "/claim/cut.py" 172),en P "__cached__" 174 .none,en P "_wall" 193 (.ref 21),en P "BeatlessError" 213 (.ref 31),en P "NoProgram" 229 (.ref 44),en P "NoText" 254 (.ref 63),en P "NoWay" 270 (.ref 75),en P "Expr" 292 (.ref 87),en P "Num" 339 (.ref 129),en P "Name" 386 (.ref 169),en P "Two" 439 (.ref 209)] 18) #[]
def o172 (P : Params):=vO #[(.int 1 0),(.int 0 0),(.ref 20),(.int 5 0),(.int 0 0),(.ref 27),(.int 7 0),(.int 0 0),(.ref 40),(.int 9 0),(.int 0 0),(.ref 52),(.int 13 0),(.int 0 0),(.ref 71),(.int 16 0),(.int 0 0),(.ref 83),(.int 18 0),(.int 0 0),(.ref 97),(.int 31 0),(.int 0 0),(.ref 137),(.int 44 0),(.int 0 0),(.ref 177)]
def o173 (P : Params):=Obj.mk (.type "type") .none (Data.cls (ClassData.mk "Expr" [(.type "object")] [(.ref 87),(.type "object")] 86 "Expr" true [] [(.ref 129),(.ref 169),(.ref 209)] false .none false)) #[.none,.none,(Option.some (.str "Expr" 273)),(Option.some (.str "Expr" 281)),(Option.some (.builtin "object.__new__")),(Option.some (.bool true))]
def o174 (P : Params):=tO #[(.ref 87)]
def o175 (P : Params):=Obj.mk (.type "builtin_function_or_method") .none (Data.fields #[(.builtin "type.__prepare__"),(.type "type")]) #[]
def o176:=Obj.mk (.type "dict") .none (Data.dict #[en P "__module__" 394 (.str "beatless.exprs" 271),en P "__qualname__" 396 (.str "Two" 395),en P "__firstlineno__" 398 (.int 44 397),en P "__init__" 408 (.ref 185),en P "reckon" 418 (.ref 192),en P "told" 425 (.ref 199),en P "words" 432 (.ref 206),en P "__static_attributes__" 436 (.ref 207)] 8) #[]
def o177 (P : Params):=tO #[]
def o178 (P : Params):=vO #[(.int 46 0),(.int 4 0),(.ref 184),(.int 51 0),(.int 4 0),(.ref 191),(.int 62 0),(.int 4 0),(.ref 198),(.int 65 0),(.int 4 0),(.ref 205)]
def o179 (P : Params):=Obj.mk (.type "code") .none (Data.fields #[(.str "Two" 389),(.str "Two" 390),(.str "/claim/cut.py" 391),(.int 44 0),(.int 0 0),(.int 0 0),(.int 0 0),(.int 0 0),(.ref 175),(.bool false),(.int 181 0),(.ref 176),.none,.none,.none,.none,(.int 392 0),(.int 44 0),(.str "/claim/cut.py" 393)]) #[]
def o180 (P : Params):=Obj.mk (.type "frame") .none Data.plain #[(Option.some (.ref 177)),(Option.some (.ref 3)),(Option.some (.ref 174)),.none,(Option.some (.str "beatless.exprs" 271)),.none,(Option.some (.ref 0))]
def o181 (P : Params):=tO #[]
def o182 (P : Params):=vO #[]
def o183 (P : Params):=tO #[(.str "self" 402),(.str "word" 403),(.str "one" 404),(.str "other" 405)]
def o184 (P : Params):=tO #[]
def o185 (P : Params):=gO "__init__" "Two.__init__" (L2.inClass (S 10) 0)
def o186 (P : Params):=cO "__init__" "Two.__init__" 399 400 401 46 4 3 179 180 181 182 183 406 407
def o187 (P : Params):=uO "__init__" "Two.__init__" (L2.inClass (S 10) 0) "beatless.exprs" 271 184
def o188 (P : Params):=tO #[]
def o189 (P : Params):=vO #[]
def o190 (P : Params):=tO #[(.str "self" 412),(.str "worths" 413),(.str "one" 414),(.str "other" 415)]
def o191 (P : Params):=tO #[]
def o192 (P : Params):=gO "reckon" "Two.reckon" (L2.inClass (S 10) 1)
def o193 (P : Params):=cO "reckon" "Two.reckon" 409 410 411 51 2 3 186 187 188 189 190 416 417
def o194 (P : Params):=uO "reckon" "Two.reckon" (L2.inClass (S 10) 1) "beatless.exprs" 271 191
def o195 (P : Params):=tO #[]
def o196 (P : Params):=vO #[]
def o197 (P : Params):=tO #[(.str "self" 422)]
def o198 (P : Params):=tO #[]
def o199 (P : Params):=gO "told" "Two.told" (L2.inClass (S 10) 2)
def o200 (P : Params):=cO "told" "Two.told" 419 420 421 62 1 3 193 194 195 196 197 423 424
def o201 (P : Params):=uO "told" "Two.told" (L2.inClass (S 10) 2) "beatless.exprs" 271 198
def o202 (P : Params):=tO #[]
def o203 (P : Params):=vO #[]
def o204 (P : Params):=tO #[(.str "self" 429)]
def o205 (P : Params):=tO #[]
def o206 (P : Params):=gO "words" "Two.words" (L2.inClass (S 10) 3)
def o207 (P : Params):=cO "words" "Two.words" 426 427 428 65 1 3 200 201 202 203 204 430 431
def o208 (P : Params):=uO "words" "Two.words" (L2.inClass (S 10) 3) "beatless.exprs" 271 205
def o209 (P : Params):=tO #[(.str "one" 433),(.str "other" 434),(.str "word" 435)]
def o210:=Obj.mk (.type "dict") .none (Data.dict #[en P "__module__" 394 (.str "beatless.exprs" 271),en P "__firstlineno__" 398 (.int 44 397),en P "__init__" 408 (.ref 185),en P "reckon" 418 (.ref 192),en P "told" 425 (.ref 199),en P "words" 432 (.ref 206),en P "__static_attributes__" 436 (.ref 207),en P "__doc__" 437 .none] 2) #[]
def o211 (P : Params):=Obj.mk (.type "type") .none (Data.cls (ClassData.mk "Two" [(.ref 87)] [(.ref 209),(.ref 87),(.type "object")] 208 "Two" true [] [] false .none false)) #[(Option.some (.ref 172)),.none,(Option.some (.str "Two" 387)),(Option.some (.str "Two" 395)),(Option.some (.builtin "object.__new__")),(Option.some (.bool true))]
def o212 (P : Params):=Obj.mk (.type "super") .none (Data.fields #[(.ref 209),(.ref 209),(.ref 209)]) #[]
def o213 (P : Params):=Obj.mk (.type "builtin_function_or_method") .none (Data.fields #[(.builtin "object.__init_subclass__"),(.ref 209)]) #[]
def t404:=BT.node (o193 P) .nil .nil
def t405:=BT.node (o57 P) (t139 P) (t404 P)
def t407:=BT.node (o209 P) .nil .nil
def t408:=BT.node (o75 P) (t264 P) (t407 P)
def t409:=BT.node (o177 P) .nil .nil
def t413:=BT.node (o201 P) .nil .nil
def t414:=BT.node (o65 P) (t268 P) (t413 P)
def t417:=BT.node (o185 P) .nil .nil
def t422:=BT.node (o197 P) .nil .nil
def t423:=BT.node (o61 P) (t154 P) (t422 P)
def t425:=BT.node (o213 P) .nil .nil
def t426:=BT.node (o79 P) (t281 P) (t425 P)
def t427:=BT.node (o181 P) .nil .nil
def t431:=BT.node (o205 P) .nil .nil
def t432:=BT.node (o69 P) (t285 P) (t431 P)
def t434:=BT.node (o189 P) .nil .nil
def t440:=BT.node (o195 P) .nil .nil
def t441:=BT.node (o59 P) (t170 P) (t440 P)
def t443:=BT.node (o211 P) .nil .nil
def t444:=BT.node (o77 P) (t299 P) (t443 P)
def t445:=BT.node (o179 P) .nil .nil
def t449:=BT.node (o203 P) .nil .nil
def t450:=BT.node (o67 P) (t303 P) (t449 P)
def t452:=BT.node (o187 P) .nil .nil
def t457:=BT.node (o199 P) .nil .nil
def t458:=BT.node (o63 P) (t313 P) (t457 P)
def t460:=BT.node (o183 P) .nil .nil
def t464:=BT.node (o207 P) .nil .nil
def t465:=BT.node (o71 P) (t322 P) (t464 P)
def t466:=BT.node (o175 P) .nil .nil
def t469:=BT.node (o191 P) .nil .nil
def t470:=BT.node (o121 P) (t469 P) .nil
def t474:=BT.node (boot_o_5 P) (BT.node (boot_o_9 P) (BT.node (o8 P) (BT.node (o24 P) (t441 P) (t297 P)) (BT.node (o43 P) (t444 P) (BT.node (o109 P) (t445 P) .nil))) (BT.node (o16 P) (BT.node (o32 P) (t450 P) (t306 P)) (BT.node (o51 P) (t309 P) (BT.node (o117 P) (t452 P) .nil)))) (BT.node (o2 P) (BT.node (o12 P) (BT.node (o28 P) (t458 P) (t316 P)) (BT.node (o47 P) (t319 P) (BT.node (o113 P) (t460 P) .nil))) (BT.node (o20 P) (BT.node (o36 P) (t465 P) (BT.node (o105 P) (t466 P) .nil)) (BT.node (o55 P) (t326 P) (t470 P))))
def t476:=BT.node (o194 P) .nil .nil
def t477:=BT.node (o58 P) (t200 P) (t476 P)
def t479:=BT.node (o210 P) .nil .nil
def t480:=BT.node (o76 P) (t335 P) (t479 P)
def t481:=BT.node (o178 P) .nil .nil
def t485:=BT.node (o202 P) .nil .nil
def t486:=BT.node (o66 P) (t339 P) (t485 P)
def t488:=BT.node (o186 P) .nil .nil
def t493:=BT.node (o198 P) .nil .nil
def t494:=BT.node (o62 P) (t349 P) (t493 P)
def t496:=BT.node (o182 P) .nil .nil
def t500:=BT.node (o206 P) .nil .nil
def t501:=BT.node (o70 P) (t358 P) (t500 P)
def t502:=BT.node (o174 P) .nil .nil
def t505:=BT.node (o190 P) .nil .nil
def t506:=BT.node (o120 P) (t505 P) .nil
def t511:=BT.node (o196 P) .nil .nil
def t512:=BT.node (o60 P) (t229 P) (t511 P)
def t514:=BT.node (o212 P) .nil .nil
def t515:=BT.node (o78 P) (t370 P) (t514 P)
def t516:=BT.node (o180 P) .nil .nil
def t520:=BT.node (o204 P) .nil .nil
def t521:=BT.node (o68 P) (t374 P) (t520 P)
def t523:=BT.node (o188 P) .nil .nil
def t528:=BT.node (o200 P) .nil .nil
def t529:=BT.node (o64 P) (t384 P) (t528 P)
def t531:=BT.node (o184 P) .nil .nil
def t535:=BT.node (o208 P) .nil .nil
def t536:=BT.node (o74 P) (t393 P) (t535 P)
def t537:=BT.node (o176 P) .nil .nil
def t540:=BT.node (o192 P) .nil .nil
def t541:=BT.node (o122 P) (t540 P) .nil
def t545:=BT.node (boot_o_6 P) (BT.node (boot_o_10 P) (BT.node (o9 P) (BT.node (o25 P) (t512 P) (t368 P)) (BT.node (o44 P) (t515 P) (BT.node (o110 P) (t516 P) .nil))) (BT.node (o17 P) (BT.node (o33 P) (t521 P) (t377 P)) (BT.node (o52 P) (t380 P) (BT.node (o118 P) (t523 P) .nil)))) (BT.node (o3 P) (BT.node (o13 P) (BT.node (o29 P) (t529 P) (t387 P)) (BT.node (o48 P) (t390 P) (BT.node (o114 P) (t531 P) .nil))) (BT.node (o21 P) (BT.node (o37 P) (t536 P) (BT.node (o106 P) (t537 P) .nil)) (BT.node (o56 P) (t397 P) (t541 P))))
def t546:=BT.node (boot_o_2 P) (BT.node (boot_o_4 P) (BT.node (boot_o_8 P) (BT.node (o7 P) (BT.node (o23 P) (t477 P) (t333 P)) (BT.node (o42 P) (t480 P) (BT.node (o108 P) (t481 P) .nil))) (BT.node (o15 P) (BT.node (o31 P) (t486 P) (t342 P)) (BT.node (o50 P) (t345 P) (BT.node (o116 P) (t488 P) .nil)))) (BT.node (o172 P) (BT.node (o11 P) (BT.node (o27 P) (t494 P) (t352 P)) (BT.node (o46 P) (t355 P) (BT.node (o112 P) (t496 P) .nil))) (BT.node (o19 P) (BT.node (o35 P) (t501 P) (BT.node (o104 P) (t502 P) .nil)) (BT.node (o54 P) (t362 P) (t506 P))))) (t545 P)
def t547:=BT.node (boot_o_0 P) (BT.node (boot_o_1 P) (BT.node (o171 P) (BT.node (boot_o_7 P) (BT.node (o6 P) (BT.node (o40 P) (t405 P) (t262 P)) (BT.node (o41 P) (t408 P) (BT.node (o107 P) (t409 P) .nil))) (BT.node (o14 P) (BT.node (o30 P) (t414 P) (t271 P)) (BT.node (o49 P) (BT.node (o173 P) (t273 P) .nil) (BT.node (o115 P) (t417 P) .nil)))) (BT.node (o0 P) (BT.node (o10 P) (BT.node (o26 P) (t423 P) (t279 P)) (BT.node (o45 P) (t426 P) (BT.node (o111 P) (t427 P) .nil))) (BT.node (o18 P) (BT.node (o34 P) (t432 P) (t288 P)) (BT.node (o53 P) (t291 P) (BT.node (o119 P) (t434 P) .nil))))) (t474 P)) (t546 P)
def sb5 (w : World) (os : OsState) : SharedT:=⟨(t547 w.params),212,(Life.mk [] [] [] 0 [] [] false #[] [] 0 false false false 0 [2000,10,10] false 0 true [] [] 0 false),⟨[]⟩,(Drawn.mk 0 0 0 0),440,os⟩
def L4 (w : World) (os : OsState) : Option (Flow × SharedT × Code × Pos):=segRunT treeTable PySem.Challenge.pw_beatless_k11_texts_of_no_program w 11 an 1 346 (sb4 w os) (piecesOf sts4 env cE (Pos.mk 31 0 43 26) B)
def R4 (w : World) (os : OsState) : Option (Flow × SharedT × Code × Pos):=some (.next,sb5 w os,cE,(Pos.mk 44 0 66 66))
theorem q4 : tt (Hd.L4,Hd.R4) = true:=by k_qdec
theorem r4 : ∀ w,Fast.tw18063231807419426806 w = Fast.tw9930642381628883879 w:=fun w=>by kernel_rfl
theorem e4 (w : World) (os : OsState) : Hd.L4 w os = Hd.R4 w os :=
  (congrFun (congrFun Fast.te18063231807419426806 w) os).trans ((congrFun (r4 w) os).trans (congrFun (congrFun Fast.te9930642381628883879 w) os).symm)
def sts5 : List Stmt:=[S 11]
def o214:=Obj.mk (.type "dict") .none (Data.dict #[en P "__name__" 165 (.str "beatless.exprs" 271),en P "__doc__" 166 .none,en P "__package__" 167 .none,en P "__loader__" 168 (.builtin "__main__.__loader__#opaque"),en P "__spec__" 169 .none,en P "__annotations__" 170 (.ref 6),en P "__builtins__" 171 (.ref 4),en P "__file__" 173 (.str "/claim/cut.py" 172),en P "__cached__" 174 .none,en P "_wall" 193 (.ref 21),en P "BeatlessError" 213 (.ref 31),en P "NoProgram" 229 (.ref 44),en P "NoText" 254 (.ref 63),en P "NoWay" 270 (.ref 75),en P "Expr" 292 (.ref 87),en P "Num" 339 (.ref 129),en P "Name" 386 (.ref 169),en P "Two" 439 (.ref 209),en P "Mod" 488 (.ref 249)] 19) #[]
def o215 (P : Params):=vO #[(.int 1 0),(.int 0 0),(.ref 20),(.int 5 0),(.int 0 0),(.ref 27),(.int 7 0),(.int 0 0),(.ref 40),(.int 9 0),(.int 0 0),(.ref 52),(.int 13 0),(.int 0 0),(.ref 71),(.int 16 0),(.int 0 0),(.ref 83),(.int 18 0),(.int 0 0),(.ref 97),(.int 31 0),(.int 0 0),(.ref 137),(.int 44 0),(.int 0 0),(.ref 177),(.int 67 0),(.int 0 0),(.ref 217)]
def o216 (P : Params):=Obj.mk (.type "type") .none (Data.cls (ClassData.mk "Expr" [(.type "object")] [(.ref 87),(.type "object")] 86 "Expr" true [] [(.ref 129),(.ref 169),(.ref 209),(.ref 249)] false .none false)) #[.none,.none,(Option.some (.str "Expr" 273)),(Option.some (.str "Expr" 281)),(Option.some (.builtin "object.__new__")),(Option.some (.bool true))]
def o217 (P : Params):=tO #[(.ref 87)]
def o218 (P : Params):=Obj.mk (.type "builtin_function_or_method") .none (Data.fields #[(.builtin "type.__prepare__"),(.type "type")]) #[]
def o219:=Obj.mk (.type "dict") .none (Data.dict #[en P "__module__" 447 (.str "beatless.exprs" 271),en P "__qualname__" 449 (.str "Mod" 448),en P "__firstlineno__" 451 (.int 67 450),en P "__init__" 460 (.ref 225),en P "reckon" 468 (.ref 232),en P "told" 475 (.ref 239),en P "words" 482 (.ref 246),en P "__static_attributes__" 485 (.ref 247)] 8) #[]
def o220 (P : Params):=tO #[]
def o221 (P : Params):=vO #[(.int 69 0),(.int 4 0),(.ref 224),(.int 73 0),(.int 4 0),(.ref 231),(.int 76 0),(.int 4 0),(.ref 238),(.int 79 0),(.int 4 0),(.ref 245)]
def o222 (P : Params):=Obj.mk (.type "code") .none (Data.fields #[(.str "Mod" 442),(.str "Mod" 443),(.str "/claim/cut.py" 444),(.int 67 0),(.int 0 0),(.int 0 0),(.int 0 0),(.int 0 0),(.ref 215),(.bool false),(.int 181 0),(.ref 216),.none,.none,.none,.none,(.int 445 0),(.int 67 0),(.str "/claim/cut.py" 446)]) #[]
def o223 (P : Params):=Obj.mk (.type "frame") .none Data.plain #[(Option.some (.ref 217)),(Option.some (.ref 3)),(Option.some (.ref 214)),.none,(Option.some (.str "beatless.exprs" 271)),.none,(Option.some (.ref 0))]
def o224 (P : Params):=tO #[]
def o225 (P : Params):=vO #[]
def o226 (P : Params):=tO #[(.str "self" 455),(.str "inner" 456),(.str "number" 457)]
def o227 (P : Params):=tO #[]
def o228 (P : Params):=gO "__init__" "Mod.__init__" (L2.inClass (S 11) 0)
def o229 (P : Params):=cO "__init__" "Mod.__init__" 452 453 454 69 3 3 219 220 221 222 223 458 459
def o230 (P : Params):=uO "__init__" "Mod.__init__" (L2.inClass (S 11) 0) "beatless.exprs" 271 224
def o231 (P : Params):=tO #[]
def o232 (P : Params):=vO #[]
def o233 (P : Params):=tO #[(.str "self" 464),(.str "worths" 465)]
def o234 (P : Params):=tO #[]
def o235 (P : Params):=gO "reckon" "Mod.reckon" (L2.inClass (S 11) 1)
def o236 (P : Params):=cO "reckon" "Mod.reckon" 461 462 463 73 2 3 226 227 228 229 230 466 467
def o237 (P : Params):=uO "reckon" "Mod.reckon" (L2.inClass (S 11) 1) "beatless.exprs" 271 231
def o238 (P : Params):=tO #[]
def o239 (P : Params):=vO #[]
def o240 (P : Params):=tO #[(.str "self" 472)]
def o241 (P : Params):=tO #[]
def o242 (P : Params):=gO "told" "Mod.told" (L2.inClass (S 11) 2)
def o243 (P : Params):=cO "told" "Mod.told" 469 470 471 76 1 3 233 234 235 236 237 473 474
def o244 (P : Params):=uO "told" "Mod.told" (L2.inClass (S 11) 2) "beatless.exprs" 271 238
def o245 (P : Params):=tO #[]
def o246 (P : Params):=vO #[]
def o247 (P : Params):=tO #[(.str "self" 479)]
def o248 (P : Params):=tO #[]
def o249 (P : Params):=gO "words" "Mod.words" (L2.inClass (S 11) 3)
def o250 (P : Params):=cO "words" "Mod.words" 476 477 478 79 1 3 240 241 242 243 244 480 481
def o251 (P : Params):=uO "words" "Mod.words" (L2.inClass (S 11) 3) "beatless.exprs" 271 245
def o252 (P : Params):=tO #[(.str "inner" 483),(.str "number" 484)]
def o253:=Obj.mk (.type "dict") .none (Data.dict #[en P "__module__" 447 (.str "beatless.exprs" 271),en P "__firstlineno__" 451 (.int 67 450),en P "__init__" 460 (.ref 225),en P "reckon" 468 (.ref 232),en P "told" 475 (.ref 239),en P "words" 482 (.ref 246),en P "__static_attributes__" 485 (.ref 247),en P "__doc__" 486 .none] 2) #[]
def o254 (P : Params):=Obj.mk (.type "type") .none (Data.cls (ClassData.mk "Mod" [(.ref 87)] [(.ref 249),(.ref 87),(.type "object")] 248 "Mod" true [] [] false .none false)) #[(Option.some (.ref 212)),.none,(Option.some (.str "Mod" 440)),(Option.some (.str "Mod" 448)),(Option.some (.builtin "object.__new__")),(Option.some (.bool true))]
def o255 (P : Params):=Obj.mk (.type "super") .none (Data.fields #[(.ref 249),(.ref 249),(.ref 249)]) #[]
def o256 (P : Params):=Obj.mk (.type "builtin_function_or_method") .none (Data.fields #[(.builtin "object.__init_subclass__"),(.ref 249)]) #[]
def t548:=BT.node (o228 P) .nil .nil
def t551:=BT.node (o244 P) .nil .nil
def t555:=BT.node (o236 P) .nil .nil
def t558:=BT.node (o220 P) .nil .nil
def t561:=BT.node (o115 P) (t417 P) (BT.node (o252 P) .nil .nil)
def t565:=BT.node (o232 P) .nil .nil
def t569:=BT.node (o111 P) (t427 P) (BT.node (o248 P) .nil .nil)
def t572:=BT.node (o240 P) .nil .nil
def t575:=BT.node (o224 P) .nil .nil
def t578:=BT.node (o119 P) (t434 P) (BT.node (o256 P) .nil .nil)
def t583:=BT.node (o230 P) .nil .nil
def t586:=BT.node (o246 P) .nil .nil
def t587:=BT.node (o109 P) (t445 P) (t586 P)
def t590:=BT.node (o238 P) .nil .nil
def t593:=BT.node (o222 P) .nil .nil
def t596:=BT.node (o117 P) (t452 P) (BT.node (o254 P) .nil .nil)
def t600:=BT.node (o234 P) .nil .nil
def t603:=BT.node (o218 P) .nil .nil
def t606:=BT.node (o113 P) (t460 P) (BT.node (o250 P) .nil .nil)
def t609:=BT.node (o242 P) .nil .nil
def t612:=BT.node (o226 P) .nil .nil
def t617:=BT.node (boot_o_5 P) (BT.node (boot_o_9 P) (BT.node (o8 P) (BT.node (o24 P) (t441 P) (BT.node (o93 P) (t296 P) (t583 P))) (BT.node (o43 P) (t444 P) (t587 P))) (BT.node (o16 P) (BT.node (o32 P) (t450 P) (BT.node (o101 P) (t305 P) (t590 P))) (BT.node (o51 P) (BT.node (o85 P) (t308 P) (t593 P)) (t596 P)))) (BT.node (o2 P) (BT.node (o12 P) (BT.node (o28 P) (t458 P) (BT.node (o97 P) (t315 P) (t600 P))) (BT.node (o47 P) (BT.node (o81 P) (t318 P) (t603 P)) (t606 P))) (BT.node (o20 P) (BT.node (o36 P) (t465 P) (BT.node (o105 P) (t466 P) (t609 P))) (BT.node (o55 P) (BT.node (o89 P) (t325 P) (t612 P)) (t470 P))))
def t619:=BT.node (o229 P) .nil .nil
def t622:=BT.node (o245 P) .nil .nil
def t626:=BT.node (o237 P) .nil .nil
def t629:=BT.node (o221 P) .nil .nil
def t632:=BT.node (o116 P) (t488 P) (BT.node (o253 P) .nil .nil)
def t636:=BT.node (o233 P) .nil .nil
def t639:=BT.node (o217 P) .nil .nil
def t642:=BT.node (o112 P) (t496 P) (BT.node (o249 P) .nil .nil)
def t645:=BT.node (o241 P) .nil .nil
def t648:=BT.node (o225 P) .nil .nil
def t654:=BT.node (o231 P) .nil .nil
def t658:=BT.node (o110 P) (t516 P) (BT.node (o247 P) .nil .nil)
def t661:=BT.node (o239 P) .nil .nil
def t664:=BT.node (o223 P) .nil .nil
def t667:=BT.node (o118 P) (t523 P) (BT.node (o255 P) .nil .nil)
def t671:=BT.node (o235 P) .nil .nil
def t674:=BT.node (o219 P) .nil .nil
def t677:=BT.node (o114 P) (t531 P) (BT.node (o251 P) .nil .nil)
def t680:=BT.node (o243 P) .nil .nil
def t683:=BT.node (o227 P) .nil .nil
def t688:=BT.node (boot_o_6 P) (BT.node (boot_o_10 P) (BT.node (o9 P) (BT.node (o25 P) (t512 P) (BT.node (o94 P) (t367 P) (t654 P))) (BT.node (o44 P) (t515 P) (t658 P))) (BT.node (o17 P) (BT.node (o33 P) (t521 P) (BT.node (o102 P) (t376 P) (t661 P))) (BT.node (o52 P) (BT.node (o86 P) (t379 P) (t664 P)) (t667 P)))) (BT.node (o3 P) (BT.node (o13 P) (BT.node (o29 P) (t529 P) (BT.node (o98 P) (t386 P) (t671 P))) (BT.node (o48 P) (BT.node (o82 P) (t389 P) (t674 P)) (t677 P))) (BT.node (o21 P) (BT.node (o37 P) (t536 P) (BT.node (o106 P) (t537 P) (t680 P))) (BT.node (o56 P) (BT.node (o90 P) (t396 P) (t683 P)) (t541 P))))
def t689:=BT.node (boot_o_2 P) (BT.node (boot_o_4 P) (BT.node (boot_o_8 P) (BT.node (o7 P) (BT.node (o23 P) (t477 P) (BT.node (o92 P) (t332 P) (t619 P))) (BT.node (o42 P) (t480 P) (BT.node (o108 P) (t481 P) (t622 P)))) (BT.node (o15 P) (BT.node (o31 P) (t486 P) (BT.node (o100 P) (t341 P) (t626 P))) (BT.node (o50 P) (BT.node (o84 P) (t344 P) (t629 P)) (t632 P)))) (BT.node (o215 P) (BT.node (o11 P) (BT.node (o27 P) (t494 P) (BT.node (o96 P) (t351 P) (t636 P))) (BT.node (o46 P) (BT.node (o80 P) (t354 P) (t639 P)) (t642 P))) (BT.node (o19 P) (BT.node (o35 P) (t501 P) (BT.node (o104 P) (t502 P) (t645 P))) (BT.node (o54 P) (BT.node (o88 P) (t361 P) (t648 P)) (t506 P))))) (t688 P)
def t690:=BT.node (boot_o_0 P) (BT.node (boot_o_1 P) (BT.node (o214 P) (BT.node (boot_o_7 P) (BT.node (o6 P) (BT.node (o40 P) (t405 P) (BT.node (o91 P) (t261 P) (t548 P))) (BT.node (o41 P) (t408 P) (BT.node (o107 P) (t409 P) (t551 P)))) (BT.node (o14 P) (BT.node (o30 P) (t414 P) (BT.node (o99 P) (t270 P) (t555 P))) (BT.node (o49 P) (BT.node (o216 P) (t273 P) (t558 P)) (t561 P)))) (BT.node (o0 P) (BT.node (o10 P) (BT.node (o26 P) (t423 P) (BT.node (o95 P) (t278 P) (t565 P))) (BT.node (o45 P) (t426 P) (t569 P))) (BT.node (o18 P) (BT.node (o34 P) (t432 P) (BT.node (o103 P) (t287 P) (t572 P))) (BT.node (o53 P) (BT.node (o87 P) (t290 P) (t575 P)) (t578 P))))) (t617 P)) (t689 P)
def sb6 (w : World) (os : OsState) : SharedT:=⟨(t690 w.params),252,(Life.mk [] [] [] 0 [] [] false #[] [] 0 false false false 0 [2000,10,10] false 0 true [] [] 0 false),⟨[]⟩,(Drawn.mk 0 0 0 0),489,os⟩
def L5 (w : World) (os : OsState) : Option (Flow × SharedT × Code × Pos):=segRunT treeTable PySem.Challenge.pw_beatless_k11_texts_of_no_program w 11 an 1 342 (sb5 w os) (piecesOf sts5 env cE (Pos.mk 44 0 66 66) B)
def R5 (w : World) (os : OsState) : Option (Flow × SharedT × Code × Pos):=some (.next,sb6 w os,cE,(Pos.mk 67 0 80 64))
theorem q5 : tt (Hd.L5,Hd.R5) = true:=by k_qdec
theorem r5 : ∀ w,Fast.tw7289443652863241282 w = Fast.tw2540258914238199871 w:=fun w=>by kernel_rfl
theorem e5 (w : World) (os : OsState) : Hd.L5 w os = Hd.R5 w os :=
  (congrFun (congrFun Fast.te7289443652863241282 w) os).trans ((congrFun (r5 w) os).trans (congrFun (congrFun Fast.te2540258914238199871 w) os).symm)
def sts6 : List Stmt:=[S 12,S 13,S 14,S 15,S 16,S 17,S 18,S 19,S 20,S 21]
def o257:=Obj.mk (.type "dict") .none (Data.dict #[en P "__name__" 165 (.str "beatless.programs" 551),en P "__doc__" 166 .none,en P "__package__" 167 .none,en P "__loader__" 168 (.builtin "__main__.__loader__#opaque"),en P "__spec__" 169 .none,en P "__annotations__" 170 (.ref 6),en P "__builtins__" 171 (.ref 4),en P "__file__" 173 (.str "/claim/cut.py" 172),en P "__cached__" 174 .none,en P "_wall" 193 (.ref 21),en P "BeatlessError" 213 (.ref 31),en P "NoProgram" 229 (.ref 44),en P "NoText" 254 (.ref 63),en P "NoWay" 270 (.ref 75),en P "Expr" 292 (.ref 87),en P "Num" 339 (.ref 129),en P "Name" 386 (.ref 169),en P "Two" 439 (.ref 209),en P "Mod" 488 (.ref 249),en P "Less" 541 (.ref 289),en P "is_whole" 550 (.ref 298),en P "START_NAMES" 555 (.ref 299),en P "SEND_NAMES" 561 (.ref 300),en P "RENEW_NAMES" 570 (.ref 301),en P "ALL_NAMES" 580 (.ref 302),en P "TWO_WORDS" 585 (.ref 303),en P "ROW_WORDS" 590 (.ref 304)] 27) #[]
def o258 (P : Params):=vO #[(.int 1 0),(.int 0 0),(.ref 20),(.int 5 0),(.int 0 0),(.ref 27),(.int 7 0),(.int 0 0),(.ref 40),(.int 9 0),(.int 0 0),(.ref 52),(.int 13 0),(.int 0 0),(.ref 71),(.int 16 0),(.int 0 0),(.ref 83),(.int 18 0),(.int 0 0),(.ref 97),(.int 31 0),(.int 0 0),(.ref 137),(.int 44 0),(.int 0 0),(.ref 177),(.int 67 0),(.int 0 0),(.ref 217),(.int 81 0),(.int 0 0),(.ref 257),(.int 100 0),(.int 0 0),(.ref 297)]
def o259 (P : Params):=Obj.mk (.type "type") .none (Data.cls (ClassData.mk "Expr" [(.type "object")] [(.ref 87),(.type "object")] 86 "Expr" true [] [(.ref 129),(.ref 169),(.ref 209),(.ref 249),(.ref 289)] false .none false)) #[.none,.none,(Option.some (.str "Expr" 273)),(Option.some (.str "Expr" 281)),(Option.some (.builtin "object.__new__")),(Option.some (.bool true))]
def o260 (P : Params):=tO #[(.ref 87)]
def o261 (P : Params):=Obj.mk (.type "builtin_function_or_method") .none (Data.fields #[(.builtin "type.__prepare__"),(.type "type")]) #[]
def o262:=Obj.mk (.type "dict") .none (Data.dict #[en P "__module__" 496 (.str "beatless.exprs" 271),en P "__qualname__" 498 (.str "Less" 497),en P "__firstlineno__" 500 (.int 81 499),en P "__init__" 511 (.ref 265),en P "reckon" 519 (.ref 272),en P "told" 526 (.ref 279),en P "words" 533 (.ref 286),en P "__static_attributes__" 538 (.ref 287)] 8) #[]
def o263 (P : Params):=tO #[]
def o264 (P : Params):=vO #[(.int 83 0),(.int 4 0),(.ref 264),(.int 89 0),(.int 4 0),(.ref 271),(.int 94 0),(.int 4 0),(.ref 278),(.int 97 0),(.int 4 0),(.ref 285)]
def o265 (P : Params):=Obj.mk (.type "code") .none (Data.fields #[(.str "Less" 491),(.str "Less" 492),(.str "/claim/cut.py" 493),(.int 81 0),(.int 0 0),(.int 0 0),(.int 0 0),(.int 0 0),(.ref 255),(.bool false),(.int 181 0),(.ref 256),.none,.none,.none,.none,(.int 494 0),(.int 81 0),(.str "/claim/cut.py" 495)]) #[]
def o266 (P : Params):=Obj.mk (.type "frame") .none Data.plain #[(Option.some (.ref 257)),(Option.some (.ref 3)),(Option.some (.ref 254)),.none,(Option.some (.str "beatless.exprs" 271)),.none,(Option.some (.ref 0))]
def o267 (P : Params):=tO #[]
def o268 (P : Params):=vO #[]
def o269 (P : Params):=tO #[(.str "self" 504),(.str "one" 505),(.str "other" 506),(.str "third" 507),(.str "fourth" 508)]
def o270 (P : Params):=tO #[]
def o271 (P : Params):=gO "__init__" "Less.__init__" (L2.inClass (S 12) 0)
def o272 (P : Params):=cO "__init__" "Less.__init__" 501 502 503 83 5 3 259 260 261 262 263 509 510
def o273 (P : Params):=uO "__init__" "Less.__init__" (L2.inClass (S 12) 0) "beatless.exprs" 271 264
def o274 (P : Params):=tO #[]
def o275 (P : Params):=vO #[]
def o276 (P : Params):=tO #[(.str "self" 515),(.str "worths" 516)]
def o277 (P : Params):=tO #[]
def o278 (P : Params):=gO "reckon" "Less.reckon" (L2.inClass (S 12) 1)
def o279 (P : Params):=cO "reckon" "Less.reckon" 512 513 514 89 2 3 266 267 268 269 270 517 518
def o280 (P : Params):=uO "reckon" "Less.reckon" (L2.inClass (S 12) 1) "beatless.exprs" 271 271
def o281 (P : Params):=tO #[]
def o282 (P : Params):=vO #[]
def o283 (P : Params):=tO #[(.str "self" 523)]
def o284 (P : Params):=tO #[]
def o285 (P : Params):=gO "told" "Less.told" (L2.inClass (S 12) 2)
def o286 (P : Params):=cO "told" "Less.told" 520 521 522 94 1 3 273 274 275 276 277 524 525
def o287 (P : Params):=uO "told" "Less.told" (L2.inClass (S 12) 2) "beatless.exprs" 271 278
def o288 (P : Params):=tO #[]
def o289 (P : Params):=vO #[]
def o290 (P : Params):=tO #[(.str "self" 530)]
def o291 (P : Params):=tO #[]
def o292 (P : Params):=gO "words" "Less.words" (L2.inClass (S 12) 3)
def o293 (P : Params):=cO "words" "Less.words" 527 528 529 97 1 3 280 281 282 283 284 531 532
def o294 (P : Params):=uO "words" "Less.words" (L2.inClass (S 12) 3) "beatless.exprs" 271 285
def o295 (P : Params):=tO #[(.str "fourth" 534),(.str "one" 535),(.str "other" 536),(.str "third" 537)]
def o296:=Obj.mk (.type "dict") .none (Data.dict #[en P "__module__" 496 (.str "beatless.exprs" 271),en P "__firstlineno__" 500 (.int 81 499),en P "__init__" 511 (.ref 265),en P "reckon" 519 (.ref 272),en P "told" 526 (.ref 279),en P "words" 533 (.ref 286),en P "__static_attributes__" 538 (.ref 287),en P "__doc__" 539 .none] 2) #[]
def o297 (P : Params):=Obj.mk (.type "type") .none (Data.cls (ClassData.mk "Less" [(.ref 87)] [(.ref 289),(.ref 87),(.type "object")] 288 "Less" true [] [] false .none false)) #[(Option.some (.ref 252)),.none,(Option.some (.str "Less" 489)),(Option.some (.str "Less" 497)),(Option.some (.builtin "object.__new__")),(Option.some (.bool true))]
def o298 (P : Params):=Obj.mk (.type "super") .none (Data.fields #[(.ref 289),(.ref 289),(.ref 289)]) #[]
def o299 (P : Params):=Obj.mk (.type "builtin_function_or_method") .none (Data.fields #[(.builtin "object.__init_subclass__"),(.ref 289)]) #[]
def o300 (P : Params):=tO #[]
def o301 (P : Params):=vO #[]
def o302 (P : Params):=tO #[(.str "value" 547)]
def o303 (P : Params):=tO #[]
def o304 (P : Params):=gO "is_whole" "is_whole" (S 14)
def o305 (P : Params):=cO "is_whole" "is_whole" 544 545 546 100 1 3 292 293 294 295 296 548 549
def o306 (P : Params):=uO "is_whole" "is_whole" (S 14) "beatless.wholes" 542 297
def o307 (P : Params):=tO #[(.str "me" 553),(.str "lines" 554)]
def o308 (P : Params):=tO #[(.str "worth" 556),(.str "me" 557),(.str "round" 558),(.str "lines" 559),(.str "to" 560)]
def o309 (P : Params):=tO #[(.str "worth" 562),(.str "me" 563),(.str "round" 564),(.str "lines" 565),(.str "sum" 566),(.str "least" 567),(.str "most" 568),(.str "count" 569)]
def o310 (P : Params):=tO #[(.str "worth" 571),(.str "me" 572),(.str "round" 573),(.str "lines" 574),(.str "to" 575),(.str "sum" 576),(.str "least" 577),(.str "most" 578),(.str "count" 579)]
def o311 (P : Params):=tO #[(.str "add" 581),(.str "sub" 582),(.str "min" 583),(.str "max" 584)]
def o312 (P : Params):=tO #[(.str "start" 586),(.str "send" 587),(.str "when" 588),(.str "reckon" 589)]
def t691:=BT.node (o263 P) .nil .nil
def t694:=BT.node (o295 P) .nil .nil
def t695:=BT.node (o158 P) (t694 P) .nil
def t698:=BT.node (o279 P) .nil .nil
def t701:=BT.node (o311 P) .nil .nil
def t702:=BT.node (o177 P) (t701 P) .nil
def t706:=BT.node (o271 P) .nil .nil
def t709:=BT.node (o303 P) .nil .nil
def t710:=BT.node (o166 P) (t709 P) .nil
def t713:=BT.node (o287 P) .nil .nil
def t714:=BT.node (o150 P) (t713 P) .nil
def t718:=BT.node (boot_o_7 P) (BT.node (o6 P) (BT.node (o40 P) (BT.node (o57 P) (BT.node (o123 P) (t691 P) .nil) (t404 P)) (BT.node (o91 P) (t695 P) (t548 P))) (BT.node (o41 P) (BT.node (o75 P) (BT.node (o142 P) (t698 P) .nil) (t407 P)) (BT.node (o107 P) (t702 P) (t551 P)))) (BT.node (o14 P) (BT.node (o30 P) (BT.node (o65 P) (BT.node (o134 P) (t706 P) .nil) (t413 P)) (BT.node (o99 P) (t710 P) (t555 P))) (BT.node (o49 P) (BT.node (o259 P) (t714 P) (t558 P)) (t561 P)))
def t719:=BT.node (o267 P) .nil .nil
def t722:=BT.node (o299 P) .nil .nil
def t723:=BT.node (o162 P) (t722 P) .nil
def t726:=BT.node (o283 P) .nil .nil
def t727:=BT.node (o146 P) (t726 P) .nil
def t731:=BT.node (o275 P) .nil .nil
def t734:=BT.node (o307 P) .nil .nil
def t735:=BT.node (o170 P) (t734 P) .nil
def t738:=BT.node (o291 P) .nil .nil
def t739:=BT.node (o154 P) (t738 P) .nil
def t743:=BT.node (o0 P) (BT.node (o10 P) (BT.node (o26 P) (BT.node (o61 P) (BT.node (o127 P) (t719 P) .nil) (t422 P)) (BT.node (o95 P) (t723 P) (t565 P))) (BT.node (o45 P) (BT.node (o79 P) (t727 P) (t425 P)) (t569 P))) (BT.node (o18 P) (BT.node (o34 P) (BT.node (o69 P) (BT.node (o138 P) (t731 P) .nil) (t431 P)) (BT.node (o103 P) (t735 P) (t572 P))) (BT.node (o53 P) (BT.node (o87 P) (t739 P) (t575 P)) (t578 P)))
def t745:=BT.node (o265 P) .nil .nil
def t748:=BT.node (o297 P) .nil .nil
def t749:=BT.node (o160 P) (t748 P) .nil
def t751:=BT.node (o24 P) (BT.node (o59 P) (BT.node (o125 P) (t745 P) .nil) (t440 P)) (BT.node (o93 P) (t749 P) (t583 P))
def t752:=BT.node (o281 P) .nil .nil
def t753:=BT.node (o144 P) (t752 P) .nil
def t754:=BT.node (o77 P) (t753 P) (t443 P)
def t757:=BT.node (o273 P) .nil .nil
def t760:=BT.node (o305 P) .nil .nil
def t761:=BT.node (o168 P) (t760 P) .nil
def t764:=BT.node (o289 P) .nil .nil
def t765:=BT.node (o152 P) (t764 P) .nil
def t768:=BT.node (o16 P) (BT.node (o32 P) (BT.node (o67 P) (BT.node (o136 P) (t757 P) .nil) (t449 P)) (BT.node (o101 P) (t761 P) (t590 P))) (BT.node (o51 P) (BT.node (o85 P) (t765 P) (t593 P)) (t596 P))
def t770:=BT.node (o269 P) .nil .nil
def t773:=BT.node (o301 P) .nil .nil
def t774:=BT.node (o164 P) (t773 P) .nil
def t777:=BT.node (o285 P) .nil .nil
def t778:=BT.node (o148 P) (t777 P) .nil
def t782:=BT.node (o277 P) .nil .nil
def t785:=BT.node (o309 P) .nil .nil
def t786:=BT.node (o175 P) (t785 P) .nil
def t789:=BT.node (o293 P) .nil .nil
def t790:=BT.node (o156 P) (t789 P) .nil
def t796:=BT.node (o2 P) (BT.node (o12 P) (BT.node (o28 P) (BT.node (o63 P) (BT.node (o132 P) (t770 P) .nil) (t457 P)) (BT.node (o97 P) (t774 P) (t600 P))) (BT.node (o47 P) (BT.node (o81 P) (t778 P) (t603 P)) (t606 P))) (BT.node (o20 P) (BT.node (o36 P) (BT.node (o71 P) (BT.node (o140 P) (t782 P) .nil) (t464 P)) (BT.node (o105 P) (t786 P) (t609 P))) (BT.node (o55 P) (BT.node (o89 P) (t790 P) (t612 P)) (BT.node (o121 P) (t469 P) (BT.node (o261 P) .nil .nil))))
def t799:=BT.node (o264 P) .nil .nil
def t802:=BT.node (o296 P) .nil .nil
def t803:=BT.node (o159 P) (t802 P) .nil
def t806:=BT.node (o280 P) .nil .nil
def t807:=BT.node (o143 P) (t806 P) .nil
def t809:=BT.node (o312 P) .nil .nil
def t810:=BT.node (o178 P) (t809 P) .nil
def t814:=BT.node (o272 P) .nil .nil
def t817:=BT.node (o304 P) .nil .nil
def t818:=BT.node (o167 P) (t817 P) .nil
def t821:=BT.node (o288 P) .nil .nil
def t822:=BT.node (o151 P) (t821 P) .nil
def t827:=BT.node (o268 P) .nil .nil
def t830:=BT.node (o300 P) .nil .nil
def t831:=BT.node (o163 P) (t830 P) .nil
def t834:=BT.node (o284 P) .nil .nil
def t835:=BT.node (o147 P) (t834 P) .nil
def t839:=BT.node (o276 P) .nil .nil
def t842:=BT.node (o308 P) .nil .nil
def t843:=BT.node (o174 P) (t842 P) .nil
def t846:=BT.node (o292 P) .nil .nil
def t847:=BT.node (o155 P) (t846 P) .nil
def t853:=BT.node (o258 P) (BT.node (o11 P) (BT.node (o27 P) (BT.node (o62 P) (BT.node (o131 P) (t827 P) .nil) (t493 P)) (BT.node (o96 P) (t831 P) (t636 P))) (BT.node (o46 P) (BT.node (o80 P) (t835 P) (t639 P)) (t642 P))) (BT.node (o19 P) (BT.node (o35 P) (BT.node (o70 P) (BT.node (o139 P) (t839 P) .nil) (t500 P)) (BT.node (o104 P) (t843 P) (t645 P))) (BT.node (o54 P) (BT.node (o88 P) (t847 P) (t648 P)) (BT.node (o120 P) (t505 P) (BT.node (o260 P) .nil .nil))))
def t855:=BT.node (o266 P) .nil .nil
def t858:=BT.node (o298 P) .nil .nil
def t859:=BT.node (o161 P) (t858 P) .nil
def t862:=BT.node (o282 P) .nil .nil
def t863:=BT.node (o145 P) (t862 P) .nil
def t867:=BT.node (o274 P) .nil .nil
def t870:=BT.node (o306 P) .nil .nil
def t871:=BT.node (o169 P) (t870 P) .nil
def t874:=BT.node (o290 P) .nil .nil
def t875:=BT.node (o153 P) (t874 P) .nil
def t880:=BT.node (o270 P) .nil .nil
def t883:=BT.node (o302 P) .nil .nil
def t884:=BT.node (o165 P) (t883 P) .nil
def t887:=BT.node (o286 P) .nil .nil
def t888:=BT.node (o149 P) (t887 P) .nil
def t892:=BT.node (o278 P) .nil .nil
def t895:=BT.node (o310 P) .nil .nil
def t896:=BT.node (o176 P) (t895 P) .nil
def t899:=BT.node (o294 P) .nil .nil
def t900:=BT.node (o157 P) (t899 P) .nil
def t906:=BT.node (o3 P) (BT.node (o13 P) (BT.node (o29 P) (BT.node (o64 P) (BT.node (o133 P) (t880 P) .nil) (t528 P)) (BT.node (o98 P) (t884 P) (t671 P))) (BT.node (o48 P) (BT.node (o82 P) (t888 P) (t674 P)) (t677 P))) (BT.node (o21 P) (BT.node (o37 P) (BT.node (o74 P) (BT.node (o141 P) (t892 P) .nil) (t535 P)) (BT.node (o106 P) (t896 P) (t680 P))) (BT.node (o56 P) (BT.node (o90 P) (t900 P) (t683 P)) (BT.node (o122 P) (t540 P) (BT.node (o262 P) .nil .nil))))
def t907:=BT.node (boot_o_6 P) (BT.node (boot_o_10 P) (BT.node (o9 P) (BT.node (o25 P) (BT.node (o60 P) (BT.node (o126 P) (t855 P) .nil) (t511 P)) (BT.node (o94 P) (t859 P) (t654 P))) (BT.node (o44 P) (BT.node (o78 P) (t863 P) (t514 P)) (t658 P))) (BT.node (o17 P) (BT.node (o33 P) (BT.node (o68 P) (BT.node (o137 P) (t867 P) .nil) (t520 P)) (BT.node (o102 P) (t871 P) (t661 P))) (BT.node (o52 P) (BT.node (o86 P) (t875 P) (t664 P)) (t667 P)))) (t906 P)
def t908:=BT.node (boot_o_2 P) (BT.node (boot_o_4 P) (BT.node (boot_o_8 P) (BT.node (o7 P) (BT.node (o23 P) (BT.node (o58 P) (BT.node (o124 P) (t799 P) .nil) (t476 P)) (BT.node (o92 P) (t803 P) (t619 P))) (BT.node (o42 P) (BT.node (o76 P) (t807 P) (t479 P)) (BT.node (o108 P) (t810 P) (t622 P)))) (BT.node (o15 P) (BT.node (o31 P) (BT.node (o66 P) (BT.node (o135 P) (t814 P) .nil) (t485 P)) (BT.node (o100 P) (t818 P) (t626 P))) (BT.node (o50 P) (BT.node (o84 P) (t822 P) (t629 P)) (t632 P)))) (t853 P)) (t907 P)
def t909:=BT.node (boot_o_0 P) (BT.node (boot_o_1 P) (BT.node (o257 P) (t718 P) (t743 P)) (BT.node (boot_o_5 P) (BT.node (boot_o_9 P) (BT.node (o8 P) (t751 P) (BT.node (o43 P) (t754 P) (t587 P))) (t768 P)) (t796 P))) (t908 P)
def sb7 (w : World) (os : OsState) : SharedT:=⟨(t909 w.params),305,(Life.mk [] [] [] 0 [] [] false #[] [] 0 false false false 0 [2000,10,10] false 0 true [] [] 0 false),⟨[]⟩,(Drawn.mk 0 0 0 0),591,os⟩
def L6 (w : World) (os : OsState) : Option (Flow × SharedT × Code × Pos):=segRunT treeTable PySem.Challenge.pw_beatless_k11_texts_of_no_program w 11 an 1 485 (sb6 w os) (piecesOf sts6 env cE (Pos.mk 67 0 80 64) B)
def R6 (w : World) (os : OsState) : Option (Flow × SharedT × Code × Pos):=some (.next,sb7 w os,cE,(Pos.mk 108 0 108 9))
theorem q6 : tt (Hd.L6,Hd.R6) = true:=by k_qdec
theorem r6 : ∀ w,Fast.tw11518265509499319272 w = Fast.tw3345738777826418175 w:=fun w=>by kernel_rfl
theorem e6 (w : World) (os : OsState) : Hd.L6 w os = Hd.R6 w os :=
  (congrFun (congrFun Fast.te11518265509499319272 w) os).trans ((congrFun (r6 w) os).trans (congrFun (congrFun Fast.te3345738777826418175 w) os).symm)
def sts7 : List Stmt:=[S 22]
def o313:=Obj.mk (.type "dict") .none (Data.dict #[en P "__name__" 165 (.str "beatless.programs" 551),en P "__doc__" 166 .none,en P "__package__" 167 .none,en P "__loader__" 168 (.builtin "__main__.__loader__#opaque"),en P "__spec__" 169 .none,en P "__annotations__" 170 (.ref 6),en P "__builtins__" 171 (.ref 4),en P "__file__" 173 (.str "/claim/cut.py" 172),en P "__cached__" 174 .none,en P "_wall" 193 (.ref 21),en P "BeatlessError" 213 (.ref 31),en P "NoProgram" 229 (.ref 44),en P "NoText" 254 (.ref 63),en P "NoWay" 270 (.ref 75),en P "Expr" 292 (.ref 87),en P "Num" 339 (.ref 129),en P "Name" 386 (.ref 169),en P "Two" 439 (.ref 209),en P "Mod" 488 (.ref 249),en P "Less" 541 (.ref 289),en P "is_whole" 550 (.ref 298),en P "START_NAMES" 555 (.ref 299),en P "SEND_NAMES" 561 (.ref 300),en P "RENEW_NAMES" 570 (.ref 301),en P "ALL_NAMES" 580 (.ref 302),en P "TWO_WORDS" 585 (.ref 303),en P "ROW_WORDS" 590 (.ref 304),en P "PARTS" 609 (.ref 305)] 28) #[]
def o314:=Obj.mk (.type "dict") .none (Data.dict #[en P "add" 591 (.int 2 592),en P "sub" 593 (.int 2 594),en P "min" 595 (.int 2 596),en P "max" 597 (.int 2 598),en P "mod" 599 (.int 2 600),en P "less" 601 (.int 4 602)] 6) #[]
def t911:=BT.node (o314 P) .nil .nil
def t912:=BT.node (o179 P) (t911 P) .nil
def t919:=BT.node (boot_o_0 P) (BT.node (boot_o_1 P) (BT.node (o313 P) (t718 P) (t743 P)) (BT.node (boot_o_5 P) (BT.node (boot_o_9 P) (BT.node (o8 P) (t751 P) (BT.node (o43 P) (t754 P) (BT.node (o109 P) (t912 P) (t586 P)))) (t768 P)) (t796 P))) (t908 P)
def sb8 (w : World) (os : OsState) : SharedT:=⟨(t919 w.params),306,(Life.mk [] [] [] 0 [] [] false #[] [] 0 false false false 0 [2000,10,10] false 0 true [] [] 0 false),⟨[]⟩,(Drawn.mk 0 0 0 0),610,os⟩
def L7 (w : World) (os : OsState) : Option (Flow × SharedT × Code × Pos):=segRunT treeTable PySem.Challenge.pw_beatless_k11_texts_of_no_program w 11 an 1 101 (sb7 w os) (piecesOf sts7 env cE (Pos.mk 108 0 108 9) B)
def R7 (w : World) (os : OsState) : Option (Flow × SharedT × Code × Pos):=some (.next,sb8 w os,cE,(Pos.mk 109 0 109 5))
theorem q7 : tt (Hd.L7,Hd.R7) = true:=by k_qdec
theorem r7 : ∀ w,Fast.tw9490284035958612641 w = Fast.tw15626045330170987150 w:=PySem.W.byRow2 (P:=fun w=>Fast.tw9490284035958612641 w = Fast.tw15626045330170987150 w) "special-get-raises" (fun w=>by kernel_rfl) (fun w=>by kernel_rfl)
theorem e7 (w : World) (os : OsState) : Hd.L7 w os = Hd.R7 w os :=
  (congrFun (congrFun Fast.te9490284035958612641 w) os).trans ((congrFun (r7 w) os).trans (congrFun (congrFun Fast.te15626045330170987150 w) os).symm)
def sts8 : List Stmt:=[S 23,S 24,S 25,S 26,S 27,S 28,S 29,S 30,S 31,S 32,S 33,S 34]
def o315:=Obj.mk (.type "dict") .none (Data.dict #[en P "__name__" 165 (.str "beatless.programs" 551),en P "__doc__" 166 .none,en P "__package__" 167 .none,en P "__loader__" 168 (.builtin "__main__.__loader__#opaque"),en P "__spec__" 169 .none,en P "__annotations__" 170 (.ref 6),en P "__builtins__" 171 (.ref 4),en P "__file__" 173 (.str "/claim/cut.py" 172),en P "__cached__" 174 .none,en P "_wall" 193 (.ref 21),en P "BeatlessError" 213 (.ref 31),en P "NoProgram" 229 (.ref 44),en P "NoText" 254 (.ref 63),en P "NoWay" 270 (.ref 75),en P "Expr" 292 (.ref 87),en P "Num" 339 (.ref 129),en P "Name" 386 (.ref 169),en P "Two" 439 (.ref 209),en P "Mod" 488 (.ref 249),en P "Less" 541 (.ref 289),en P "is_whole" 550 (.ref 298),en P "START_NAMES" 555 (.ref 299),en P "SEND_NAMES" 561 (.ref 300),en P "RENEW_NAMES" 570 (.ref 301),en P "ALL_NAMES" 580 (.ref 302),en P "TWO_WORDS" 585 (.ref 303),en P "ROW_WORDS" 590 (.ref 304),en P "PARTS" 609 (.ref 305),en P "FIGURES" 611 (.str "0123456789" 610),en P "MOST_WORDS" 613 (.int 60 612),en P "MOST_DEEP" 615 (.int 8 614),en P "is_short_number" 622 (.ref 312),en P "is_word_of" 630 (.ref 319),en P "is_divisor" 637 (.ref 326),en P "are_sound" 647 (.ref 333),en P "is_sound" 656 (.ref 340),en P "count_words" 662 (.ref 345),en P "Program" 730 (.ref 383),en P "program_text" 736 (.ref 392),en P "is_number_word" 745 (.ref 399)] 40) #[]
def o316 (P : Params):=vO #[(.int 1 0),(.int 0 0),(.ref 20),(.int 5 0),(.int 0 0),(.ref 27),(.int 7 0),(.int 0 0),(.ref 40),(.int 9 0),(.int 0 0),(.ref 52),(.int 13 0),(.int 0 0),(.ref 71),(.int 16 0),(.int 0 0),(.ref 83),(.int 18 0),(.int 0 0),(.ref 97),(.int 31 0),(.int 0 0),(.ref 137),(.int 44 0),(.int 0 0),(.ref 177),(.int 67 0),(.int 0 0),(.ref 217),(.int 81 0),(.int 0 0),(.ref 257),(.int 100 0),(.int 0 0),(.ref 297),(.int 113 0),(.int 0 0),(.ref 311),(.int 115 0),(.int 0 0),(.ref 318),(.int 117 0),(.int 0 0),(.ref 325),(.int 119 0),(.int 0 0),(.ref 332),(.int 124 0),(.int 0 0),(.ref 339),(.int 138 0),(.int 0 0),(.ref 344),(.int 140 0),(.int 0 0),(.ref 351),(.int 164 0),(.int 0 0),(.ref 391),(.int 167 0),(.int 0 0),(.ref 398)]
def o317 (P : Params):=tO #[]
def o318 (P : Params):=vO #[]
def o319 (P : Params):=tO #[(.str "value" 619)]
def o320 (P : Params):=tO #[]
def o321 (P : Params):=gO "is_short_number" "is_short_number" (S 26)
def o322 (P : Params):=cO "is_short_number" "is_short_number" 616 617 618 113 1 3 306 307 308 309 310 620 621
def o323 (P : Params):=uO "is_short_number" "is_short_number" (S 26) "beatless.programs" 551 311
def o324 (P : Params):=tO #[]
def o325 (P : Params):=vO #[]
def o326 (P : Params):=tO #[(.str "word" 626),(.str "words" 627)]
def o327 (P : Params):=tO #[]
def o328 (P : Params):=gO "is_word_of" "is_word_of" (S 27)
def o329 (P : Params):=cO "is_word_of" "is_word_of" 623 624 625 115 2 3 313 314 315 316 317 628 629
def o330 (P : Params):=uO "is_word_of" "is_word_of" (S 27) "beatless.programs" 551 318
def o331 (P : Params):=tO #[]
def o332 (P : Params):=vO #[]
def o333 (P : Params):=tO #[(.str "number" 634)]
def o334 (P : Params):=tO #[]
def o335 (P : Params):=gO "is_divisor" "is_divisor" (S 28)
def o336 (P : Params):=cO "is_divisor" "is_divisor" 631 632 633 117 1 3 320 321 322 323 324 635 636
def o337 (P : Params):=uO "is_divisor" "is_divisor" (S 28) "beatless.programs" 551 325
def o338 (P : Params):=tO #[]
def o339 (P : Params):=vO #[]
def o340 (P : Params):=tO #[(.str "parts" 641),(.str "names" 642),(.str "deep" 643),(.str "part" 644)]
def o341 (P : Params):=tO #[]
def o342 (P : Params):=gO "are_sound" "are_sound" (S 29)
def o343 (P : Params):=cO "are_sound" "are_sound" 638 639 640 119 3 3 327 328 329 330 331 645 646
def o344 (P : Params):=uO "are_sound" "are_sound" (S 29) "beatless.programs" 551 332
def o345 (P : Params):=tO #[]
def o346 (P : Params):=vO #[]
def o347 (P : Params):=tO #[(.str "expr" 651),(.str "names" 652),(.str "deep" 653)]
def o348 (P : Params):=tO #[]
def o349 (P : Params):=gO "is_sound" "is_sound" (S 30)
def o350 (P : Params):=cO "is_sound" "is_sound" 648 649 650 124 3 3 334 335 336 337 338 654 655
def o351 (P : Params):=uO "is_sound" "is_sound" (S 30) "beatless.programs" 551 339
def o352 (P : Params):=tO #[]
def o353 (P : Params):=vO #[]
def o354 (P : Params):=gO "count_words" "count_words" (S 31)
def o355 (P : Params):=Obj.mk (.type "code") .none (Data.fields #[(.str "count_words" 657),(.str "count_words" 658),(.str "/claim/cut.py" 659),(.int 138 0),(.int 1 0),(.int 0 0),(.int 0 0),(.int 3 0),(.ref 341),(.bool true),(.int 181 0),(.ref 342),.none,.none,.none,(.ref 343),(.int 660 0),(.int 138 0),(.str "/claim/cut.py" 661)]) #[]
def o356 (P : Params):=uO "count_words" "count_words" (S 31) "beatless.programs" 551 344
def o357 (P : Params):=tO #[]
def o358 (P : Params):=Obj.mk (.type "builtin_function_or_method") .none (Data.fields #[(.builtin "type.__prepare__"),(.type "type")]) #[]
def o359:=Obj.mk (.type "dict") .none (Data.dict #[en P "__module__" 670 (.str "beatless.programs" 551),en P "__qualname__" 672 (.str "Program" 671),en P "__firstlineno__" 674 (.int 140 673),en P "__init__" 685 (.ref 359),en P "first_worth" 694 (.ref 366),en P "word_to" 706 (.ref 373),en P "next_worth" 718 (.ref 380),en P "__static_attributes__" 723 (.ref 381)] 8) #[]
def o360 (P : Params):=tO #[]
def o361 (P : Params):=vO #[(.int 142 0),(.int 4 0),(.ref 358),(.int 156 0),(.int 4 0),(.ref 365),(.int 159 0),(.int 4 0),(.ref 372),(.int 162 0),(.int 4 0),(.ref 379)]
def o362 (P : Params):=Obj.mk (.type "code") .none (Data.fields #[(.str "Program" 665),(.str "Program" 666),(.str "/claim/cut.py" 667),(.int 140 0),(.int 0 0),(.int 0 0),(.int 0 0),(.int 0 0),(.ref 349),(.bool false),(.int 181 0),(.ref 350),.none,.none,.none,.none,(.int 668 0),(.int 140 0),(.str "/claim/cut.py" 669)]) #[]
def o363 (P : Params):=Obj.mk (.type "frame") .none Data.plain #[(Option.some (.ref 351)),(Option.some (.ref 3)),(Option.some (.ref 348)),.none,(Option.some (.str "beatless.programs" 551)),.none,(Option.some (.ref 0))]
def o364 (P : Params):=tO #[]
def o365 (P : Params):=vO #[]
def o366 (P : Params):=tO #[(.str "self" 678),(.str "start" 679),(.str "send" 680),(.str "when" 681),(.str "renew" 682)]
def o367 (P : Params):=tO #[]
def o368 (P : Params):=gO "__init__" "Program.__init__" (L2.inClass (S 32) 0)
def o369 (P : Params):=cO "__init__" "Program.__init__" 675 676 677 142 5 3 353 354 355 356 357 683 684
def o370 (P : Params):=uO "__init__" "Program.__init__" (L2.inClass (S 32) 0) "beatless.programs" 551 358
def o371 (P : Params):=tO #[]
def o372 (P : Params):=vO #[]
def o373 (P : Params):=tO #[(.str "self" 689),(.str "hand" 690),(.str "lines" 691)]
def o374 (P : Params):=tO #[]
def o375 (P : Params):=gO "first_worth" "Program.first_worth" (L2.inClass (S 32) 1)
def o376 (P : Params):=cO "first_worth" "Program.first_worth" 686 687 688 156 3 3 360 361 362 363 364 692 693
def o377 (P : Params):=uO "first_worth" "Program.first_worth" (L2.inClass (S 32) 1) "beatless.programs" 551 365
def o378 (P : Params):=tO #[]
def o379 (P : Params):=vO #[]
def o380 (P : Params):=tO #[(.str "self" 698),(.str "worth" 699),(.str "hand" 700),(.str "turn" 701),(.str "lines" 702),(.str "other" 703)]
def o381 (P : Params):=tO #[]
def o382 (P : Params):=gO "word_to" "Program.word_to" (L2.inClass (S 32) 2)
def o383 (P : Params):=cO "word_to" "Program.word_to" 695 696 697 159 6 3 367 368 369 370 371 704 705
def o384 (P : Params):=uO "word_to" "Program.word_to" (L2.inClass (S 32) 2) "beatless.programs" 551 372
def o385 (P : Params):=tO #[]
def o386 (P : Params):=vO #[]
def o387 (P : Params):=tO #[(.str "self" 710),(.str "worth" 711),(.str "hand" 712),(.str "turn" 713),(.str "lines" 714),(.str "heard" 715)]
def o388 (P : Params):=tO #[]
def o389 (P : Params):=gO "next_worth" "Program.next_worth" (L2.inClass (S 32) 3)
def o390 (P : Params):=cO "next_worth" "Program.next_worth" 707 708 709 162 6 3 374 375 376 377 378 716 717
def o391 (P : Params):=uO "next_worth" "Program.next_worth" (L2.inClass (S 32) 3) "beatless.programs" 551 379
def o392 (P : Params):=tO #[(.str "renew" 719),(.str "send" 720),(.str "start" 721),(.str "when" 722)]
def o393:=Obj.mk (.type "dict") .none (Data.dict #[en P "__module__" 670 (.str "beatless.programs" 551),en P "__firstlineno__" 674 (.int 140 673),en P "__init__" 685 (.ref 359),en P "first_worth" 694 (.ref 366),en P "word_to" 706 (.ref 373),en P "next_worth" 718 (.ref 380),en P "__static_attributes__" 723 (.ref 381),en P "__dict__" 725 (.ref 384),en P "__weakref__" 727 (.ref 385),en P "__doc__" 728 .none] 4) #[]
def o394 (P : Params):=Obj.mk (.type "type") .none (Data.cls (ClassData.mk "Program" [(.type "object")] [(.ref 383),(.type "object")] 382 "Program" true [] [] false .none false)) #[.none,.none,(Option.some (.str "Program" 663)),(Option.some (.str "Program" 671)),(Option.some (.builtin "object.__new__")),(Option.some (.bool true))]
def o395 (P : Params):=Obj.mk (.type "getset_descriptor") .none (Data.fields #[(.str "__dict__" 724),(.ref 383),(.builtin "function.__dict__"),(.builtin "function.__dict__#set")]) #[]
def o396 (P : Params):=Obj.mk (.type "getset_descriptor") .none (Data.fields #[(.str "__weakref__" 726),(.ref 383),(.builtin "ExceptionGroup.__weakref__"),.none]) #[]
def o397 (P : Params):=Obj.mk (.type "super") .none (Data.fields #[(.ref 383),(.ref 383),(.ref 383)]) #[]
def o398 (P : Params):=Obj.mk (.type "builtin_function_or_method") .none (Data.fields #[(.builtin "object.__init_subclass__"),(.ref 383)]) #[]
def o399 (P : Params):=tO #[]
def o400 (P : Params):=vO #[]
def o401 (P : Params):=gO "program_text" "program_text" (S 33)
def o402 (P : Params):=Obj.mk (.type "code") .none (Data.fields #[(.str "program_text" 731),(.str "program_text" 732),(.str "/claim/cut.py" 733),(.int 164 0),(.int 1 0),(.int 0 0),(.int 0 0),(.int 3 0),(.ref 388),(.bool true),(.int 181 0),(.ref 389),.none,.none,.none,(.ref 390),(.int 734 0),(.int 164 0),(.str "/claim/cut.py" 735)]) #[]
def o403 (P : Params):=uO "program_text" "program_text" (S 33) "beatless.programs" 551 391
def o404 (P : Params):=tO #[]
def o405 (P : Params):=vO #[]
def o406 (P : Params):=tO #[(.str "word" 740),(.str "figures" 741),(.str "figure" 742)]
def o407 (P : Params):=tO #[]
def o408 (P : Params):=gO "is_number_word" "is_number_word" (S 34)
def o409 (P : Params):=cO "is_number_word" "is_number_word" 737 738 739 167 1 3 393 394 395 396 397 743 744
def o410 (P : Params):=uO "is_number_word" "is_number_word" (S 34) "beatless.programs" 551 398
def t921:=BT.node (o123 P) (t691 P) (BT.node (o394 P) .nil .nil)
def t922:=BT.node (o330 P) .nil .nil
def t925:=BT.node (o362 P) .nil .nil
def t930:=BT.node (o142 P) (t698 P) (BT.node (o410 P) .nil .nil)
def t931:=BT.node (o346 P) .nil .nil
def t934:=BT.node (o378 P) .nil .nil
def t940:=BT.node (o134 P) (t706 P) (BT.node (o402 P) .nil .nil)
def t941:=BT.node (o338 P) .nil .nil
def t944:=BT.node (o370 P) .nil .nil
def t948:=BT.node (o354 P) .nil .nil
def t951:=BT.node (o322 P) .nil .nil
def t953:=BT.node (o386 P) .nil .nil
def t958:=BT.node (boot_o_7 P) (BT.node (o6 P) (BT.node (o40 P) (BT.node (o57 P) (t921 P) (BT.node (o193 P) (t922 P) .nil)) (BT.node (o91 P) (t695 P) (BT.node (o228 P) (t925 P) .nil))) (BT.node (o41 P) (BT.node (o75 P) (t930 P) (BT.node (o209 P) (t931 P) .nil)) (BT.node (o107 P) (t702 P) (BT.node (o244 P) (t934 P) .nil)))) (BT.node (o14 P) (BT.node (o30 P) (BT.node (o65 P) (t940 P) (BT.node (o201 P) (t941 P) .nil)) (BT.node (o99 P) (t710 P) (BT.node (o236 P) (t944 P) .nil))) (BT.node (o49 P) (BT.node (o259 P) (t714 P) (BT.node (o220 P) (t948 P) .nil)) (BT.node (o115 P) (BT.node (o185 P) (t951 P) .nil) (BT.node (o252 P) (t953 P) .nil))))
def t960:=BT.node (o127 P) (t719 P) (BT.node (o398 P) .nil .nil)
def t961:=BT.node (o334 P) .nil .nil
def t964:=BT.node (o366 P) .nil .nil
def t968:=BT.node (o350 P) .nil .nil
def t971:=BT.node (o318 P) .nil .nil
def t973:=BT.node (o382 P) .nil .nil
def t979:=BT.node (o138 P) (t731 P) (BT.node (o406 P) .nil .nil)
def t980:=BT.node (o342 P) .nil .nil
def t983:=BT.node (o374 P) .nil .nil
def t987:=BT.node (o358 P) .nil .nil
def t990:=BT.node (o326 P) .nil .nil
def t992:=BT.node (o390 P) .nil .nil
def t996:=BT.node (o18 P) (BT.node (o34 P) (BT.node (o69 P) (t979 P) (BT.node (o205 P) (t980 P) .nil)) (BT.node (o103 P) (t735 P) (BT.node (o240 P) (t983 P) .nil))) (BT.node (o53 P) (BT.node (o87 P) (t739 P) (BT.node (o224 P) (t987 P) .nil)) (BT.node (o119 P) (BT.node (o189 P) (t990 P) .nil) (BT.node (o256 P) (t992 P) .nil)))
def t1000:=BT.node (o125 P) (t745 P) (BT.node (o396 P) .nil .nil)
def t1001:=BT.node (o332 P) .nil .nil
def t1004:=BT.node (o364 P) .nil .nil
def t1008:=BT.node (o348 P) .nil .nil
def t1011:=BT.node (o380 P) .nil .nil
def t1017:=BT.node (o136 P) (t757 P) (BT.node (o404 P) .nil .nil)
def t1018:=BT.node (o340 P) .nil .nil
def t1021:=BT.node (o372 P) .nil .nil
def t1025:=BT.node (o356 P) .nil .nil
def t1028:=BT.node (o324 P) .nil .nil
def t1030:=BT.node (o388 P) .nil .nil
def t1035:=BT.node (boot_o_9 P) (BT.node (o8 P) (BT.node (o24 P) (BT.node (o59 P) (t1000 P) (BT.node (o195 P) (t1001 P) .nil)) (BT.node (o93 P) (t749 P) (BT.node (o230 P) (t1004 P) .nil))) (BT.node (o43 P) (BT.node (o77 P) (t753 P) (BT.node (o211 P) (t1008 P) .nil)) (BT.node (o109 P) (t912 P) (BT.node (o246 P) (t1011 P) .nil)))) (BT.node (o16 P) (BT.node (o32 P) (BT.node (o67 P) (t1017 P) (BT.node (o203 P) (t1018 P) .nil)) (BT.node (o101 P) (t761 P) (BT.node (o238 P) (t1021 P) .nil))) (BT.node (o51 P) (BT.node (o85 P) (t765 P) (BT.node (o222 P) (t1025 P) .nil)) (BT.node (o117 P) (BT.node (o187 P) (t1028 P) .nil) (BT.node (o254 P) (t1030 P) .nil))))
def t1037:=BT.node (o132 P) (t770 P) (BT.node (o400 P) .nil .nil)
def t1038:=BT.node (o336 P) .nil .nil
def t1041:=BT.node (o368 P) .nil .nil
def t1045:=BT.node (o352 P) .nil .nil
def t1048:=BT.node (o320 P) .nil .nil
def t1050:=BT.node (o384 P) .nil .nil
def t1056:=BT.node (o140 P) (t782 P) (BT.node (o408 P) .nil .nil)
def t1057:=BT.node (o344 P) .nil .nil
def t1060:=BT.node (o376 P) .nil .nil
def t1064:=BT.node (o360 P) .nil .nil
def t1067:=BT.node (o328 P) .nil .nil
def t1070:=BT.node (o261 P) (BT.node (o392 P) .nil .nil) .nil
def t1074:=BT.node (o2 P) (BT.node (o12 P) (BT.node (o28 P) (BT.node (o63 P) (t1037 P) (BT.node (o199 P) (t1038 P) .nil)) (BT.node (o97 P) (t774 P) (BT.node (o234 P) (t1041 P) .nil))) (BT.node (o47 P) (BT.node (o81 P) (t778 P) (BT.node (o218 P) (t1045 P) .nil)) (BT.node (o113 P) (BT.node (o183 P) (t1048 P) .nil) (BT.node (o250 P) (t1050 P) .nil)))) (BT.node (o20 P) (BT.node (o36 P) (BT.node (o71 P) (t1056 P) (BT.node (o207 P) (t1057 P) .nil)) (BT.node (o105 P) (t786 P) (BT.node (o242 P) (t1060 P) .nil))) (BT.node (o55 P) (BT.node (o89 P) (t790 P) (BT.node (o226 P) (t1064 P) .nil)) (BT.node (o121 P) (BT.node (o191 P) (t1067 P) .nil) (t1070 P))))
def t1078:=BT.node (o124 P) (t799 P) (BT.node (o395 P) .nil .nil)
def t1079:=BT.node (o331 P) .nil .nil
def t1082:=BT.node (o363 P) .nil .nil
def t1086:=BT.node (o347 P) .nil .nil
def t1089:=BT.node (o379 P) .nil .nil
def t1095:=BT.node (o135 P) (t814 P) (BT.node (o403 P) .nil .nil)
def t1096:=BT.node (o339 P) .nil .nil
def t1099:=BT.node (o371 P) .nil .nil
def t1103:=BT.node (o355 P) .nil .nil
def t1106:=BT.node (o323 P) .nil .nil
def t1108:=BT.node (o387 P) .nil .nil
def t1113:=BT.node (boot_o_8 P) (BT.node (o7 P) (BT.node (o23 P) (BT.node (o58 P) (t1078 P) (BT.node (o194 P) (t1079 P) .nil)) (BT.node (o92 P) (t803 P) (BT.node (o229 P) (t1082 P) .nil))) (BT.node (o42 P) (BT.node (o76 P) (t807 P) (BT.node (o210 P) (t1086 P) .nil)) (BT.node (o108 P) (t810 P) (BT.node (o245 P) (t1089 P) .nil)))) (BT.node (o15 P) (BT.node (o31 P) (BT.node (o66 P) (t1095 P) (BT.node (o202 P) (t1096 P) .nil)) (BT.node (o100 P) (t818 P) (BT.node (o237 P) (t1099 P) .nil))) (BT.node (o50 P) (BT.node (o84 P) (t822 P) (BT.node (o221 P) (t1103 P) .nil)) (BT.node (o116 P) (BT.node (o186 P) (t1106 P) .nil) (BT.node (o253 P) (t1108 P) .nil))))
def t1115:=BT.node (o131 P) (t827 P) (BT.node (o399 P) .nil .nil)
def t1116:=BT.node (o335 P) .nil .nil
def t1119:=BT.node (o367 P) .nil .nil
def t1123:=BT.node (o351 P) .nil .nil
def t1126:=BT.node (o319 P) .nil .nil
def t1128:=BT.node (o383 P) .nil .nil
def t1134:=BT.node (o139 P) (t839 P) (BT.node (o407 P) .nil .nil)
def t1135:=BT.node (o343 P) .nil .nil
def t1138:=BT.node (o375 P) .nil .nil
def t1142:=BT.node (o359 P) .nil .nil
def t1145:=BT.node (o327 P) .nil .nil
def t1148:=BT.node (o260 P) (BT.node (o391 P) .nil .nil) .nil
def t1152:=BT.node (o316 P) (BT.node (o11 P) (BT.node (o27 P) (BT.node (o62 P) (t1115 P) (BT.node (o198 P) (t1116 P) .nil)) (BT.node (o96 P) (t831 P) (BT.node (o233 P) (t1119 P) .nil))) (BT.node (o46 P) (BT.node (o80 P) (t835 P) (BT.node (o217 P) (t1123 P) .nil)) (BT.node (o112 P) (BT.node (o182 P) (t1126 P) .nil) (BT.node (o249 P) (t1128 P) .nil)))) (BT.node (o19 P) (BT.node (o35 P) (BT.node (o70 P) (t1134 P) (BT.node (o206 P) (t1135 P) .nil)) (BT.node (o104 P) (t843 P) (BT.node (o241 P) (t1138 P) .nil))) (BT.node (o54 P) (BT.node (o88 P) (t847 P) (BT.node (o225 P) (t1142 P) .nil)) (BT.node (o120 P) (BT.node (o190 P) (t1145 P) .nil) (t1148 P))))
def t1155:=BT.node (o126 P) (t855 P) (BT.node (o397 P) .nil .nil)
def t1156:=BT.node (o333 P) .nil .nil
def t1159:=BT.node (o365 P) .nil .nil
def t1163:=BT.node (o349 P) .nil .nil
def t1166:=BT.node (o317 P) .nil .nil
def t1168:=BT.node (o381 P) .nil .nil
def t1174:=BT.node (o137 P) (t867 P) (BT.node (o405 P) .nil .nil)
def t1175:=BT.node (o341 P) .nil .nil
def t1178:=BT.node (o373 P) .nil .nil
def t1182:=BT.node (o357 P) .nil .nil
def t1185:=BT.node (o325 P) .nil .nil
def t1187:=BT.node (o389 P) .nil .nil
def t1191:=BT.node (o17 P) (BT.node (o33 P) (BT.node (o68 P) (t1174 P) (BT.node (o204 P) (t1175 P) .nil)) (BT.node (o102 P) (t871 P) (BT.node (o239 P) (t1178 P) .nil))) (BT.node (o52 P) (BT.node (o86 P) (t875 P) (BT.node (o223 P) (t1182 P) .nil)) (BT.node (o118 P) (BT.node (o188 P) (t1185 P) .nil) (BT.node (o255 P) (t1187 P) .nil)))
def t1194:=BT.node (o133 P) (t880 P) (BT.node (o401 P) .nil .nil)
def t1195:=BT.node (o337 P) .nil .nil
def t1198:=BT.node (o369 P) .nil .nil
def t1202:=BT.node (o353 P) .nil .nil
def t1205:=BT.node (o321 P) .nil .nil
def t1207:=BT.node (o385 P) .nil .nil
def t1213:=BT.node (o141 P) (t892 P) (BT.node (o409 P) .nil .nil)
def t1214:=BT.node (o345 P) .nil .nil
def t1217:=BT.node (o377 P) .nil .nil
def t1221:=BT.node (o361 P) .nil .nil
def t1224:=BT.node (o329 P) .nil .nil
def t1227:=BT.node (o262 P) (BT.node (o393 P) .nil .nil) .nil
def t1231:=BT.node (o3 P) (BT.node (o13 P) (BT.node (o29 P) (BT.node (o64 P) (t1194 P) (BT.node (o200 P) (t1195 P) .nil)) (BT.node (o98 P) (t884 P) (BT.node (o235 P) (t1198 P) .nil))) (BT.node (o48 P) (BT.node (o82 P) (t888 P) (BT.node (o219 P) (t1202 P) .nil)) (BT.node (o114 P) (BT.node (o184 P) (t1205 P) .nil) (BT.node (o251 P) (t1207 P) .nil)))) (BT.node (o21 P) (BT.node (o37 P) (BT.node (o74 P) (t1213 P) (BT.node (o208 P) (t1214 P) .nil)) (BT.node (o106 P) (t896 P) (BT.node (o243 P) (t1217 P) .nil))) (BT.node (o56 P) (BT.node (o90 P) (t900 P) (BT.node (o227 P) (t1221 P) .nil)) (BT.node (o122 P) (BT.node (o192 P) (t1224 P) .nil) (t1227 P))))
def t1233:=BT.node (boot_o_2 P) (BT.node (boot_o_4 P) (t1113 P) (t1152 P)) (BT.node (boot_o_6 P) (BT.node (boot_o_10 P) (BT.node (o9 P) (BT.node (o25 P) (BT.node (o60 P) (t1155 P) (BT.node (o196 P) (t1156 P) .nil)) (BT.node (o94 P) (t859 P) (BT.node (o231 P) (t1159 P) .nil))) (BT.node (o44 P) (BT.node (o78 P) (t863 P) (BT.node (o212 P) (t1163 P) .nil)) (BT.node (o110 P) (BT.node (o180 P) (t1166 P) .nil) (BT.node (o247 P) (t1168 P) .nil)))) (t1191 P)) (t1231 P))
def t1234:=BT.node (boot_o_0 P) (BT.node (boot_o_1 P) (BT.node (o315 P) (t958 P) (BT.node (o0 P) (BT.node (o10 P) (BT.node (o26 P) (BT.node (o61 P) (t960 P) (BT.node (o197 P) (t961 P) .nil)) (BT.node (o95 P) (t723 P) (BT.node (o232 P) (t964 P) .nil))) (BT.node (o45 P) (BT.node (o79 P) (t727 P) (BT.node (o213 P) (t968 P) .nil)) (BT.node (o111 P) (BT.node (o181 P) (t971 P) .nil) (BT.node (o248 P) (t973 P) .nil)))) (t996 P))) (BT.node (boot_o_5 P) (t1035 P) (t1074 P))) (t1233 P)
def sb9 (w : World) (os : OsState) : SharedT:=⟨(t1234 w.params),400,(Life.mk [] [] [] 0 [] [] false #[] [] 0 false false false 0 [2000,10,10] false 0 true [] [] 0 false),⟨[]⟩,(Drawn.mk 0 0 0 0),746,os⟩
def L8 (w : World) (os : OsState) : Option (Flow × SharedT × Code × Pos):=segRunT treeTable PySem.Challenge.pw_beatless_k11_texts_of_no_program w 11 an 1 595 (sb8 w os) (piecesOf sts8 env cE (Pos.mk 109 0 109 5) B)
def R8 (w : World) (os : OsState) : Option (Flow × SharedT × Code × Pos):=some (.next,sb9 w os,cE,(Pos.mk 167 0 172 73))
theorem q8 : tt (Hd.L8,Hd.R8) = true:=by k_qdec
theorem r8 : ∀ w,Fast.tw7116466485190837356 w = Fast.tw7334724712773792873 w:=fun w=>by kernel_rfl
theorem e8 (w : World) (os : OsState) : Hd.L8 w os = Hd.R8 w os :=
  (congrFun (congrFun Fast.te7116466485190837356 w) os).trans ((congrFun (r8 w) os).trans (congrFun (congrFun Fast.te7334724712773792873 w) os).symm)
def sts9 : List Stmt:=[S 35,S 36,S 37,S 38,S 39,S 40,S 41,S 42,S 43,S 44,S 45,S 46,S 47,S 48,S 49,S 50,S 51]
def o411:=Obj.mk (.type "dict") .none (Data.dict #[en P "__name__" 165 (.str "law_beatless_k11_texts_of_no_program" 792),en P "__doc__" 166 .none,en P "__package__" 167 .none,en P "__loader__" 168 (.builtin "__main__.__loader__#opaque"),en P "__spec__" 169 .none,en P "__annotations__" 170 (.ref 6),en P "__builtins__" 171 (.ref 4),en P "__file__" 173 (.str "/claim/cut.py" 172),en P "__cached__" 174 .none,en P "_wall" 193 (.ref 21),en P "BeatlessError" 213 (.ref 31),en P "NoProgram" 229 (.ref 44),en P "NoText" 254 (.ref 63),en P "NoWay" 270 (.ref 75),en P "Expr" 292 (.ref 87),en P "Num" 339 (.ref 129),en P "Name" 386 (.ref 169),en P "Two" 439 (.ref 209),en P "Mod" 488 (.ref 249),en P "Less" 541 (.ref 289),en P "is_whole" 550 (.ref 298),en P "START_NAMES" 555 (.ref 299),en P "SEND_NAMES" 561 (.ref 300),en P "RENEW_NAMES" 570 (.ref 301),en P "ALL_NAMES" 580 (.ref 302),en P "TWO_WORDS" 585 (.ref 303),en P "ROW_WORDS" 590 (.ref 304),en P "PARTS" 609 (.ref 305),en P "FIGURES" 611 (.str "0123456789" 610),en P "MOST_WORDS" 613 (.int 60 612),en P "MOST_DEEP" 615 (.int 8 614),en P "is_short_number" 622 (.ref 312),en P "is_word_of" 630 (.ref 319),en P "is_divisor" 637 (.ref 326),en P "are_sound" 647 (.ref 333),en P "is_sound" 656 (.ref 340),en P "count_words" 662 (.ref 345),en P "Program" 730 (.ref 383),en P "program_text" 736 (.ref 392),en P "is_number_word" 745 (.ref 399),en P "number_of" 752 (.ref 406),en P "read_part" 760 (.ref 413),en P "read_words" 770 (.ref 420),en P "read_row" 779 (.ref 427),en P "read_program" 791 (.ref 434),en P "_law_cell_at" 801 (.ref 441),en P "_law_digit" 812 (.ref 448),en P "_law_expr" 818 (.ref 453),en P "_law_made" 825 (.ref 460),en P "_law_fits" 835 (.ref 467),en P "_law_size" 841 (.ref 472),en P "_law_four" 854 (.ref 479),en P "_law_program" 861 (.ref 486),en P "_law_odd" 874 (.ref 493),en P "_law_refused" 883 (.ref 500),en P "law" 897 (.ref 507)] 56) #[]
def o412 (P : Params):=vO #[(.int 1 0),(.int 0 0),(.ref 20),(.int 5 0),(.int 0 0),(.ref 27),(.int 7 0),(.int 0 0),(.ref 40),(.int 9 0),(.int 0 0),(.ref 52),(.int 13 0),(.int 0 0),(.ref 71),(.int 16 0),(.int 0 0),(.ref 83),(.int 18 0),(.int 0 0),(.ref 97),(.int 31 0),(.int 0 0),(.ref 137),(.int 44 0),(.int 0 0),(.ref 177),(.int 67 0),(.int 0 0),(.ref 217),(.int 81 0),(.int 0 0),(.ref 257),(.int 100 0),(.int 0 0),(.ref 297),(.int 113 0),(.int 0 0),(.ref 311),(.int 115 0),(.int 0 0),(.ref 318),(.int 117 0),(.int 0 0),(.ref 325),(.int 119 0),(.int 0 0),(.ref 332),(.int 124 0),(.int 0 0),(.ref 339),(.int 138 0),(.int 0 0),(.ref 344),(.int 140 0),(.int 0 0),(.ref 351),(.int 164 0),(.int 0 0),(.ref 391),(.int 167 0),(.int 0 0),(.ref 398),(.int 173 0),(.int 0 0),(.ref 405),(.int 175 0),(.int 0 0),(.ref 412),(.int 187 0),(.int 0 0),(.ref 419),(.int 195 0),(.int 0 0),(.ref 426),(.int 198 0),(.int 0 0),(.ref 433),(.int 212 0),(.int 0 0),(.ref 440),(.int 216 0),(.int 0 0),(.ref 447),(.int 229 0),(.int 0 0),(.ref 452),(.int 247 0),(.int 0 0),(.ref 459),(.int 257 0),(.int 0 0),(.ref 466),(.int 262 0),(.int 0 0),(.ref 471),(.int 266 0),(.int 0 0),(.ref 478),(.int 274 0),(.int 0 0),(.ref 485),(.int 276 0),(.int 0 0),(.ref 492),(.int 286 0),(.int 0 0),(.ref 499),(.int 297 0),(.int 0 0),(.ref 506)]
def o413 (P : Params):=tO #[]
def o414 (P : Params):=vO #[]
def o415 (P : Params):=tO #[(.str "word" 749)]
def o416 (P : Params):=tO #[]
def o417 (P : Params):=gO "number_of" "number_of" (S 35)
def o418 (P : Params):=cO "number_of" "number_of" 746 747 748 173 1 3 400 401 402 403 404 750 751
def o419 (P : Params):=uO "number_of" "number_of" (S 35) "beatless.programs" 551 405
def o420 (P : Params):=tO #[]
def o421 (P : Params):=vO #[]
def o422 (P : Params):=tO #[(.str "word" 756),(.str "parts" 757)]
def o423 (P : Params):=tO #[]
def o424 (P : Params):=gO "read_part" "read_part" (S 36)
def o425 (P : Params):=cO "read_part" "read_part" 753 754 755 175 2 3 407 408 409 410 411 758 759
def o426 (P : Params):=uO "read_part" "read_part" (S 36) "beatless.programs" 551 412
def o427 (P : Params):=tO #[]
def o428 (P : Params):=vO #[]
def o429 (P : Params):=tO #[(.str "words" 764),(.str "parts" 765),(.str "word" 766),(.str "part" 767)]
def o430 (P : Params):=tO #[]
def o431 (P : Params):=gO "read_words" "read_words" (S 37)
def o432 (P : Params):=cO "read_words" "read_words" 761 762 763 187 1 3 414 415 416 417 418 768 769
def o433 (P : Params):=uO "read_words" "read_words" (S 37) "beatless.programs" 551 419
def o434 (P : Params):=tO #[]
def o435 (P : Params):=vO #[]
def o436 (P : Params):=tO #[(.str "row" 774),(.str "first" 775),(.str "words" 776)]
def o437 (P : Params):=tO #[]
def o438 (P : Params):=gO "read_row" "read_row" (S 38)
def o439 (P : Params):=cO "read_row" "read_row" 771 772 773 195 2 3 421 422 423 424 425 777 778
def o440 (P : Params):=uO "read_row" "read_row" (S 38) "beatless.programs" 551 426
def o441 (P : Params):=tO #[]
def o442 (P : Params):=vO #[]
def o443 (P : Params):=tO #[(.str "text" 783),(.str "rows" 784),(.str "exprs" 785),(.str "at" 786),(.str "first" 787),(.str "expr" 788)]
def o444 (P : Params):=tO #[]
def o445 (P : Params):=gO "read_program" "read_program" (S 39)
def o446 (P : Params):=cO "read_program" "read_program" 780 781 782 198 1 3 428 429 430 431 432 789 790
def o447 (P : Params):=uO "read_program" "read_program" (S 39) "beatless.programs" 551 433
def o448 (P : Params):=tO #[]
def o449 (P : Params):=vO #[]
def o450 (P : Params):=tO #[(.str "_law_script" 797),(.str "_law_k" 798)]
def o451 (P : Params):=tO #[]
def o452 (P : Params):=gO "_law_cell_at" "_law_cell_at" (S 41)
def o453 (P : Params):=cO "_law_cell_at" "_law_cell_at" 794 795 796 212 2 3 435 436 437 438 439 799 800
def o454 (P : Params):=uO "_law_cell_at" "_law_cell_at" (S 41) "law_beatless_k11_texts_of_no_program" 792 440
def o455 (P : Params):=tO #[]
def o456 (P : Params):=vO #[]
def o457 (P : Params):=tO #[(.str "_law_state" 805),(.str "_law_base" 806),(.str "_law_cell" 807),(.str "_law_found" 808),(.str "_law_number" 809)]
def o458 (P : Params):=tO #[]
def o459 (P : Params):=gO "_law_digit" "_law_digit" (S 42)
def o460 (P : Params):=cO "_law_digit" "_law_digit" 802 803 804 216 2 3 442 443 444 445 446 810 811
def o461 (P : Params):=uO "_law_digit" "_law_digit" (S 42) "law_beatless_k11_texts_of_no_program" 792 447
def o462 (P : Params):=tO #[]
def o463 (P : Params):=vO #[]
def o464 (P : Params):=gO "_law_expr" "_law_expr" (S 43)
def o465 (P : Params):=Obj.mk (.type "code") .none (Data.fields #[(.str "_law_expr" 813),(.str "_law_expr" 814),(.str "/claim/cut.py" 815),(.int 229 0),(.int 3 0),(.int 0 0),(.int 0 0),(.int 3 0),(.ref 449),(.bool true),(.int 181 0),(.ref 450),.none,.none,.none,(.ref 451),(.int 816 0),(.int 229 0),(.str "/claim/cut.py" 817)]) #[]
def o466 (P : Params):=uO "_law_expr" "_law_expr" (S 43) "law_beatless_k11_texts_of_no_program" 792 452
def o467 (P : Params):=tO #[]
def o468 (P : Params):=vO #[]
def o469 (P : Params):=tO #[(.str "_law_told" 822)]
def o470 (P : Params):=tO #[]
def o471 (P : Params):=gO "_law_made" "_law_made" (S 44)
def o472 (P : Params):=cO "_law_made" "_law_made" 819 820 821 247 1 3 454 455 456 457 458 823 824
def o473 (P : Params):=uO "_law_made" "_law_made" (S 44) "law_beatless_k11_texts_of_no_program" 792 459
def o474 (P : Params):=tO #[]
def o475 (P : Params):=vO #[]
def o476 (P : Params):=tO #[(.str "_law_state" 829),(.str "_law_names" 830),(.str "_law_deep" 831),(.str "_law_told" 832)]
def o477 (P : Params):=tO #[]
def o478 (P : Params):=gO "_law_fits" "_law_fits" (S 45)
def o479 (P : Params):=cO "_law_fits" "_law_fits" 826 827 828 257 3 3 461 462 463 464 465 833 834
def o480 (P : Params):=uO "_law_fits" "_law_fits" (S 45) "law_beatless_k11_texts_of_no_program" 792 466
def o481 (P : Params):=tO #[]
def o482 (P : Params):=vO #[]
def o483 (P : Params):=gO "_law_size" "_law_size" (S 46)
def o484 (P : Params):=Obj.mk (.type "code") .none (Data.fields #[(.str "_law_size" 836),(.str "_law_size" 837),(.str "/claim/cut.py" 838),(.int 262 0),(.int 1 0),(.int 0 0),(.int 0 0),(.int 3 0),(.ref 468),(.bool true),(.int 181 0),(.ref 469),.none,.none,.none,(.ref 470),(.int 839 0),(.int 262 0),(.str "/claim/cut.py" 840)]) #[]
def o485 (P : Params):=uO "_law_size" "_law_size" (S 46) "law_beatless_k11_texts_of_no_program" 792 471
def o486 (P : Params):=tO #[]
def o487 (P : Params):=vO #[]
def o488 (P : Params):=tO #[(.str "_law_state" 845),(.str "_law_ahead" 846),(.str "_law_at_send" 847),(.str "_law_at_end" 848),(.str "_law_start" 849),(.str "_law_send" 850),(.str "_law_when" 851)]
def o489 (P : Params):=tO #[]
def o490 (P : Params):=gO "_law_four" "_law_four" (S 47)
def o491 (P : Params):=cO "_law_four" "_law_four" 842 843 844 266 1 3 473 474 475 476 477 852 853
def o492 (P : Params):=uO "_law_four" "_law_four" (S 47) "law_beatless_k11_texts_of_no_program" 792 478
def o493 (P : Params):=tO #[]
def o494 (P : Params):=vO #[]
def o495 (P : Params):=tO #[(.str "_law_four_here" 858)]
def o496 (P : Params):=tO #[]
def o497 (P : Params):=gO "_law_program" "_law_program" (S 48)
def o498 (P : Params):=cO "_law_program" "_law_program" 855 856 857 274 1 3 480 481 482 483 484 859 860
def o499 (P : Params):=uO "_law_program" "_law_program" (S 48) "law_beatless_k11_texts_of_no_program" 792 485
def o500 (P : Params):=tO #[]
def o501 (P : Params):=vO #[]
def o502 (P : Params):=tO #[(.str "_law_at" 865),(.str "_law_cell" 866),(.str "_law_name" 867),(.str "_law_word" 868),(.str "_law_great" 869),(.str "_law_many" 870),(.str "_law_some" 871)]
def o503 (P : Params):=tO #[]
def o504 (P : Params):=gO "_law_odd" "_law_odd" (S 49)
def o505 (P : Params):=cO "_law_odd" "_law_odd" 862 863 864 276 2 3 487 488 489 490 491 872 873
def o506 (P : Params):=uO "_law_odd" "_law_odd" (S 49) "law_beatless_k11_texts_of_no_program" 792 492
def o507 (P : Params):=tO #[]
def o508 (P : Params):=vO #[]
def o509 (P : Params):=tO #[(.str "_law_text" 878),(.str "_law_word" 879),(.str "e" 880)]
def o510 (P : Params):=tO #[]
def o511 (P : Params):=gO "_law_refused" "_law_refused" (S 50)
def o512 (P : Params):=cO "_law_refused" "_law_refused" 875 876 877 286 1 3 494 495 496 497 498 881 882
def o513 (P : Params):=uO "_law_refused" "_law_refused" (S 50) "law_beatless_k11_texts_of_no_program" 792 499
def o514 (P : Params):=tO #[]
def o515 (P : Params):=vO #[]
def o516 (P : Params):=tO #[(.str "_law_script" 887),(.str "_law_heads" 888),(.str "_law_rows" 889),(.str "_law_k" 890),(.str "_law_cell" 891),(.str "_law_at" 892),(.str "_law_bad" 893),(.str "_law_other" 894)]
def o517 (P : Params):=tO #[]
def o518 (P : Params):=gO "law" "law" (S 51)
def o519 (P : Params):=cO "law" "law" 884 885 886 297 1 3 501 502 503 504 505 895 896
def o520 (P : Params):=uO "law" "law" (S 51) "law_beatless_k11_texts_of_no_program" 792 506
def t1274:=BT.node (o14 P) (BT.node (o30 P) (BT.node (o65 P) (t940 P) (BT.node (o201 P) (t941 P) (BT.node (o468 P) .nil .nil))) (BT.node (o99 P) (BT.node (o166 P) (t709 P) (BT.node (o436 P) .nil .nil)) (BT.node (o236 P) (t944 P) (BT.node (o500 P) .nil .nil)))) (BT.node (o49 P) (BT.node (o259 P) (BT.node (o150 P) (t713 P) (BT.node (o420 P) .nil .nil)) (BT.node (o220 P) (t948 P) (BT.node (o484 P) .nil .nil))) (BT.node (o115 P) (BT.node (o185 P) (t951 P) (BT.node (o452 P) .nil .nil)) (BT.node (o252 P) (t953 P) (BT.node (o516 P) .nil .nil))))
def t1317:=BT.node (o18 P) (BT.node (o34 P) (BT.node (o69 P) (t979 P) (BT.node (o205 P) (t980 P) (BT.node (o472 P) .nil .nil))) (BT.node (o103 P) (BT.node (o170 P) (t734 P) (BT.node (o440 P) .nil .nil)) (BT.node (o240 P) (t983 P) (BT.node (o504 P) .nil .nil)))) (BT.node (o53 P) (BT.node (o87 P) (BT.node (o154 P) (t738 P) (BT.node (o424 P) .nil .nil)) (BT.node (o224 P) (t987 P) (BT.node (o488 P) .nil .nil))) (BT.node (o119 P) (BT.node (o189 P) (t990 P) (BT.node (o456 P) .nil .nil)) (BT.node (o256 P) (t992 P) (BT.node (o520 P) .nil .nil))))
def t1318:=BT.node (o0 P) (BT.node (o10 P) (BT.node (o26 P) (BT.node (o61 P) (t960 P) (BT.node (o197 P) (t961 P) (BT.node (o464 P) .nil .nil))) (BT.node (o95 P) (BT.node (o162 P) (t722 P) (BT.node (o432 P) .nil .nil)) (BT.node (o232 P) (t964 P) (BT.node (o496 P) .nil .nil)))) (BT.node (o45 P) (BT.node (o79 P) (BT.node (o146 P) (t726 P) (BT.node (o416 P) .nil .nil)) (BT.node (o213 P) (t968 P) (BT.node (o480 P) .nil .nil))) (BT.node (o111 P) (BT.node (o181 P) (t971 P) (BT.node (o448 P) .nil .nil)) (BT.node (o248 P) (t973 P) (BT.node (o512 P) .nil .nil))))) (t1317 P)
def t1361:=BT.node (o16 P) (BT.node (o32 P) (BT.node (o67 P) (t1017 P) (BT.node (o203 P) (t1018 P) (BT.node (o470 P) .nil .nil))) (BT.node (o101 P) (BT.node (o168 P) (t760 P) (BT.node (o438 P) .nil .nil)) (BT.node (o238 P) (t1021 P) (BT.node (o502 P) .nil .nil)))) (BT.node (o51 P) (BT.node (o85 P) (BT.node (o152 P) (t764 P) (BT.node (o422 P) .nil .nil)) (BT.node (o222 P) (t1025 P) (BT.node (o486 P) .nil .nil))) (BT.node (o117 P) (BT.node (o187 P) (t1028 P) (BT.node (o454 P) .nil .nil)) (BT.node (o254 P) (t1030 P) (BT.node (o518 P) .nil .nil))))
def t1402:=BT.node (o20 P) (BT.node (o36 P) (BT.node (o71 P) (t1056 P) (BT.node (o207 P) (t1057 P) (BT.node (o474 P) .nil .nil))) (BT.node (o105 P) (BT.node (o175 P) (t785 P) (BT.node (o442 P) .nil .nil)) (BT.node (o242 P) (t1060 P) (BT.node (o506 P) .nil .nil)))) (BT.node (o55 P) (BT.node (o89 P) (BT.node (o156 P) (t789 P) (BT.node (o426 P) .nil .nil)) (BT.node (o226 P) (t1064 P) (BT.node (o490 P) .nil .nil))) (BT.node (o121 P) (BT.node (o191 P) (t1067 P) (BT.node (o458 P) .nil .nil)) (t1070 P)))
def t1403:=BT.node (o2 P) (BT.node (o12 P) (BT.node (o28 P) (BT.node (o63 P) (t1037 P) (BT.node (o199 P) (t1038 P) (BT.node (o466 P) .nil .nil))) (BT.node (o97 P) (BT.node (o164 P) (t773 P) (BT.node (o434 P) .nil .nil)) (BT.node (o234 P) (t1041 P) (BT.node (o498 P) .nil .nil)))) (BT.node (o47 P) (BT.node (o81 P) (BT.node (o148 P) (t777 P) (BT.node (o418 P) .nil .nil)) (BT.node (o218 P) (t1045 P) (BT.node (o482 P) .nil .nil))) (BT.node (o113 P) (BT.node (o183 P) (t1048 P) (BT.node (o450 P) .nil .nil)) (BT.node (o250 P) (t1050 P) (BT.node (o514 P) .nil .nil))))) (t1402 P)
def t1404:=BT.node (boot_o_5 P) (BT.node (boot_o_9 P) (BT.node (o8 P) (BT.node (o24 P) (BT.node (o59 P) (t1000 P) (BT.node (o195 P) (t1001 P) (BT.node (o462 P) .nil .nil))) (BT.node (o93 P) (BT.node (o160 P) (t748 P) (BT.node (o430 P) .nil .nil)) (BT.node (o230 P) (t1004 P) (BT.node (o494 P) .nil .nil)))) (BT.node (o43 P) (BT.node (o77 P) (BT.node (o144 P) (t752 P) (BT.node (o414 P) .nil .nil)) (BT.node (o211 P) (t1008 P) (BT.node (o478 P) .nil .nil))) (BT.node (o109 P) (BT.node (o179 P) (t911 P) (BT.node (o446 P) .nil .nil)) (BT.node (o246 P) (t1011 P) (BT.node (o510 P) .nil .nil))))) (t1361 P)) (t1403 P)
def t1447:=BT.node (o15 P) (BT.node (o31 P) (BT.node (o66 P) (t1095 P) (BT.node (o202 P) (t1096 P) (BT.node (o469 P) .nil .nil))) (BT.node (o100 P) (BT.node (o167 P) (t817 P) (BT.node (o437 P) .nil .nil)) (BT.node (o237 P) (t1099 P) (BT.node (o501 P) .nil .nil)))) (BT.node (o50 P) (BT.node (o84 P) (BT.node (o151 P) (t821 P) (BT.node (o421 P) .nil .nil)) (BT.node (o221 P) (t1103 P) (BT.node (o485 P) .nil .nil))) (BT.node (o116 P) (BT.node (o186 P) (t1106 P) (BT.node (o453 P) .nil .nil)) (BT.node (o253 P) (t1108 P) (BT.node (o517 P) .nil .nil))))
def t1488:=BT.node (o19 P) (BT.node (o35 P) (BT.node (o70 P) (t1134 P) (BT.node (o206 P) (t1135 P) (BT.node (o473 P) .nil .nil))) (BT.node (o104 P) (BT.node (o174 P) (t842 P) (BT.node (o441 P) .nil .nil)) (BT.node (o241 P) (t1138 P) (BT.node (o505 P) .nil .nil)))) (BT.node (o54 P) (BT.node (o88 P) (BT.node (o155 P) (t846 P) (BT.node (o425 P) .nil .nil)) (BT.node (o225 P) (t1142 P) (BT.node (o489 P) .nil .nil))) (BT.node (o120 P) (BT.node (o190 P) (t1145 P) (BT.node (o457 P) .nil .nil)) (t1148 P)))
def t1489:=BT.node (o412 P) (BT.node (o11 P) (BT.node (o27 P) (BT.node (o62 P) (t1115 P) (BT.node (o198 P) (t1116 P) (BT.node (o465 P) .nil .nil))) (BT.node (o96 P) (BT.node (o163 P) (t830 P) (BT.node (o433 P) .nil .nil)) (BT.node (o233 P) (t1119 P) (BT.node (o497 P) .nil .nil)))) (BT.node (o46 P) (BT.node (o80 P) (BT.node (o147 P) (t834 P) (BT.node (o417 P) .nil .nil)) (BT.node (o217 P) (t1123 P) (BT.node (o481 P) .nil .nil))) (BT.node (o112 P) (BT.node (o182 P) (t1126 P) (BT.node (o449 P) .nil .nil)) (BT.node (o249 P) (t1128 P) (BT.node (o513 P) .nil .nil))))) (t1488 P)
def t1532:=BT.node (o17 P) (BT.node (o33 P) (BT.node (o68 P) (t1174 P) (BT.node (o204 P) (t1175 P) (BT.node (o471 P) .nil .nil))) (BT.node (o102 P) (BT.node (o169 P) (t870 P) (BT.node (o439 P) .nil .nil)) (BT.node (o239 P) (t1178 P) (BT.node (o503 P) .nil .nil)))) (BT.node (o52 P) (BT.node (o86 P) (BT.node (o153 P) (t874 P) (BT.node (o423 P) .nil .nil)) (BT.node (o223 P) (t1182 P) (BT.node (o487 P) .nil .nil))) (BT.node (o118 P) (BT.node (o188 P) (t1185 P) (BT.node (o455 P) .nil .nil)) (BT.node (o255 P) (t1187 P) (BT.node (o519 P) .nil .nil))))
def t1573:=BT.node (o21 P) (BT.node (o37 P) (BT.node (o74 P) (t1213 P) (BT.node (o208 P) (t1214 P) (BT.node (o475 P) .nil .nil))) (BT.node (o106 P) (BT.node (o176 P) (t895 P) (BT.node (o443 P) .nil .nil)) (BT.node (o243 P) (t1217 P) (BT.node (o507 P) .nil .nil)))) (BT.node (o56 P) (BT.node (o90 P) (BT.node (o157 P) (t899 P) (BT.node (o427 P) .nil .nil)) (BT.node (o227 P) (t1221 P) (BT.node (o491 P) .nil .nil))) (BT.node (o122 P) (BT.node (o192 P) (t1224 P) (BT.node (o459 P) .nil .nil)) (t1227 P)))
def t1574:=BT.node (o3 P) (BT.node (o13 P) (BT.node (o29 P) (BT.node (o64 P) (t1194 P) (BT.node (o200 P) (t1195 P) (BT.node (o467 P) .nil .nil))) (BT.node (o98 P) (BT.node (o165 P) (t883 P) (BT.node (o435 P) .nil .nil)) (BT.node (o235 P) (t1198 P) (BT.node (o499 P) .nil .nil)))) (BT.node (o48 P) (BT.node (o82 P) (BT.node (o149 P) (t887 P) (BT.node (o419 P) .nil .nil)) (BT.node (o219 P) (t1202 P) (BT.node (o483 P) .nil .nil))) (BT.node (o114 P) (BT.node (o184 P) (t1205 P) (BT.node (o451 P) .nil .nil)) (BT.node (o251 P) (t1207 P) (BT.node (o515 P) .nil .nil))))) (t1573 P)
def t1575:=BT.node (boot_o_6 P) (BT.node (boot_o_10 P) (BT.node (o9 P) (BT.node (o25 P) (BT.node (o60 P) (t1155 P) (BT.node (o196 P) (t1156 P) (BT.node (o463 P) .nil .nil))) (BT.node (o94 P) (BT.node (o161 P) (t858 P) (BT.node (o431 P) .nil .nil)) (BT.node (o231 P) (t1159 P) (BT.node (o495 P) .nil .nil)))) (BT.node (o44 P) (BT.node (o78 P) (BT.node (o145 P) (t862 P) (BT.node (o415 P) .nil .nil)) (BT.node (o212 P) (t1163 P) (BT.node (o479 P) .nil .nil))) (BT.node (o110 P) (BT.node (o180 P) (t1166 P) (BT.node (o447 P) .nil .nil)) (BT.node (o247 P) (t1168 P) (BT.node (o511 P) .nil .nil))))) (t1532 P)) (t1574 P)
def t1576:=BT.node (boot_o_2 P) (BT.node (boot_o_4 P) (BT.node (boot_o_8 P) (BT.node (o7 P) (BT.node (o23 P) (BT.node (o58 P) (t1078 P) (BT.node (o194 P) (t1079 P) (BT.node (o461 P) .nil .nil))) (BT.node (o92 P) (BT.node (o159 P) (t802 P) (BT.node (o429 P) .nil .nil)) (BT.node (o229 P) (t1082 P) (BT.node (o493 P) .nil .nil)))) (BT.node (o42 P) (BT.node (o76 P) (BT.node (o143 P) (t806 P) (BT.node (o413 P) .nil .nil)) (BT.node (o210 P) (t1086 P) (BT.node (o477 P) .nil .nil))) (BT.node (o108 P) (BT.node (o178 P) (t809 P) (BT.node (o445 P) .nil .nil)) (BT.node (o245 P) (t1089 P) (BT.node (o509 P) .nil .nil))))) (t1447 P)) (t1489 P)) (t1575 P)
def t1577:=BT.node (boot_o_0 P) (BT.node (boot_o_1 P) (BT.node (o411 P) (BT.node (boot_o_7 P) (BT.node (o6 P) (BT.node (o40 P) (BT.node (o57 P) (t921 P) (BT.node (o193 P) (t922 P) (BT.node (o460 P) .nil .nil))) (BT.node (o91 P) (BT.node (o158 P) (t694 P) (BT.node (o428 P) .nil .nil)) (BT.node (o228 P) (t925 P) (BT.node (o492 P) .nil .nil)))) (BT.node (o41 P) (BT.node (o75 P) (t930 P) (BT.node (o209 P) (t931 P) (BT.node (o476 P) .nil .nil))) (BT.node (o107 P) (BT.node (o177 P) (t701 P) (BT.node (o444 P) .nil .nil)) (BT.node (o244 P) (t934 P) (BT.node (o508 P) .nil .nil))))) (t1274 P)) (t1318 P)) (t1404 P)) (t1576 P)
def sb10 (w : World) (os : OsState) : SharedT:=⟨(t1577 w.params),508,(Life.mk [] [] [] 0 [] [] false #[] [] 0 false false false 0 [2000,10,10] false 0 true [] [] 0 false),⟨[]⟩,(Drawn.mk 0 0 0 0),898,os⟩
def L9 (w : World) (os : OsState) : Option (Flow × SharedT × Code × Pos):=segRunT treeTable PySem.Challenge.pw_beatless_k11_texts_of_no_program w 11 an 1 508 (sb9 w os) (piecesOf sts9 env cE (Pos.mk 167 0 172 73) B)
def R9 (w : World) (os : OsState) : Option (Flow × SharedT × Code × Pos):=some (.next,sb10 w os,cE,(Pos.mk 297 0 310 55))
theorem q9 : tt (Hd.L9,Hd.R9) = true:=by k_qdec
theorem r9 : ∀ w,Fast.tw16134767483146388640 w = Fast.tw11929225935839250262 w:=fun w=>by kernel_rfl
theorem e9 (w : World) (os : OsState) : Hd.L9 w os = Hd.R9 w os :=
  (congrFun (congrFun Fast.te16134767483146388640 w) os).trans ((congrFun (r9 w) os).trans (congrFun (congrFun Fast.te11929225935839250262 w) os).symm)
def h42 : List Obj:=o517 P :: o518 P :: o519 P :: o520 P :: []
def h41 : List Obj:=o505 P :: o506 P :: o507 P :: o508 P :: o509 P :: o510 P :: o511 P :: o512 P :: o513 P :: o514 P :: o515 P :: o516 P :: h42 P
def h40 : List Obj:=o493 P :: o494 P :: o495 P :: o496 P :: o497 P :: o498 P :: o499 P :: o500 P :: o501 P :: o502 P :: o503 P :: o504 P :: h41 P
def h39 : List Obj:=o481 P :: o482 P :: o483 P :: o484 P :: o485 P :: o486 P :: o487 P :: o488 P :: o489 P :: o490 P :: o491 P :: o492 P :: h40 P
def h38 : List Obj:=o469 P :: o470 P :: o471 P :: o472 P :: o473 P :: o474 P :: o475 P :: o476 P :: o477 P :: o478 P :: o479 P :: o480 P :: h39 P
def h37 : List Obj:=o457 P :: o458 P :: o459 P :: o460 P :: o461 P :: o462 P :: o463 P :: o464 P :: o465 P :: o466 P :: o467 P :: o468 P :: h38 P
def h36 : List Obj:=o445 P :: o446 P :: o447 P :: o448 P :: o449 P :: o450 P :: o451 P :: o452 P :: o453 P :: o454 P :: o455 P :: o456 P :: h37 P
def h35 : List Obj:=o433 P :: o434 P :: o435 P :: o436 P :: o437 P :: o438 P :: o439 P :: o440 P :: o441 P :: o442 P :: o443 P :: o444 P :: h36 P
def h34 : List Obj:=o421 P :: o422 P :: o423 P :: o424 P :: o425 P :: o426 P :: o427 P :: o428 P :: o429 P :: o430 P :: o431 P :: o432 P :: h35 P
def h33 : List Obj:=o407 P :: o408 P :: o409 P :: o410 P :: o413 P :: o414 P :: o415 P :: o416 P :: o417 P :: o418 P :: o419 P :: o420 P :: h34 P
def h32 : List Obj:=o395 P :: o396 P :: o397 P :: o398 P :: o399 P :: o400 P :: o401 P :: o402 P :: o403 P :: o404 P :: o405 P :: o406 P :: h33 P
def h31 : List Obj:=o383 P :: o384 P :: o385 P :: o386 P :: o387 P :: o388 P :: o389 P :: o390 P :: o391 P :: o392 P :: o393 P :: o394 P :: h32 P
def h30 : List Obj:=o371 P :: o372 P :: o373 P :: o374 P :: o375 P :: o376 P :: o377 P :: o378 P :: o379 P :: o380 P :: o381 P :: o382 P :: h31 P
def h29 : List Obj:=o359 P :: o360 P :: o361 P :: o362 P :: o363 P :: o364 P :: o365 P :: o366 P :: o367 P :: o368 P :: o369 P :: o370 P :: h30 P
def h28 : List Obj:=o347 P :: o348 P :: o349 P :: o350 P :: o351 P :: o352 P :: o353 P :: o354 P :: o355 P :: o356 P :: o357 P :: o358 P :: h29 P
def h27 : List Obj:=o335 P :: o336 P :: o337 P :: o338 P :: o339 P :: o340 P :: o341 P :: o342 P :: o343 P :: o344 P :: o345 P :: o346 P :: h28 P
def h26 : List Obj:=o323 P :: o324 P :: o325 P :: o326 P :: o327 P :: o328 P :: o329 P :: o330 P :: o331 P :: o332 P :: o333 P :: o334 P :: h27 P
def h25 : List Obj:=o308 P :: o309 P :: o310 P :: o311 P :: o312 P :: o314 P :: o317 P :: o318 P :: o319 P :: o320 P :: o321 P :: o322 P :: h26 P
def h24 : List Obj:=o296 P :: o297 P :: o298 P :: o299 P :: o300 P :: o301 P :: o302 P :: o303 P :: o304 P :: o305 P :: o306 P :: o307 P :: h25 P
def h23 : List Obj:=o284 P :: o285 P :: o286 P :: o287 P :: o288 P :: o289 P :: o290 P :: o291 P :: o292 P :: o293 P :: o294 P :: o295 P :: h24 P
def h22 : List Obj:=o272 P :: o273 P :: o274 P :: o275 P :: o276 P :: o277 P :: o278 P :: o279 P :: o280 P :: o281 P :: o282 P :: o283 P :: h23 P
def h21 : List Obj:=o260 P :: o261 P :: o262 P :: o263 P :: o264 P :: o265 P :: o266 P :: o267 P :: o268 P :: o269 P :: o270 P :: o271 P :: h22 P
def h20 : List Obj:=o245 P :: o246 P :: o247 P :: o248 P :: o249 P :: o250 P :: o251 P :: o252 P :: o253 P :: o254 P :: o255 P :: o256 P :: h21 P
def h19 : List Obj:=o233 P :: o234 P :: o235 P :: o236 P :: o237 P :: o238 P :: o239 P :: o240 P :: o241 P :: o242 P :: o243 P :: o244 P :: h20 P
def h18 : List Obj:=o221 P :: o222 P :: o223 P :: o224 P :: o225 P :: o226 P :: o227 P :: o228 P :: o229 P :: o230 P :: o231 P :: o232 P :: h19 P
def h17 : List Obj:=o206 P :: o207 P :: o208 P :: o209 P :: o210 P :: o211 P :: o212 P :: o213 P :: o217 P :: o218 P :: o219 P :: o220 P :: h18 P
def h16 : List Obj:=o194 P :: o195 P :: o196 P :: o197 P :: o198 P :: o199 P :: o200 P :: o201 P :: o202 P :: o203 P :: o204 P :: o205 P :: h17 P
def h15 : List Obj:=o182 P :: o183 P :: o184 P :: o185 P :: o186 P :: o187 P :: o188 P :: o189 P :: o190 P :: o191 P :: o192 P :: o193 P :: h16 P
def h14 : List Obj:=o167 P :: o168 P :: o169 P :: o170 P :: o174 P :: o175 P :: o176 P :: o177 P :: o178 P :: o179 P :: o180 P :: o181 P :: h15 P
def h13 : List Obj:=o155 P :: o156 P :: o157 P :: o158 P :: o159 P :: o160 P :: o161 P :: o162 P :: o163 P :: o164 P :: o165 P :: o166 P :: h14 P
def h12 : List Obj:=o143 P :: o144 P :: o145 P :: o146 P :: o147 P :: o148 P :: o149 P :: o150 P :: o151 P :: o152 P :: o153 P :: o154 P :: h13 P
def h11 : List Obj:=o131 P :: o132 P :: o133 P :: o134 P :: o135 P :: o136 P :: o137 P :: o138 P :: o139 P :: o140 P :: o141 P :: o142 P :: h12 P
def h10 : List Obj:=o116 P :: o117 P :: o118 P :: o119 P :: o120 P :: o121 P :: o122 P :: o123 P :: o124 P :: o125 P :: o126 P :: o127 P :: h11 P
def h9 : List Obj:=o104 P :: o105 P :: o106 P :: o107 P :: o108 P :: o109 P :: o110 P :: o111 P :: o112 P :: o113 P :: o114 P :: o115 P :: h10 P
def h8 : List Obj:=o92 P :: o93 P :: o94 P :: o95 P :: o96 P :: o97 P :: o98 P :: o99 P :: o100 P :: o101 P :: o102 P :: o103 P :: h9 P
def h7 : List Obj:=o80 P :: o81 P :: o82 P :: o259 P :: o84 P :: o85 P :: o86 P :: o87 P :: o88 P :: o89 P :: o90 P :: o91 P :: h8 P
def h6 : List Obj:=o66 P :: o67 P :: o68 P :: o69 P :: o70 P :: o71 P :: o74 P :: o75 P :: o76 P :: o77 P :: o78 P :: o79 P :: h7 P
def h5 : List Obj:=o54 P :: o55 P :: o56 P :: o57 P :: o58 P :: o59 P :: o60 P :: o61 P :: o62 P :: o63 P :: o64 P :: o65 P :: h6 P
def h4 : List Obj:=o42 P :: o43 P :: o44 P :: o45 P :: o46 P :: o47 P :: o48 P :: o49 P :: o50 P :: o51 P :: o52 P :: o53 P :: h5 P
def h3 : List Obj:=o27 P :: o28 P :: o29 P :: o30 P :: o31 P :: o32 P :: o33 P :: o34 P :: o35 P :: o36 P :: o37 P :: o41 P :: h4 P
def h2 : List Obj:=o15 P :: o16 P :: o17 P :: o18 P :: o19 P :: o20 P :: o21 P :: o40 P :: o23 P :: o24 P :: o25 P :: o26 P :: h3 P
def h1 : List Obj:=o412 P :: o2 P :: o3 P :: o6 P :: o7 P :: o8 P :: o9 P :: o10 P :: o11 P :: o12 P :: o13 P :: o14 P :: h2 P
def h0 : List Obj:=boot_o_0 P :: boot_o_1 P :: boot_o_2 P :: o411 P :: boot_o_4 P :: boot_o_5 P :: boot_o_6 P :: boot_o_7 P :: boot_o_8 P :: boot_o_9 P :: boot_o_10 P :: o0 P :: h1 P
def H1 : Heap:=⟨⟨h0 P⟩,(Life.mk [] [] [] 0 [] [] false #[] [] 0 false false false 0 [2000,10,10] false 0 true [] [] 0 false)⟩
def sf (w : World) (os : OsState) : Shared:=⟨H1 w.params,⟨[]⟩,(Drawn.mk 0 0 0 0),898,os⟩
def Lf (w : World) (os : OsState) : Option Shared:=topRun treeTable PySem.Challenge.pw_beatless_k11_texts_of_no_program w 11 an 2 (sb10 w os).abs ⟨doneF .next,cE,(Pos.mk 297 0 310 55),B⟩
def Rf (w : World) (os : OsState) : Option Shared:=some (sf w os)
theorem qf : tt (Hd.Lf,Hd.Rf) = true:=by k_qdec
theorem rf : ∀ w,Fast.tw2640074843757178226 w = Fast.tw15533242664859900563 w:=fun w=>by kernel_rfl
theorem ef (w : World) (os : OsState) : Hd.Lf w os = Hd.Rf w os :=
  (congrFun (congrFun Fast.te2640074843757178226 w) os).trans ((congrFun (rf w) os).trans (congrFun (congrFun Fast.te15533242664859900563 w) os).symm)
theorem cut : bE = sts0 ++ (sts1 ++ (sts2 ++ (sts3 ++ (sts4 ++ (sts5 ++ (sts6 ++ (sts7 ++ (sts8 ++ (sts9 ++ ([])))))))))):=by kernel_rfl
theorem run (w : World) (os : OsState) : topRun treeTable PySem.Challenge.pw_beatless_k11_texts_of_no_program w 11 an (12 + (1 + (438 + (468 + (530 + (340 + (346 + (342 + (485 + (101 + (595 + (508 + 2)))))))))))) (s0 w os) (topStub PySem.Challenge.pw_beatless_k11_texts_of_no_program) = some (sf w os):=by
  refine go_top (ea w os) (piece_block (q:=qE) (env:=env) (b:=bE) (segRun_of (eb w os)) ?_)
  rw [show restOf bE env cE (Pos.mk 0 0 0 0) [topFrame qE] = restOf _ env cE _ [topFrame qE] from congrArg (fun l=>restOf l env cE (Pos.mk 0 0 0 0) [topFrame qE]) cut]
  refine piece_app (segRun_of (e0 w os)) ?_
  refine piece_app (segRun_of (e1 w os)) ?_
  refine piece_app (segRun_of (e2 w os)) ?_
  refine piece_app (segRun_of (e3 w os)) ?_
  refine piece_app (segRun_of (e4 w os)) ?_
  refine piece_app (segRun_of (e5 w os)) ?_
  refine piece_app (segRun_of (e6 w os)) ?_
  refine piece_app (segRun_of (e7 w os)) ?_
  refine piece_app (segRun_of (e8 w os)) ?_
  refine piece_app (segRun_of (e9 w os)) ?_
  exact ef w os
def M : Nat:=12 + (1 + (438 + (468 + (530 + (340 + (346 + (342 + (485 + (101 + (595 + (508 + 2)))))))))))
abbrev rW : RowW:=(PySem.Challenge.rw_beatless_k11_texts_of_no_program.row).toRowW
def Q : Program:={ PySem.Challenge.pw_beatless_k11_texts_of_no_program with main:={ PySem.Challenge.pw_beatless_k11_texts_of_no_program.main with body:=[S 0,S 2,S 3,S 4,S 5,S 7,S 8,S 9,S 10,S 11,S 12,S 14,S 16,S 17,S 18,S 19,S 20,S 21,S 22,S 23,S 24,S 25,S 26,S 27,S 28,S 29,S 30,S 31,S 32,S 33,S 34,S 35,S 36,S 37,S 38,S 39,S 41,S 42,S 43,S 44,S 45,S 46,S 47,S 48,S 49,S 50,S 51] } }
def Xt (s : Shared) : Bool:=xlAt Q [] s && recOk (RowW.records rW) s
def K : Frag:=(nat_lit 2,boot_o_2 P) :: (nat_lit 3,o411 P) :: (nat_lit 15,o6 P) :: (nat_lit 17,o8 P) :: (nat_lit 18,o9 P) :: (nat_lit 20,o11 P) :: (nat_lit 21,o12 P) :: (nat_lit 22,o13 P) :: (nat_lit 29,o20 P) :: (nat_lit 30,o21 P) :: (nat_lit 31,o40 P) :: (nat_lit 32,o23 P) :: (nat_lit 35,o26 P) :: (nat_lit 42,o33 P) :: (nat_lit 43,o34 P) :: (nat_lit 44,o35 P) :: (nat_lit 47,o41 P) :: (nat_lit 54,o48 P) :: (nat_lit 56,o50 P) :: (nat_lit 57,o51 P) :: (nat_lit 59,o53 P) :: (nat_lit 60,o54 P) :: (nat_lit 61,o55 P) :: (nat_lit 62,o56 P) :: (nat_lit 63,o57 P) :: (nat_lit 66,o60 P) :: (nat_lit 73,o67 P) :: (nat_lit 74,o68 P) :: (nat_lit 75,o69 P) :: (nat_lit 85,o81 P) :: (nat_lit 86,o82 P) :: (nat_lit 87,o259 P) :: (nat_lit 88,o84 P) :: (nat_lit 89,o85 P) :: (nat_lit 92,o88 P) :: (nat_lit 99,o95 P) :: (nat_lit 101,o97 P) :: (nat_lit 102,o98 P) :: (nat_lit 104,o100 P) :: (nat_lit 105,o101 P) :: (nat_lit 106,o102 P) :: (nat_lit 108,o104 P) :: (nat_lit 109,o105 P) :: (nat_lit 111,o107 P) :: (nat_lit 112,o108 P) :: (nat_lit 113,o109 P) :: (nat_lit 115,o111 P) :: (nat_lit 116,o112 P) :: (nat_lit 118,o114 P) :: (nat_lit 119,o115 P) :: (nat_lit 120,o116 P) :: (nat_lit 122,o118 P) :: (nat_lit 123,o119 P) :: (nat_lit 125,o121 P) :: (nat_lit 126,o122 P) :: (nat_lit 127,o123 P) :: (nat_lit 128,o124 P) :: (nat_lit 129,o125 P) :: (nat_lit 132,o131 P) :: (nat_lit 139,o138 P) :: (nat_lit 141,o140 P) :: (nat_lit 142,o141 P) :: (nat_lit 144,o143 P) :: (nat_lit 145,o144 P) :: (nat_lit 146,o145 P) :: (nat_lit 148,o147 P) :: (nat_lit 149,o148 P) :: (nat_lit 151,o150 P) :: (nat_lit 152,o151 P) :: (nat_lit 153,o152 P) :: (nat_lit 155,o154 P) :: (nat_lit 156,o155 P) :: (nat_lit 158,o157 P) :: (nat_lit 159,o158 P) :: (nat_lit 160,o159 P) :: (nat_lit 162,o161 P) :: (nat_lit 163,o162 P) :: (nat_lit 165,o164 P) :: (nat_lit 166,o165 P) :: (nat_lit 167,o166 P) :: (nat_lit 168,o167 P) :: (nat_lit 169,o168 P) :: (nat_lit 172,o174 P) :: (nat_lit 179,o181 P) :: (nat_lit 181,o183 P) :: (nat_lit 182,o184 P) :: (nat_lit 184,o186 P) :: (nat_lit 185,o187 P) :: (nat_lit 186,o188 P) :: (nat_lit 188,o190 P) :: (nat_lit 189,o191 P) :: (nat_lit 191,o193 P) :: (nat_lit 192,o194 P) :: (nat_lit 193,o195 P) :: (nat_lit 195,o197 P) :: (nat_lit 196,o198 P) :: (nat_lit 198,o200 P) :: (nat_lit 199,o201 P) :: (nat_lit 200,o202 P) :: (nat_lit 202,o204 P) :: (nat_lit 203,o205 P) :: (nat_lit 205,o207 P) :: (nat_lit 206,o208 P) :: (nat_lit 207,o209 P) :: (nat_lit 208,o210 P) :: (nat_lit 209,o211 P) :: (nat_lit 212,o217 P) :: (nat_lit 219,o224 P) :: (nat_lit 221,o226 P) :: (nat_lit 222,o227 P) :: (nat_lit 224,o229 P) :: (nat_lit 225,o230 P) :: (nat_lit 226,o231 P) :: (nat_lit 228,o233 P) :: (nat_lit 229,o234 P) :: (nat_lit 231,o236 P) :: (nat_lit 232,o237 P) :: (nat_lit 233,o238 P) :: (nat_lit 235,o240 P) :: (nat_lit 236,o241 P) :: (nat_lit 238,o243 P) :: (nat_lit 239,o244 P) :: (nat_lit 240,o245 P) :: (nat_lit 242,o247 P) :: (nat_lit 243,o248 P) :: (nat_lit 245,o250 P) :: (nat_lit 246,o251 P) :: (nat_lit 247,o252 P) :: (nat_lit 248,o253 P) :: (nat_lit 249,o254 P) :: (nat_lit 252,o260 P) :: (nat_lit 259,o267 P) :: (nat_lit 261,o269 P) :: (nat_lit 262,o270 P) :: (nat_lit 264,o272 P) :: (nat_lit 265,o273 P) :: (nat_lit 266,o274 P) :: (nat_lit 268,o276 P) :: (nat_lit 269,o277 P) :: (nat_lit 271,o279 P) :: (nat_lit 272,o280 P) :: (nat_lit 273,o281 P) :: (nat_lit 275,o283 P) :: (nat_lit 276,o284 P) :: (nat_lit 278,o286 P) :: (nat_lit 279,o287 P) :: (nat_lit 280,o288 P) :: (nat_lit 282,o290 P) :: (nat_lit 283,o291 P) :: (nat_lit 285,o293 P) :: (nat_lit 286,o294 P) :: (nat_lit 287,o295 P) :: (nat_lit 288,o296 P) :: (nat_lit 289,o297 P) :: (nat_lit 292,o300 P) :: (nat_lit 294,o302 P) :: (nat_lit 295,o303 P) :: (nat_lit 297,o305 P) :: (nat_lit 298,o306 P) :: (nat_lit 299,o307 P) :: (nat_lit 300,o308 P) :: (nat_lit 301,o309 P) :: (nat_lit 302,o310 P) :: (nat_lit 303,o311 P) :: (nat_lit 304,o312 P) :: (nat_lit 305,o314 P) :: (nat_lit 306,o317 P) :: (nat_lit 308,o319 P) :: (nat_lit 309,o320 P) :: (nat_lit 311,o322 P) :: (nat_lit 312,o323 P) :: (nat_lit 313,o324 P) :: (nat_lit 315,o326 P) :: (nat_lit 316,o327 P) :: (nat_lit 318,o329 P) :: (nat_lit 319,o330 P) :: (nat_lit 320,o331 P) :: (nat_lit 322,o333 P) :: (nat_lit 323,o334 P) :: (nat_lit 325,o336 P) :: (nat_lit 326,o337 P) :: (nat_lit 327,o338 P) :: (nat_lit 329,o340 P) :: (nat_lit 330,o341 P) :: (nat_lit 332,o343 P) :: (nat_lit 333,o344 P) :: (nat_lit 334,o345 P) :: (nat_lit 336,o347 P) :: (nat_lit 337,o348 P) :: (nat_lit 339,o350 P) :: (nat_lit 340,o351 P) :: (nat_lit 341,o352 P) :: (nat_lit 344,o355 P) :: (nat_lit 345,o356 P) :: (nat_lit 353,o364 P) :: (nat_lit 355,o366 P) :: (nat_lit 356,o367 P) :: (nat_lit 358,o369 P) :: (nat_lit 359,o370 P) :: (nat_lit 360,o371 P) :: (nat_lit 362,o373 P) :: (nat_lit 363,o374 P) :: (nat_lit 365,o376 P) :: (nat_lit 366,o377 P) :: (nat_lit 367,o378 P) :: (nat_lit 369,o380 P) :: (nat_lit 370,o381 P) :: (nat_lit 372,o383 P) :: (nat_lit 373,o384 P) :: (nat_lit 374,o385 P) :: (nat_lit 376,o387 P) :: (nat_lit 377,o388 P) :: (nat_lit 379,o390 P) :: (nat_lit 380,o391 P) :: (nat_lit 381,o392 P) :: (nat_lit 382,o393 P) :: (nat_lit 383,o394 P) :: (nat_lit 384,o395 P) :: (nat_lit 385,o396 P) :: (nat_lit 388,o399 P) :: (nat_lit 391,o402 P) :: (nat_lit 392,o403 P) :: (nat_lit 393,o404 P) :: (nat_lit 395,o406 P) :: (nat_lit 396,o407 P) :: (nat_lit 398,o409 P) :: (nat_lit 399,o410 P) :: (nat_lit 400,o413 P) :: (nat_lit 402,o415 P) :: (nat_lit 403,o416 P) :: (nat_lit 405,o418 P) :: (nat_lit 406,o419 P) :: (nat_lit 407,o420 P) :: (nat_lit 409,o422 P) :: (nat_lit 410,o423 P) :: (nat_lit 412,o425 P) :: (nat_lit 413,o426 P) :: (nat_lit 414,o427 P) :: (nat_lit 416,o429 P) :: (nat_lit 417,o430 P) :: (nat_lit 419,o432 P) :: (nat_lit 420,o433 P) :: (nat_lit 421,o434 P) :: (nat_lit 423,o436 P) :: (nat_lit 424,o437 P) :: (nat_lit 426,o439 P) :: (nat_lit 427,o440 P) :: (nat_lit 428,o441 P) :: (nat_lit 430,o443 P) :: (nat_lit 431,o444 P) :: (nat_lit 433,o446 P) :: (nat_lit 434,o447 P) :: (nat_lit 435,o448 P) :: (nat_lit 437,o450 P) :: (nat_lit 438,o451 P) :: (nat_lit 440,o453 P) :: (nat_lit 441,o454 P) :: (nat_lit 442,o455 P) :: (nat_lit 444,o457 P) :: (nat_lit 445,o458 P) :: (nat_lit 447,o460 P) :: (nat_lit 448,o461 P) :: (nat_lit 449,o462 P) :: (nat_lit 452,o465 P) :: (nat_lit 453,o466 P) :: (nat_lit 454,o467 P) :: (nat_lit 456,o469 P) :: (nat_lit 457,o470 P) :: (nat_lit 459,o472 P) :: (nat_lit 460,o473 P) :: (nat_lit 461,o474 P) :: (nat_lit 463,o476 P) :: (nat_lit 464,o477 P) :: (nat_lit 466,o479 P) :: (nat_lit 467,o480 P) :: (nat_lit 468,o481 P) :: (nat_lit 471,o484 P) :: (nat_lit 472,o485 P) :: (nat_lit 473,o486 P) :: (nat_lit 475,o488 P) :: (nat_lit 476,o489 P) :: (nat_lit 478,o491 P) :: (nat_lit 479,o492 P) :: (nat_lit 480,o493 P) :: (nat_lit 482,o495 P) :: (nat_lit 483,o496 P) :: (nat_lit 485,o498 P) :: (nat_lit 486,o499 P) :: (nat_lit 487,o500 P) :: (nat_lit 489,o502 P) :: (nat_lit 490,o503 P) :: (nat_lit 492,o505 P) :: (nat_lit 493,o506 P) :: (nat_lit 494,o507 P) :: (nat_lit 496,o509 P) :: (nat_lit 497,o510 P) :: (nat_lit 499,o512 P) :: (nat_lit 500,o513 P) :: (nat_lit 501,o514 P) :: (nat_lit 503,o516 P) :: (nat_lit 504,o517 P) :: (nat_lit 506,o519 P) :: (nat_lit 507,o520 P) :: []
def as : List Addr:=[2,3,15,17,18,20,21,22,29,30,31,32,35,42,43,44,47,54,56,57,59,60,61,62,63,66,73,74,75,85,86,87,88,89,92,99,101,102,104,105,106,108,109,111,112,113,115,116,118,119,120,122,123,125,126,127,128,129,132,139,141,142,144,145,146,148,149,151,152,153,155,156,158,159,160,162,163,165,166,167,168,169,172,179,181,182,184,185,186,188,189,191,192,193,195,196,198,199,200,202,203,205,206,207,208,209,212,219,221,222,224,225,226,228,229,231,232,233,235,236,238,239,240,242,243,245,246,247,248,249,252,259,261,262,264,265,266,268,269,271,272,273,275,276,278,279,280,282,283,285,286,287,288,289,292,294,295,297,298,299,300,301,302,303,304,305,306,308,309,311,312,313,315,316,318,319,320,322,323,325,326,327,329,330,332,333,334,336,337,339,340,341,344,345,353,355,356,358,359,360,362,363,365,366,367,369,370,372,373,374,376,377,379,380,381,382,383,384,385,388,391,392,393,395,396,398,399,400,402,403,405,406,407,409,410,412,413,414,416,417,419,420,421,423,424,426,427,428,430,431,433,434,435,437,438,440,441,442,444,445,447,448,449,452,453,454,456,457,459,460,461,463,464,466,467,468,471,472,473,475,476,478,479,480,482,483,485,486,487,489,490,492,493,494,496,497,499,500,501,503,504,506,507]
def y25 : List (Option Obj):=some (o517 P) :: some (o519 P) :: some (o520 P) :: []
def y24 : List (Option Obj):=some (o500 P) :: some (o502 P) :: some (o503 P) :: some (o505 P) :: some (o506 P) :: some (o507 P) :: some (o509 P) :: some (o510 P) :: some (o512 P) :: some (o513 P) :: some (o514 P) :: some (o516 P) :: y25 P
def y23 : List (Option Obj):=some (o484 P) :: some (o485 P) :: some (o486 P) :: some (o488 P) :: some (o489 P) :: some (o491 P) :: some (o492 P) :: some (o493 P) :: some (o495 P) :: some (o496 P) :: some (o498 P) :: some (o499 P) :: y24 P
def y22 : List (Option Obj):=some (o466 P) :: some (o467 P) :: some (o469 P) :: some (o470 P) :: some (o472 P) :: some (o473 P) :: some (o474 P) :: some (o476 P) :: some (o477 P) :: some (o479 P) :: some (o480 P) :: some (o481 P) :: y23 P
def y21 : List (Option Obj):=some (o448 P) :: some (o450 P) :: some (o451 P) :: some (o453 P) :: some (o454 P) :: some (o455 P) :: some (o457 P) :: some (o458 P) :: some (o460 P) :: some (o461 P) :: some (o462 P) :: some (o465 P) :: y22 P
def y20 : List (Option Obj):=some (o432 P) :: some (o433 P) :: some (o434 P) :: some (o436 P) :: some (o437 P) :: some (o439 P) :: some (o440 P) :: some (o441 P) :: some (o443 P) :: some (o444 P) :: some (o446 P) :: some (o447 P) :: y21 P
def y19 : List (Option Obj):=some (o415 P) :: some (o416 P) :: some (o418 P) :: some (o419 P) :: some (o420 P) :: some (o422 P) :: some (o423 P) :: some (o425 P) :: some (o426 P) :: some (o427 P) :: some (o429 P) :: some (o430 P) :: y20 P
def y18 : List (Option Obj):=some (o394 P) :: some (o395 P) :: some (o396 P) :: some (o399 P) :: some (o402 P) :: some (o403 P) :: some (o404 P) :: some (o406 P) :: some (o407 P) :: some (o409 P) :: some (o410 P) :: some (o413 P) :: y19 P
def y17 : List (Option Obj):=some (o378 P) :: some (o380 P) :: some (o381 P) :: some (o383 P) :: some (o384 P) :: some (o385 P) :: some (o387 P) :: some (o388 P) :: some (o390 P) :: some (o391 P) :: some (o392 P) :: some (o393 P) :: y18 P
def y16 : List (Option Obj):=some (o355 P) :: some (o356 P) :: some (o364 P) :: some (o366 P) :: some (o367 P) :: some (o369 P) :: some (o370 P) :: some (o371 P) :: some (o373 P) :: some (o374 P) :: some (o376 P) :: some (o377 P) :: y17 P
def y15 : List (Option Obj):=some (o337 P) :: some (o338 P) :: some (o340 P) :: some (o341 P) :: some (o343 P) :: some (o344 P) :: some (o345 P) :: some (o347 P) :: some (o348 P) :: some (o350 P) :: some (o351 P) :: some (o352 P) :: y16 P
def y14 : List (Option Obj):=some (o320 P) :: some (o322 P) :: some (o323 P) :: some (o324 P) :: some (o326 P) :: some (o327 P) :: some (o329 P) :: some (o330 P) :: some (o331 P) :: some (o333 P) :: some (o334 P) :: some (o336 P) :: y15 P
def y13 : List (Option Obj):=some (o303 P) :: some (o305 P) :: some (o306 P) :: some (o307 P) :: some (o308 P) :: some (o309 P) :: some (o310 P) :: some (o311 P) :: some (o312 P) :: some (o314 P) :: some (o317 P) :: some (o319 P) :: y14 P
def y12 : List (Option Obj):=some (o286 P) :: some (o287 P) :: some (o288 P) :: some (o290 P) :: some (o291 P) :: some (o293 P) :: some (o294 P) :: some (o295 P) :: some (o296 P) :: some (o297 P) :: some (o300 P) :: some (o302 P) :: y13 P
def y11 : List (Option Obj):=some (o269 P) :: some (o270 P) :: some (o272 P) :: some (o273 P) :: some (o274 P) :: some (o276 P) :: some (o277 P) :: some (o279 P) :: some (o280 P) :: some (o281 P) :: some (o283 P) :: some (o284 P) :: y12 P
def y10 : List (Option Obj):=some (o243 P) :: some (o244 P) :: some (o245 P) :: some (o247 P) :: some (o248 P) :: some (o250 P) :: some (o251 P) :: some (o252 P) :: some (o253 P) :: some (o254 P) :: some (o260 P) :: some (o267 P) :: y11 P
def y9 : List (Option Obj):=some (o226 P) :: some (o227 P) :: some (o229 P) :: some (o230 P) :: some (o231 P) :: some (o233 P) :: some (o234 P) :: some (o236 P) :: some (o237 P) :: some (o238 P) :: some (o240 P) :: some (o241 P) :: y10 P
def y8 : List (Option Obj):=some (o200 P) :: some (o201 P) :: some (o202 P) :: some (o204 P) :: some (o205 P) :: some (o207 P) :: some (o208 P) :: some (o209 P) :: some (o210 P) :: some (o211 P) :: some (o217 P) :: some (o224 P) :: y9 P
def y7 : List (Option Obj):=some (o183 P) :: some (o184 P) :: some (o186 P) :: some (o187 P) :: some (o188 P) :: some (o190 P) :: some (o191 P) :: some (o193 P) :: some (o194 P) :: some (o195 P) :: some (o197 P) :: some (o198 P) :: y8 P
def y6 : List (Option Obj):=some (o157 P) :: some (o158 P) :: some (o159 P) :: some (o161 P) :: some (o162 P) :: some (o164 P) :: some (o165 P) :: some (o166 P) :: some (o167 P) :: some (o168 P) :: some (o174 P) :: some (o181 P) :: y7 P
def y5 : List (Option Obj):=some (o140 P) :: some (o141 P) :: some (o143 P) :: some (o144 P) :: some (o145 P) :: some (o147 P) :: some (o148 P) :: some (o150 P) :: some (o151 P) :: some (o152 P) :: some (o154 P) :: some (o155 P) :: y6 P
def y4 : List (Option Obj):=some (o114 P) :: some (o115 P) :: some (o116 P) :: some (o118 P) :: some (o119 P) :: some (o121 P) :: some (o122 P) :: some (o123 P) :: some (o124 P) :: some (o125 P) :: some (o131 P) :: some (o138 P) :: y5 P
def y3 : List (Option Obj):=some (o97 P) :: some (o98 P) :: some (o100 P) :: some (o101 P) :: some (o102 P) :: some (o104 P) :: some (o105 P) :: some (o107 P) :: some (o108 P) :: some (o109 P) :: some (o111 P) :: some (o112 P) :: y4 P
def y2 : List (Option Obj):=some (o57 P) :: some (o60 P) :: some (o67 P) :: some (o68 P) :: some (o69 P) :: some (o81 P) :: some (o82 P) :: some (o259 P) :: some (o84 P) :: some (o85 P) :: some (o88 P) :: some (o95 P) :: y3 P
def y1 : List (Option Obj):=some (o26 P) :: some (o33 P) :: some (o34 P) :: some (o35 P) :: some (o41 P) :: some (o48 P) :: some (o50 P) :: some (o51 P) :: some (o53 P) :: some (o54 P) :: some (o55 P) :: some (o56 P) :: y2 P
def y0 : List (Option Obj):=some (boot_o_2 P) :: some (o411 P) :: some (o6 P) :: some (o8 P) :: some (o9 P) :: some (o11 P) :: some (o12 P) :: some (o13 P) :: some (o20 P) :: some (o21 P) :: some (o40 P) :: some (o23 P) :: y1 P
theorem asK (P : Params) : as = (K P).map (·.1):=by kernel_rfl
theorem yK (P : Params) : (K P).map (fun p=>some p.2) = y0 P:=by kernel_rfl
def Ly (w : World) (os : OsState) : List (Option Obj):=as.map (sf w os).heap.get?
def Ry (w : World) (_ : OsState) : List (Option Obj):=y0 w.params
theorem qy : tt (Hd.Ly,Hd.Ry) = true:=by k_qdec
theorem ry : ∀ w,Fast.tw691215026958702249 w = Fast.tw5434166109932796141 w:=fun w=>by kernel_rfl
theorem ey (w : World) (os : OsState) : Hd.Ly w os = Hd.Ry w os :=
  (congrFun (congrFun Fast.te691215026958702249 w) os).trans ((congrFun (ry w) os).trans (congrFun (congrFun Fast.te5434166109932796141 w) os).symm)
abbrev hk : Hook:=kHook K as asK
abbrev mods : List Str:=importedModules PySem.Challenge.pw_beatless_k11_texts_of_no_program.main.body
def A (w : World) (os : OsState):=openSeen Q ["PARTS"] mods Xt true (sf w os)
def G (_ : World) (_ : OsState):=openGood Q ["PARTS"]
def A0 (w : World) (os : OsState):=(A w os).1
def G0 (w : World) (os : OsState):=(G w os).1
theorem qA0 : tt (Hd.A0,Hd.G0) = true:=by k_qdec
theorem rA0 : ∀ w,Fast.tw6131166808449026830 w = Fast.tw11727352099349840545 w:=fun w=>by kernel_rfl
theorem eA0 (w : World) (os : OsState) : Hd.A0 w os = Hd.G0 w os :=
  (congrFun (congrFun Fast.te6131166808449026830 w) os).trans ((congrFun (rA0 w) os).trans (congrFun (congrFun Fast.te11727352099349840545 w) os).symm)
def A1 (w : World) (os : OsState):=(A w os).2.1
def G1 (w : World) (os : OsState):=(G w os).2.1
theorem qA1 : tt (Hd.A1,Hd.G1) = true:=by k_qdec
theorem rA1 : ∀ w,Fast.tw7581016493306269660 w = Fast.tw14656944741971684193 w:=fun w=>by kernel_rfl
theorem eA1 (w : World) (os : OsState) : Hd.A1 w os = Hd.G1 w os :=
  (congrFun (congrFun Fast.te7581016493306269660 w) os).trans ((congrFun (rA1 w) os).trans (congrFun (congrFun Fast.te14656944741971684193 w) os).symm)
def A2 (w : World) (os : OsState):=(A w os).2.2.1
def G2 (w : World) (os : OsState):=(G w os).2.2.1
theorem qA2 : tt (Hd.A2,Hd.G2) = true:=by k_qdec
theorem rA2 : ∀ w,Fast.tw2900191123710467766 w = Fast.tw10880070632800087129 w:=fun w=>by kernel_rfl
theorem eA2 (w : World) (os : OsState) : Hd.A2 w os = Hd.G2 w os :=
  (congrFun (congrFun Fast.te2900191123710467766 w) os).trans ((congrFun (rA2 w) os).trans (congrFun (congrFun Fast.te10880070632800087129 w) os).symm)
def A3 (w : World) (os : OsState):=(A w os).2.2.2.1
def G3 (w : World) (os : OsState):=(G w os).2.2.2.1
theorem qA3 : tt (Hd.A3,Hd.G3) = true:=by k_qdec
theorem rA3 : ∀ w,Fast.tw447134267514248570 w = Fast.tw4145583888436359099 w:=fun w=>by kernel_rfl
theorem eA3 (w : World) (os : OsState) : Hd.A3 w os = Hd.G3 w os :=
  (congrFun (congrFun Fast.te447134267514248570 w) os).trans ((congrFun (rA3 w) os).trans (congrFun (congrFun Fast.te4145583888436359099 w) os).symm)
def A4 (w : World) (os : OsState):=(A w os).2.2.2.2.1
def G4 (w : World) (os : OsState):=(G w os).2.2.2.2.1
theorem qA4 : tt (Hd.A4,Hd.G4) = true:=by k_qdec
theorem rA4 : ∀ w,Fast.tw14409291123802741499 w = Fast.tw6531939937263253831 w:=fun w=>by kernel_rfl
theorem eA4 (w : World) (os : OsState) : Hd.A4 w os = Hd.G4 w os :=
  (congrFun (congrFun Fast.te14409291123802741499 w) os).trans ((congrFun (rA4 w) os).trans (congrFun (congrFun Fast.te6531939937263253831 w) os).symm)
def A5 (w : World) (os : OsState):=(A w os).2.2.2.2.2.1
def G5 (w : World) (os : OsState):=(G w os).2.2.2.2.2.1
theorem qA5 : tt (Hd.A5,Hd.G5) = true:=by k_qdec
theorem rA5 : ∀ w,Fast.tw7163156141784225904 w = Fast.tw5989712690265804088 w:=fun w=>by kernel_rfl
theorem eA5 (w : World) (os : OsState) : Hd.A5 w os = Hd.G5 w os :=
  (congrFun (congrFun Fast.te7163156141784225904 w) os).trans ((congrFun (rA5 w) os).trans (congrFun (congrFun Fast.te5989712690265804088 w) os).symm)
def A6 (w : World) (os : OsState):=(A w os).2.2.2.2.2.2.1
def G6 (w : World) (os : OsState):=(G w os).2.2.2.2.2.2.1
theorem qA6 : tt (Hd.A6,Hd.G6) = true:=by k_qdec
theorem rA6 : ∀ w,Fast.tw148487786646926683 w = Fast.tw12956129408465502666 w:=fun w=>by kernel_rfl
theorem eA6 (w : World) (os : OsState) : Hd.A6 w os = Hd.G6 w os :=
  (congrFun (congrFun Fast.te148487786646926683 w) os).trans ((congrFun (rA6 w) os).trans (congrFun (congrFun Fast.te12956129408465502666 w) os).symm)
def A7 (w : World) (os : OsState):=(A w os).2.2.2.2.2.2.2.1
def G7 (w : World) (os : OsState):=(G w os).2.2.2.2.2.2.2.1
theorem qA7 : tt (Hd.A7,Hd.G7) = true:=by k_qdec
theorem rA7 : ∀ w,Fast.tw17782257788342479682 w = Fast.tw9566738594451217396 w:=fun w=>by kernel_rfl
theorem eA7 (w : World) (os : OsState) : Hd.A7 w os = Hd.G7 w os :=
  (congrFun (congrFun Fast.te17782257788342479682 w) os).trans ((congrFun (rA7 w) os).trans (congrFun (congrFun Fast.te9566738594451217396 w) os).symm)
def A8 (w : World) (os : OsState):=(A w os).2.2.2.2.2.2.2.2
def G8 (w : World) (os : OsState):=(G w os).2.2.2.2.2.2.2.2
theorem qA8 : tt (Hd.A8,Hd.G8) = true:=by k_qdec
theorem rA8 : ∀ w,Fast.tw8885869309975874061 w = Fast.tw17952483438457428275 w:=fun w=>by kernel_rfl
theorem eA8 (w : World) (os : OsState) : Hd.A8 w os = Hd.G8 w os :=
  (congrFun (congrFun Fast.te8885869309975874061 w) os).trans ((congrFun (rA8 w) os).trans (congrFun (congrFun Fast.te17952483438457428275 w) os).symm)
def Ls (w : World) (os : OsState) : Bool:=staticsOk mods (boot_heap w.params) (H1 w.params) && namesBound PySem.Challenge.pw_beatless_k11_texts_of_no_program (H1 w.params) && gensDone (sf w os) && laidKept (boot_heap w.params) (H1 w.params)
def Rs (_ : World) (_ : OsState) : Bool:=true
def Lz (w : World) (_ : OsState):=((boot_heap w.params).isNs mainGlobals && (⟨[]⟩ : Array GenState).size == 0,(boot_heap w.params).objs.size,(boot_heap w.params).nsMap mainGlobals "__annotations__")
def Rz (_ : World) (_ : OsState) : Bool × Nat × Option Value:=(true,11,an)
theorem qs : tt Hd.Ls = true:=by k_qdec
theorem rs : ∀ w,Fast.tw4959303863618478765 w = Hd.Rs w:=fun w=>by kernel_rfl
theorem es (w : World) (os : OsState) : Hd.Ls w os = Hd.Rs w os:=(congrFun (congrFun Fast.te4959303863618478765 w) os).trans (congrFun (rs w) os)
theorem qz : tt Hd.Lz = true:=by k_qdec
theorem rz : ∀ w,Fast.tw17831390912981975158 w = Hd.Rz w:=fun w=>by kernel_rfl
theorem ez (w : World) (os : OsState) : Hd.Lz w os = Hd.Rz w os:=(congrFun (congrFun Fast.te17831390912981975158 w) os).trans (congrFun (rz w) os)
theorem op : opening PySem.Challenge.pw_beatless_k11_texts_of_no_program = plainProg PySem.Challenge.pw_beatless_k11_texts_of_no_program.main.scope.names:=by kernel_rfl
theorem fe (s : Shared) : fenceModules? PySem.Challenge.pw_beatless_k11_texts_of_no_program s = some s:=by kernel_rfl
theorem left : LeftO PySem.Challenge.pw_beatless_k11_texts_of_no_program Q ["PARTS"] Xt hk.obs hk.val 8412 :=
  LeftO.of_pieces (M:=M) (m₀:=11) (ann:=an) (H₀:=boot_heap) (H₁:=H1) (boot_open op (by kernel_rfl) fe) (fun w=>ez w (start PySem.Challenge.pw_beatless_k11_texts_of_no_program).1.os) run (by kernel_rfl) (fun w=>funext fun os=>looks_pair (es w os) (looks_pair
    (Prod.ext (eA0 w os) (Prod.ext (eA1 w os) (Prod.ext (eA2 w os) (Prod.ext (eA3 w os) (Prod.ext (eA4 w os) (Prod.ext (eA5 w os) (Prod.ext (eA6 w os) (Prod.ext (eA7 w os) (eA8 w os)))))))))
    ((ey w os).trans (yK w.params).symm)))
theorem both {a b : Bool} (z : (a && b) = true) : a = true∧b = true:=Bool.and_eq_true_iff.mp z
end Hd
end

namespace K04
open PySem L2
abbrev fS (n q : Str) (s : Stmt) (k d p : Value) (a : Option Addr) (c t : Value) : FuncData:=PySem.W.fnOf n q (defArgs s) (defBody s) (defScope s) .none k d p a c t
open PySem.W (nsIn findIn isFn codeIn keepIn plainGet hasDictIn plainOver makesIn mroIn specialIn takesIn kitOne mg_of mg_none_of excIn)
theorem txt_mk {w : World} {K : PySem.W.Frag} {h : Heap} {mg : Str→Option Value} (X : K.In h) (G : h.Ns mainGlobals mg)
    {f_qa : Addr} {od0 an0 : Option Addr} {sl0 : Array (Option Value)} {oc0 kV0 dc0 pm0 cd0 ct0 : Value} {f_qb : Addr} {od1 an1 : Option Addr} {sl1 : Array (Option Value)} {oc1 kV1 dc1 pm1 cd1 ct1 : Value} {f_qc : Addr} {od2 an2 : Option Addr} {sl2 : Array (Option Value)} {oc2 kV2 dc2 pm2 cd2 ct2 : Value} {f_qd : Addr} {od3 an3 : Option Addr} {sl3 : Array (Option Value)} {oc3 kV3 dc3 pm3 cd3 ct3 : Value} {f_qe : Addr} {od4 an4 : Option Addr} {sl4 : Array (Option Value)} {oc4 kV4 dc4 pm4 cd4 ct4 : Value} {f_qf : Addr} {od5 an5 : Option Addr} {sl5 : Array (Option Value)} {oc5 kV5 dc5 pm5 cd5 ct5 : Value} {f_qg : Addr} {od6 an6 : Option Addr} {sl6 : Array (Option Value)} {oc6 kV6 dc6 pm6 cd6 ct6 : Value} {f_qh : Addr} {od7 an7 : Option Addr} {sl7 : Array (Option Value)} {oc7 kV7 dc7 pm7 cd7 ct7 : Value} {f_qi : Addr} {od8 an8 : Option Addr} {sl8 : Array (Option Value)} {oc8 kV8 dc8 pm8 cd8 ct8 : Value} {f_qj : Addr} {od9 an9 : Option Addr} {sl9 : Array (Option Value)} {oc9 kV9 dc9 pm9 cd9 ct9 : Value} {f_qk : Addr} {od10 an10 : Option Addr} {sl10 : Array (Option Value)} {oc10 kV10 dc10 pm10 cd10 ct10 : Value} {f_ql : Addr} {od11 an11 : Option Addr} {sl11 : Array (Option Value)} {oc11 kV11 dc11 pm11 cd11 ct11 : Value} {f_qm : Addr} {od12 an12 : Option Addr} {sl12 : Array (Option Value)} {oc12 kV12 dc12 pm12 cd12 ct12 : Value} {f_qn : Addr} {od13 an13 : Option Addr} {sl13 : Array (Option Value)} {oc13 kV13 dc13 pm13 cd13 ct13 : Value} {f_qo : Addr} {od14 an14 : Option Addr} {sl14 : Array (Option Value)} {oc14 kV14 dc14 pm14 cd14 ct14 : Value} {f_qp : Addr} {od15 an15 : Option Addr} {sl15 : Array (Option Value)} {oc15 kV15 dc15 pm15 cd15 ct15 : Value} {f_qq : Addr} {od16 an16 : Option Addr} {sl16 : Array (Option Value)} {oc16 kV16 dc16 pm16 cd16 ct16 : Value} {f_qr : Addr} {od17 an17 : Option Addr} {sl17 : Array (Option Value)} {oc17 kV17 dc17 pm17 cd17 ct17 : Value} {f_qs : Addr} {od18 an18 : Option Addr} {sl18 : Array (Option Value)} {oc18 kV18 dc18 pm18 cd18 ct18 : Value} {f_qt : Addr} {od19 an19 : Option Addr} {sl19 : Array (Option Value)} {oc19 kV19 dc19 pm19 cd19 ct19 : Value} {f_qu : Addr} {od20 an20 : Option Addr} {sl20 : Array (Option Value)} {oc20 kV20 dc20 pm20 cd20 ct20 : Value} {f_qv : Addr} {od21 an21 : Option Addr} {sl21 : Array (Option Value)} {oc21 kV21 dc21 pm21 cd21 ct21 : Value} {f_qw : Addr} {od22 an22 : Option Addr} {sl22 : Array (Option Value)} {oc22 kV22 dc22 pm22 cd22 ct22 : Value} {f_qx : Addr} {od23 an23 : Option Addr} {sl23 : Array (Option Value)} {oc23 kV23 dc23 pm23 cd23 ct23 : Value} {f_qy : Addr} {od24 an24 : Option Addr} {sl24 : Array (Option Value)} {oc24 kV24 dc24 pm24 cd24 ct24 : Value} {f_qz : Addr} {od25 an25 : Option Addr} {sl25 : Array (Option Value)} {oc25 kV25 dc25 pm25 cd25 ct25 : Value} {f_qA : Addr} {od26 an26 : Option Addr} {sl26 : Array (Option Value)} {oc26 kV26 dc26 pm26 cd26 ct26 : Value} {f_qB : Addr} {od27 an27 : Option Addr} {sl27 : Array (Option Value)} {oc27 kV27 dc27 pm27 cd27 ct27 : Value} {f_qC : Addr} {od28 an28 : Option Addr} {sl28 : Array (Option Value)} {oc28 kV28 dc28 pm28 cd28 ct28 : Value} {f_qD : Addr} {od29 an29 : Option Addr} {sl29 : Array (Option Value)} {oc29 kV29 dc29 pm29 cd29 ct29 : Value} {f_qE : Addr} {od30 an30 : Option Addr} {sl30 : Array (Option Value)} {oc30 kV30 dc30 pm30 cd30 ct30 : Value} {f_qF : Addr} {od31 an31 : Option Addr} {sl31 : Array (Option Value)} {oc31 kV31 dc31 pm31 cd31 ct31 : Value} {f_qG : Addr} {od32 an32 : Option Addr} {sl32 : Array (Option Value)} {oc32 kV32 dc32 pm32 cd32 ct32 : Value} {f_qH : Addr} {od33 an33 : Option Addr} {sl33 : Array (Option Value)} {oc33 kV33 dc33 pm33 cd33 ct33 : Value} {f_qI : Addr} {od34 an34 : Option Addr} {sl34 : Array (Option Value)} {oc34 kV34 dc34 pm34 cd34 ct34 : Value} {f_qJ : Addr} {od35 an35 : Option Addr} {sl35 : Array (Option Value)} {oc35 kV35 dc35 pm35 cd35 ct35 : Value} {f_qK : Addr} {od36 an36 : Option Addr} {sl36 : Array (Option Value)} {oc36 kV36 dc36 pm36 cd36 ct36 : Value} {c_Num : Addr} {c_Name : Addr} {c_Two : Addr} {c_Mod : Addr} {c_Less : Addr} {c_Program : Addr} {c_NoProgram : Addr} {c_NoWay : Addr} {c_BeatlessError : Addr} {c_NoText : Addr} {t_START_NAMES : Addr} {od_START_NAMES : Option Addr} {n_START_NAMES : Nat} {sl_START_NAMES : Array (Option Value)} {u_START_NAMES0 u_START_NAMES1 : Tok} {t_SEND_NAMES : Addr} {od_SEND_NAMES : Option Addr} {n_SEND_NAMES : Nat} {sl_SEND_NAMES : Array (Option Value)} {u_SEND_NAMES0 u_SEND_NAMES1 u_SEND_NAMES2 u_SEND_NAMES3 u_SEND_NAMES4 : Tok} {t_RENEW_NAMES : Addr} {od_RENEW_NAMES : Option Addr} {n_RENEW_NAMES : Nat} {sl_RENEW_NAMES : Array (Option Value)} {u_RENEW_NAMES0 u_RENEW_NAMES1 u_RENEW_NAMES2 u_RENEW_NAMES3 u_RENEW_NAMES4 u_RENEW_NAMES5 u_RENEW_NAMES6 u_RENEW_NAMES7 : Tok} {t_TWO_WORDS : Addr} {od_TWO_WORDS : Option Addr} {n_TWO_WORDS : Nat} {sl_TWO_WORDS : Array (Option Value)} {u_TWO_WORDS0 u_TWO_WORDS1 u_TWO_WORDS2 u_TWO_WORDS3 : Tok} {t_MOST_WORDS : Tok} {t_MOST_DEEP : Tok} {t_ALL_NAMES : Addr} {od_ALL_NAMES : Option Addr} {n_ALL_NAMES : Nat} {sl_ALL_NAMES : Array (Option Value)} {u_ALL_NAMES0 u_ALL_NAMES1 u_ALL_NAMES2 u_ALL_NAMES3 u_ALL_NAMES4 u_ALL_NAMES5 u_ALL_NAMES6 u_ALL_NAMES7 u_ALL_NAMES8 : Tok} {t_ROW_WORDS : Addr} {od_ROW_WORDS : Option Addr} {n_ROW_WORDS : Nat} {sl_ROW_WORDS : Array (Option Value)} {u_ROW_WORDS0 u_ROW_WORDS1 u_ROW_WORDS2 u_ROW_WORDS3 : Tok} {t_PARTS : Addr} {n_PARTS : Nat} {u_PARTS0 v_PARTS0 u_PARTS1 v_PARTS1 u_PARTS2 v_PARTS2 u_PARTS3 v_PARTS3 u_PARTS4 v_PARTS4 u_PARTS5 v_PARTS5 : Tok} {t_FIGURES : Tok}
    (z_len : nsIn K mainGlobals "len" = some none)
    (z_int : nsIn K mainGlobals "int" = some none)
    (z_min : nsIn K mainGlobals "min" = some none)
    (z_max : nsIn K mainGlobals "max" = some none)
    (z_range : nsIn K mainGlobals "range" = some none)
    (z_isinstance : nsIn K mainGlobals "isinstance" = some none)
    (z_zip : nsIn K mainGlobals "zip" = some none)
    (z_abs : nsIn K mainGlobals "abs" = some none)
    (z_str : nsIn K mainGlobals "str" = some none)
    (z_sum : nsIn K mainGlobals "sum" = some none)
    (z_bool : nsIn K mainGlobals "bool" = some none)
    (z_tuple : nsIn K mainGlobals "tuple" = some none)
    (z_enumerate : nsIn K mainGlobals "enumerate" = some none)
    (z_reversed : nsIn K mainGlobals "reversed" = some none)
    (z_ValueError : nsIn K mainGlobals "ValueError" = some none)
    (A_Num : nsIn K mainGlobals "Num" = some (some (.ref c_Num)))
    (A_Name : nsIn K mainGlobals "Name" = some (some (.ref c_Name)))
    (A_Two : nsIn K mainGlobals "Two" = some (some (.ref c_Two)))
    (A_Mod : nsIn K mainGlobals "Mod" = some (some (.ref c_Mod)))
    (A_Less : nsIn K mainGlobals "Less" = some (some (.ref c_Less)))
    (A_Program : nsIn K mainGlobals "Program" = some (some (.ref c_Program)))
    (A_NoText : nsIn K mainGlobals "NoText" = some (some (.ref c_NoText)))
    (a_0 : nsIn K mainGlobals "is_whole" = some (some (.ref f_qa)))
    (l_0 : K.lookup f_qa = some ⟨oc0,od0,.func (fS "is_whole" "is_whole" st_qa kV0 dc0 pm0 an0 cd0 ct0),sl0⟩)
    (cc_0 : codeIn K cd0 "is_whole" = true)
    (kk_0 : keepIn K (.ref f_qa) = true)
    (a_1 : nsIn K mainGlobals "is_short_number" = some (some (.ref f_qb)))
    (l_1 : K.lookup f_qb = some ⟨oc1,od1,.func (fS "is_short_number" "is_short_number" st_qb kV1 dc1 pm1 an1 cd1 ct1),sl1⟩)
    (cc_1 : codeIn K cd1 "is_short_number" = true)
    (kk_1 : keepIn K (.ref f_qb) = true)
    (a_2 : nsIn K mainGlobals "is_word_of" = some (some (.ref f_qc)))
    (l_2 : K.lookup f_qc = some ⟨oc2,od2,.func (fS "is_word_of" "is_word_of" st_qc kV2 dc2 pm2 an2 cd2 ct2),sl2⟩)
    (cc_2 : codeIn K cd2 "is_word_of" = true)
    (kk_2 : keepIn K (.ref f_qc) = true)
    (a_3 : nsIn K mainGlobals "is_divisor" = some (some (.ref f_qd)))
    (l_3 : K.lookup f_qd = some ⟨oc3,od3,.func (fS "is_divisor" "is_divisor" st_qd kV3 dc3 pm3 an3 cd3 ct3),sl3⟩)
    (cc_3 : codeIn K cd3 "is_divisor" = true)
    (kk_3 : keepIn K (.ref f_qd) = true)
    (a_4 : nsIn K mainGlobals "are_sound" = some (some (.ref f_qe)))
    (l_4 : K.lookup f_qe = some ⟨oc4,od4,.func (fS "are_sound" "are_sound" st_qe kV4 dc4 pm4 an4 cd4 ct4),sl4⟩)
    (cc_4 : codeIn K cd4 "are_sound" = true)
    (kk_4 : keepIn K (.ref f_qe) = true)
    (a_5 : nsIn K mainGlobals "is_sound" = some (some (.ref f_qf)))
    (l_5 : K.lookup f_qf = some ⟨oc5,od5,.func (fS "is_sound" "is_sound" st_qf kV5 dc5 pm5 an5 cd5 ct5),sl5⟩)
    (cc_5 : codeIn K cd5 "is_sound" = true)
    (kk_5 : keepIn K (.ref f_qf) = true)
    (a_6 : nsIn K mainGlobals "count_words" = some (some (.ref f_qg)))
    (l_6 : K.lookup f_qg = some ⟨oc6,od6,.func (fS "count_words" "count_words" st_qg kV6 dc6 pm6 an6 cd6 ct6),sl6⟩)
    (cc_6 : codeIn K cd6 "count_words" = true)
    (kk_6 : keepIn K (.ref f_qg) = true)
    (a_7 : nsIn K mainGlobals "program_text" = some (some (.ref f_qh)))
    (l_7 : K.lookup f_qh = some ⟨oc7,od7,.func (fS "program_text" "program_text" st_qh kV7 dc7 pm7 an7 cd7 ct7),sl7⟩)
    (cc_7 : codeIn K cd7 "program_text" = true)
    (kk_7 : keepIn K (.ref f_qh) = true)
    (a_8 : nsIn K mainGlobals "is_number_word" = some (some (.ref f_qi)))
    (l_8 : K.lookup f_qi = some ⟨oc8,od8,.func (fS "is_number_word" "is_number_word" st_qi kV8 dc8 pm8 an8 cd8 ct8),sl8⟩)
    (cc_8 : codeIn K cd8 "is_number_word" = true)
    (kk_8 : keepIn K (.ref f_qi) = true)
    (a_9 : nsIn K mainGlobals "number_of" = some (some (.ref f_qj)))
    (l_9 : K.lookup f_qj = some ⟨oc9,od9,.func (fS "number_of" "number_of" st_qj kV9 dc9 pm9 an9 cd9 ct9),sl9⟩)
    (cc_9 : codeIn K cd9 "number_of" = true)
    (kk_9 : keepIn K (.ref f_qj) = true)
    (a_10 : nsIn K mainGlobals "read_part" = some (some (.ref f_qk)))
    (l_10 : K.lookup f_qk = some ⟨oc10,od10,.func (fS "read_part" "read_part" st_qk kV10 dc10 pm10 an10 cd10 ct10),sl10⟩)
    (cc_10 : codeIn K cd10 "read_part" = true)
    (kk_10 : keepIn K (.ref f_qk) = true)
    (a_11 : nsIn K mainGlobals "read_words" = some (some (.ref f_ql)))
    (l_11 : K.lookup f_ql = some ⟨oc11,od11,.func (fS "read_words" "read_words" st_ql kV11 dc11 pm11 an11 cd11 ct11),sl11⟩)
    (cc_11 : codeIn K cd11 "read_words" = true)
    (kk_11 : keepIn K (.ref f_ql) = true)
    (a_12 : nsIn K mainGlobals "read_row" = some (some (.ref f_qm)))
    (l_12 : K.lookup f_qm = some ⟨oc12,od12,.func (fS "read_row" "read_row" st_qm kV12 dc12 pm12 an12 cd12 ct12),sl12⟩)
    (cc_12 : codeIn K cd12 "read_row" = true)
    (kk_12 : keepIn K (.ref f_qm) = true)
    (a_13 : nsIn K mainGlobals "read_program" = some (some (.ref f_qn)))
    (l_13 : K.lookup f_qn = some ⟨oc13,od13,.func (fS "read_program" "read_program" st_qn kV13 dc13 pm13 an13 cd13 ct13),sl13⟩)
    (cc_13 : codeIn K cd13 "read_program" = true)
    (kk_13 : keepIn K (.ref f_qn) = true)
    (a_14 : nsIn K mainGlobals "_law_cell_at" = some (some (.ref f_qo)))
    (l_14 : K.lookup f_qo = some ⟨oc14,od14,.func (fS "_law_cell_at" "_law_cell_at" st_qo kV14 dc14 pm14 an14 cd14 ct14),sl14⟩)
    (cc_14 : codeIn K cd14 "_law_cell_at" = true)
    (kk_14 : keepIn K (.ref f_qo) = true)
    (a_15 : nsIn K mainGlobals "_law_digit" = some (some (.ref f_qp)))
    (l_15 : K.lookup f_qp = some ⟨oc15,od15,.func (fS "_law_digit" "_law_digit" st_qp kV15 dc15 pm15 an15 cd15 ct15),sl15⟩)
    (cc_15 : codeIn K cd15 "_law_digit" = true)
    (kk_15 : keepIn K (.ref f_qp) = true)
    (a_16 : nsIn K mainGlobals "_law_expr" = some (some (.ref f_qq)))
    (l_16 : K.lookup f_qq = some ⟨oc16,od16,.func (fS "_law_expr" "_law_expr" st_qq kV16 dc16 pm16 an16 cd16 ct16),sl16⟩)
    (cc_16 : codeIn K cd16 "_law_expr" = true)
    (kk_16 : keepIn K (.ref f_qq) = true)
    (a_17 : nsIn K mainGlobals "_law_made" = some (some (.ref f_qr)))
    (l_17 : K.lookup f_qr = some ⟨oc17,od17,.func (fS "_law_made" "_law_made" st_qr kV17 dc17 pm17 an17 cd17 ct17),sl17⟩)
    (cc_17 : codeIn K cd17 "_law_made" = true)
    (kk_17 : keepIn K (.ref f_qr) = true)
    (a_18 : nsIn K mainGlobals "_law_fits" = some (some (.ref f_qs)))
    (l_18 : K.lookup f_qs = some ⟨oc18,od18,.func (fS "_law_fits" "_law_fits" st_qs kV18 dc18 pm18 an18 cd18 ct18),sl18⟩)
    (cc_18 : codeIn K cd18 "_law_fits" = true)
    (kk_18 : keepIn K (.ref f_qs) = true)
    (a_19 : nsIn K mainGlobals "_law_size" = some (some (.ref f_qt)))
    (l_19 : K.lookup f_qt = some ⟨oc19,od19,.func (fS "_law_size" "_law_size" st_qt kV19 dc19 pm19 an19 cd19 ct19),sl19⟩)
    (cc_19 : codeIn K cd19 "_law_size" = true)
    (kk_19 : keepIn K (.ref f_qt) = true)
    (a_20 : nsIn K mainGlobals "_law_four" = some (some (.ref f_qu)))
    (l_20 : K.lookup f_qu = some ⟨oc20,od20,.func (fS "_law_four" "_law_four" st_qu kV20 dc20 pm20 an20 cd20 ct20),sl20⟩)
    (cc_20 : codeIn K cd20 "_law_four" = true)
    (kk_20 : keepIn K (.ref f_qu) = true)
    (a_21 : nsIn K mainGlobals "_law_program" = some (some (.ref f_qv)))
    (l_21 : K.lookup f_qv = some ⟨oc21,od21,.func (fS "_law_program" "_law_program" st_qv kV21 dc21 pm21 an21 cd21 ct21),sl21⟩)
    (cc_21 : codeIn K cd21 "_law_program" = true)
    (kk_21 : keepIn K (.ref f_qv) = true)
    (a_22 : nsIn K mainGlobals "_law_odd" = some (some (.ref f_qw)))
    (l_22 : K.lookup f_qw = some ⟨oc22,od22,.func (fS "_law_odd" "_law_odd" st_qw kV22 dc22 pm22 an22 cd22 ct22),sl22⟩)
    (cc_22 : codeIn K cd22 "_law_odd" = true)
    (kk_22 : keepIn K (.ref f_qw) = true)
    (a_23 : nsIn K mainGlobals "_law_refused" = some (some (.ref f_qx)))
    (l_23 : K.lookup f_qx = some ⟨oc23,od23,.func (fS "_law_refused" "_law_refused" st_qx kV23 dc23 pm23 an23 cd23 ct23),sl23⟩)
    (cc_23 : codeIn K cd23 "_law_refused" = true)
    (kk_23 : keepIn K (.ref f_qx) = true)
    (a_24 : nsIn K mainGlobals "law" = some (some (.ref f_qy)))
    (l_24 : K.lookup f_qy = some ⟨oc24,od24,.func (fS "law" "law" st_qy kV24 dc24 pm24 an24 cd24 ct24),sl24⟩)
    (cc_24 : codeIn K cd24 "law" = true)
    (kk_24 : keepIn K (.ref f_qy) = true)
    (a_25 : findIn K (.ref c_Num) "__init__" = some (some (.ref f_qz)))
    (i_25 : isFn K (.ref f_qz) = true)
    (l_25 : K.lookup f_qz = some ⟨oc25,od25,.func (fS "__init__" "Num.__init__" st_qz kV25 dc25 pm25 an25 cd25 ct25),sl25⟩)
    (cc_25 : codeIn K cd25 "Num.__init__" = true)
    (kk_25 : keepIn K (.ref f_qz) = true)
    (a_26 : findIn K (.ref c_Num) "words" = some (some (.ref f_qA)))
    (i_26 : isFn K (.ref f_qA) = true)
    (l_26 : K.lookup f_qA = some ⟨oc26,od26,.func (fS "words" "Num.words" st_qA kV26 dc26 pm26 an26 cd26 ct26),sl26⟩)
    (cc_26 : codeIn K cd26 "Num.words" = true)
    (kk_26 : keepIn K (.ref f_qA) = true)
    (a_27 : findIn K (.ref c_Name) "__init__" = some (some (.ref f_qB)))
    (i_27 : isFn K (.ref f_qB) = true)
    (l_27 : K.lookup f_qB = some ⟨oc27,od27,.func (fS "__init__" "Name.__init__" st_qB kV27 dc27 pm27 an27 cd27 ct27),sl27⟩)
    (cc_27 : codeIn K cd27 "Name.__init__" = true)
    (kk_27 : keepIn K (.ref f_qB) = true)
    (a_28 : findIn K (.ref c_Name) "words" = some (some (.ref f_qC)))
    (i_28 : isFn K (.ref f_qC) = true)
    (l_28 : K.lookup f_qC = some ⟨oc28,od28,.func (fS "words" "Name.words" st_qC kV28 dc28 pm28 an28 cd28 ct28),sl28⟩)
    (cc_28 : codeIn K cd28 "Name.words" = true)
    (kk_28 : keepIn K (.ref f_qC) = true)
    (a_29 : findIn K (.ref c_Two) "__init__" = some (some (.ref f_qD)))
    (i_29 : isFn K (.ref f_qD) = true)
    (l_29 : K.lookup f_qD = some ⟨oc29,od29,.func (fS "__init__" "Two.__init__" st_qD kV29 dc29 pm29 an29 cd29 ct29),sl29⟩)
    (cc_29 : codeIn K cd29 "Two.__init__" = true)
    (kk_29 : keepIn K (.ref f_qD) = true)
    (a_30 : findIn K (.ref c_Two) "words" = some (some (.ref f_qE)))
    (i_30 : isFn K (.ref f_qE) = true)
    (l_30 : K.lookup f_qE = some ⟨oc30,od30,.func (fS "words" "Two.words" st_qE kV30 dc30 pm30 an30 cd30 ct30),sl30⟩)
    (cc_30 : codeIn K cd30 "Two.words" = true)
    (kk_30 : keepIn K (.ref f_qE) = true)
    (a_31 : findIn K (.ref c_Mod) "__init__" = some (some (.ref f_qF)))
    (i_31 : isFn K (.ref f_qF) = true)
    (l_31 : K.lookup f_qF = some ⟨oc31,od31,.func (fS "__init__" "Mod.__init__" st_qF kV31 dc31 pm31 an31 cd31 ct31),sl31⟩)
    (cc_31 : codeIn K cd31 "Mod.__init__" = true)
    (kk_31 : keepIn K (.ref f_qF) = true)
    (a_32 : findIn K (.ref c_Mod) "words" = some (some (.ref f_qG)))
    (i_32 : isFn K (.ref f_qG) = true)
    (l_32 : K.lookup f_qG = some ⟨oc32,od32,.func (fS "words" "Mod.words" st_qG kV32 dc32 pm32 an32 cd32 ct32),sl32⟩)
    (cc_32 : codeIn K cd32 "Mod.words" = true)
    (kk_32 : keepIn K (.ref f_qG) = true)
    (a_33 : findIn K (.ref c_Less) "__init__" = some (some (.ref f_qH)))
    (i_33 : isFn K (.ref f_qH) = true)
    (l_33 : K.lookup f_qH = some ⟨oc33,od33,.func (fS "__init__" "Less.__init__" st_qH kV33 dc33 pm33 an33 cd33 ct33),sl33⟩)
    (cc_33 : codeIn K cd33 "Less.__init__" = true)
    (kk_33 : keepIn K (.ref f_qH) = true)
    (a_34 : findIn K (.ref c_Less) "words" = some (some (.ref f_qI)))
    (i_34 : isFn K (.ref f_qI) = true)
    (l_34 : K.lookup f_qI = some ⟨oc34,od34,.func (fS "words" "Less.words" st_qI kV34 dc34 pm34 an34 cd34 ct34),sl34⟩)
    (cc_34 : codeIn K cd34 "Less.words" = true)
    (kk_34 : keepIn K (.ref f_qI) = true)
    (a_35 : findIn K (.ref c_Program) "__init__" = some (some (.ref f_qJ)))
    (i_35 : isFn K (.ref f_qJ) = true)
    (l_35 : K.lookup f_qJ = some ⟨oc35,od35,.func (fS "__init__" "Program.__init__" st_qJ kV35 dc35 pm35 an35 cd35 ct35),sl35⟩)
    (cc_35 : codeIn K cd35 "Program.__init__" = true)
    (kk_35 : keepIn K (.ref f_qJ) = true)
    (a_36 : findIn K (.ref c_NoText) "__init__" = some (some (.ref f_qK)))
    (i_36 : isFn K (.ref f_qK) = true)
    (l_36 : K.lookup f_qK = some ⟨oc36,od36,.func (fS "__init__" "NoText.__init__" st_qK kV36 dc36 pm36 an36 cd36 ct36),sl36⟩)
    (cc_36 : codeIn K cd36 "NoText.__init__" = true)
    (kk_36 : keepIn K (.ref f_qK) = true)
    (pg_Num : plainGet K c_Num Str.empty = true)
    (hd_Num : hasDictIn K c_Num = true)
    (po_Num : plainOver K c_Num = true)
    (sa_Num : findIn K (.ref c_Num) "__setattr__" = some (some (.builtin "object.__setattr__")))
    (mk_Num : makesIn K c_Num = true)
    (kc_Num : keepIn K (.ref c_Num) = true)
    (ha_Num : findIn K (.ref c_Num) "__class__" = some (some (.builtin "object.__class__")))
    (hm_Num : mroIn K c_Num (.type "object") = some true)
    (na_Num_value : findIn K (.ref c_Num) "value" = some none)
    (pg_Name : plainGet K c_Name Str.empty = true)
    (hd_Name : hasDictIn K c_Name = true)
    (po_Name : plainOver K c_Name = true)
    (sa_Name : findIn K (.ref c_Name) "__setattr__" = some (some (.builtin "object.__setattr__")))
    (mk_Name : makesIn K c_Name = true)
    (kc_Name : keepIn K (.ref c_Name) = true)
    (ha_Name : findIn K (.ref c_Name) "__class__" = some (some (.builtin "object.__class__")))
    (hm_Name : mroIn K c_Name (.type "object") = some true)
    (na_Name_word : findIn K (.ref c_Name) "word" = some none)
    (pg_Two : plainGet K c_Two Str.empty = true)
    (hd_Two : hasDictIn K c_Two = true)
    (po_Two : plainOver K c_Two = true)
    (sa_Two : findIn K (.ref c_Two) "__setattr__" = some (some (.builtin "object.__setattr__")))
    (mk_Two : makesIn K c_Two = true)
    (kc_Two : keepIn K (.ref c_Two) = true)
    (ha_Two : findIn K (.ref c_Two) "__class__" = some (some (.builtin "object.__class__")))
    (hm_Two : mroIn K c_Two (.type "object") = some true)
    (na_Two_word : findIn K (.ref c_Two) "word" = some none)
    (na_Two_one : findIn K (.ref c_Two) "one" = some none)
    (na_Two_other : findIn K (.ref c_Two) "other" = some none)
    (pg_Mod : plainGet K c_Mod Str.empty = true)
    (hd_Mod : hasDictIn K c_Mod = true)
    (po_Mod : plainOver K c_Mod = true)
    (sa_Mod : findIn K (.ref c_Mod) "__setattr__" = some (some (.builtin "object.__setattr__")))
    (mk_Mod : makesIn K c_Mod = true)
    (kc_Mod : keepIn K (.ref c_Mod) = true)
    (ha_Mod : findIn K (.ref c_Mod) "__class__" = some (some (.builtin "object.__class__")))
    (hm_Mod : mroIn K c_Mod (.type "object") = some true)
    (na_Mod_inner : findIn K (.ref c_Mod) "inner" = some none)
    (na_Mod_number : findIn K (.ref c_Mod) "number" = some none)
    (pg_Less : plainGet K c_Less Str.empty = true)
    (hd_Less : hasDictIn K c_Less = true)
    (po_Less : plainOver K c_Less = true)
    (sa_Less : findIn K (.ref c_Less) "__setattr__" = some (some (.builtin "object.__setattr__")))
    (mk_Less : makesIn K c_Less = true)
    (kc_Less : keepIn K (.ref c_Less) = true)
    (ha_Less : findIn K (.ref c_Less) "__class__" = some (some (.builtin "object.__class__")))
    (hm_Less : mroIn K c_Less (.type "object") = some true)
    (na_Less_one : findIn K (.ref c_Less) "one" = some none)
    (na_Less_other : findIn K (.ref c_Less) "other" = some none)
    (na_Less_third : findIn K (.ref c_Less) "third" = some none)
    (na_Less_fourth : findIn K (.ref c_Less) "fourth" = some none)
    (pg_Program : plainGet K c_Program Str.empty = true)
    (hd_Program : hasDictIn K c_Program = true)
    (po_Program : plainOver K c_Program = true)
    (sa_Program : findIn K (.ref c_Program) "__setattr__" = some (some (.builtin "object.__setattr__")))
    (mk_Program : makesIn K c_Program = true)
    (kc_Program : keepIn K (.ref c_Program) = true)
    (ha_Program : findIn K (.ref c_Program) "__class__" = some (some (.builtin "object.__class__")))
    (hm_Program : mroIn K c_Program (.type "object") = some true)
    (na_Program_start : findIn K (.ref c_Program) "start" = some none)
    (na_Program_send : findIn K (.ref c_Program) "send" = some none)
    (na_Program_when : findIn K (.ref c_Program) "when" = some none)
    (na_Program_renew : findIn K (.ref c_Program) "renew" = some none)
    (hn : specialIn K (.builtin "object.__class__") "__get__" = some (some (.builtin "getset_descriptor.__get__")))
    (htk : takesIn K (.builtin "object.__class__") = some true)
    (A_NoWay : nsIn K mainGlobals "NoWay" = some (some (.ref c_NoWay)))
    (A_BeatlessError : nsIn K mainGlobals "BeatlessError" = some (some (.ref c_BeatlessError)))
    (A_NoProgram : nsIn K mainGlobals "NoProgram" = some (some (.ref c_NoProgram)))
    (X_NoProgram : excIn K c_NoProgram bmVal "ValueError.__new__" = true)
    (xga_NoProgram : findIn K (.ref c_NoProgram) "__getattribute__" = some (some (.builtin "BaseException.__getattribute__")))
    (xgt_NoProgram : findIn K (.ref c_NoProgram) "__getattr__" = some none)
    (xha_NoProgram : findIn K (.ref c_NoProgram) "__class__" = some (some (.builtin "object.__class__")))
    (xhm_NoProgram : mroIn K c_NoProgram (.type "object") = some true)
    (xhb_NoProgram : mroIn K c_NoProgram (.type "BaseException") = some true)
    (xhd_NoProgram : hasDictIn K c_NoProgram = true)
    (Y1_NoText : xclsI K c_NoText f_qK = true)
    (Y2_NoText : (K.lookup f_qK).any (fun o=>o.cls == .type "function") = true)
    (y3_NoText : keepIn K (.ref c_NoText) = true)
    (y4_NoText : findIn K (.ref c_NoText) "__setattr__" = some (some (.builtin "object.__setattr__")))
    (y5_NoText : mroIn K c_NoText (.type "object") = some true)
    (Y6_NoText : (PySem.W.clsIn K c_NoText).any (fun cd=>mroTail cd.mro) = true)
    (y7_NoText : hasDictIn K c_NoText = true)
    (y8_NoText : findIn K (.ref c_NoText) "row" = some none)
    (y9_NoText : findIn K (.ref c_NoText) "__getattribute__" = some (some (.builtin "BaseException.__getattribute__")))
    (yA_NoText : findIn K (.ref c_NoText) "__getattr__" = some none)
    (yB_NoText : mroIn K c_NoText (.type "BaseException") = some true)
    (Y_NoProgram_NoText : xsub K c_NoProgram c_NoText = some false)
    (k_Num_Num : kitOne K (.ref c_Num) (.ref c_Num) = some true)
    (k_Name_Num : kitOne K (.ref c_Name) (.ref c_Num) = some false)
    (k_Name_Name : kitOne K (.ref c_Name) (.ref c_Name) = some true)
    (k_Two_Num : kitOne K (.ref c_Two) (.ref c_Num) = some false)
    (k_Two_Name : kitOne K (.ref c_Two) (.ref c_Name) = some false)
    (k_Two_Two : kitOne K (.ref c_Two) (.ref c_Two) = some true)
    (k_Mod_Num : kitOne K (.ref c_Mod) (.ref c_Num) = some false)
    (k_Mod_Name : kitOne K (.ref c_Mod) (.ref c_Name) = some false)
    (k_Mod_Two : kitOne K (.ref c_Mod) (.ref c_Two) = some false)
    (k_Mod_Mod : kitOne K (.ref c_Mod) (.ref c_Mod) = some true)
    (k_Less_Num : kitOne K (.ref c_Less) (.ref c_Num) = some false)
    (k_Less_Name : kitOne K (.ref c_Less) (.ref c_Name) = some false)
    (k_Less_Two : kitOne K (.ref c_Less) (.ref c_Two) = some false)
    (k_Less_Mod : kitOne K (.ref c_Less) (.ref c_Mod) = some false)
    (k_Less_Less : kitOne K (.ref c_Less) (.ref c_Less) = some true)
    (k_tint_tint : kitOne K (.type "int") (.type "int") = some true)
    (k_tint_tbool : kitOne K (.type "int") (.type "bool") = some false)
    (k_tstr_tstr : kitOne K (.type "str") (.type "str") = some true)
    (k_ttuple_ttuple : kitOne K (.type "tuple") (.type "tuple") = some true)
    (k_tint_ttuple : kitOne K (.type "int") (.type "tuple") = some false)
    (k_tstr_ttuple : kitOne K (.type "str") (.type "tuple") = some false)
    (k_tint_tstr : kitOne K (.type "int") (.type "str") = some false)
    (k_tstr_tint : kitOne K (.type "str") (.type "int") = some false)
    (k_tstr_tbool : kitOne K (.type "str") (.type "bool") = some false)
    (k_Program_Program : kitOne K (.ref c_Program) (.ref c_Program) = some true)
    (k_NoProgram_NoWay : kitOne K (.ref c_NoProgram) (.ref c_NoWay) = some false)
    (k_NoProgram_BeatlessError : kitOne K (.ref c_NoProgram) (.ref c_BeatlessError) = some true)
    (k_NoProgram_tValueError : kitOne K (.ref c_NoProgram) (.type "ValueError") = some true)
    (G_START_NAMES : nsIn K mainGlobals "START_NAMES" = some (some (.ref t_START_NAMES)))
    (L_START_NAMES : K.lookup t_START_NAMES = some ⟨.type "tuple",od_START_NAMES,.seq #[.str "me" u_START_NAMES0,.str "lines" u_START_NAMES1] n_START_NAMES,sl_START_NAMES⟩)
    (G_SEND_NAMES : nsIn K mainGlobals "SEND_NAMES" = some (some (.ref t_SEND_NAMES)))
    (L_SEND_NAMES : K.lookup t_SEND_NAMES = some ⟨.type "tuple",od_SEND_NAMES,.seq #[.str "worth" u_SEND_NAMES0,.str "me" u_SEND_NAMES1,.str "round" u_SEND_NAMES2,.str "lines" u_SEND_NAMES3,.str "to" u_SEND_NAMES4] n_SEND_NAMES,sl_SEND_NAMES⟩)
    (G_RENEW_NAMES : nsIn K mainGlobals "RENEW_NAMES" = some (some (.ref t_RENEW_NAMES)))
    (L_RENEW_NAMES : K.lookup t_RENEW_NAMES = some ⟨.type "tuple",od_RENEW_NAMES,.seq #[.str "worth" u_RENEW_NAMES0,.str "me" u_RENEW_NAMES1,.str "round" u_RENEW_NAMES2,.str "lines" u_RENEW_NAMES3,.str "sum" u_RENEW_NAMES4,.str "least" u_RENEW_NAMES5,.str "most" u_RENEW_NAMES6,.str "count" u_RENEW_NAMES7] n_RENEW_NAMES,sl_RENEW_NAMES⟩)
    (G_TWO_WORDS : nsIn K mainGlobals "TWO_WORDS" = some (some (.ref t_TWO_WORDS)))
    (L_TWO_WORDS : K.lookup t_TWO_WORDS = some ⟨.type "tuple",od_TWO_WORDS,.seq #[.str "add" u_TWO_WORDS0,.str "sub" u_TWO_WORDS1,.str "min" u_TWO_WORDS2,.str "max" u_TWO_WORDS3] n_TWO_WORDS,sl_TWO_WORDS⟩)
    (G_MOST_WORDS : nsIn K mainGlobals "MOST_WORDS" = some (some (.int 60 t_MOST_WORDS)))
    (G_MOST_DEEP : nsIn K mainGlobals "MOST_DEEP" = some (some (.int 8 t_MOST_DEEP)))
    (G_ALL_NAMES : nsIn K mainGlobals "ALL_NAMES" = some (some (.ref t_ALL_NAMES)))
    (L_ALL_NAMES : K.lookup t_ALL_NAMES = some ⟨.type "tuple",od_ALL_NAMES,.seq #[.str "worth" u_ALL_NAMES0,.str "me" u_ALL_NAMES1,.str "round" u_ALL_NAMES2,.str "lines" u_ALL_NAMES3,.str "to" u_ALL_NAMES4,.str "sum" u_ALL_NAMES5,.str "least" u_ALL_NAMES6,.str "most" u_ALL_NAMES7,.str "count" u_ALL_NAMES8] n_ALL_NAMES,sl_ALL_NAMES⟩)
    (G_ROW_WORDS : nsIn K mainGlobals "ROW_WORDS" = some (some (.ref t_ROW_WORDS)))
    (L_ROW_WORDS : K.lookup t_ROW_WORDS = some ⟨.type "tuple",od_ROW_WORDS,.seq #[.str "start" u_ROW_WORDS0,.str "send" u_ROW_WORDS1,.str "when" u_ROW_WORDS2,.str "reckon" u_ROW_WORDS3] n_ROW_WORDS,sl_ROW_WORDS⟩)
    (G_PARTS : nsIn K mainGlobals "PARTS" = some (some (.ref t_PARTS)))
    (L_PARTS : K.lookup t_PARTS = some ⟨.type "dict",none,.dict #[⟨PyData.keyHash w.params "add",.str "add" u_PARTS0,.int 2 v_PARTS0⟩,⟨PyData.keyHash w.params "sub",.str "sub" u_PARTS1,.int 2 v_PARTS1⟩,⟨PyData.keyHash w.params "min",.str "min" u_PARTS2,.int 2 v_PARTS2⟩,⟨PyData.keyHash w.params "max",.str "max" u_PARTS3,.int 2 v_PARTS3⟩,⟨PyData.keyHash w.params "mod",.str "mod" u_PARTS4,.int 2 v_PARTS4⟩,⟨PyData.keyHash w.params "less",.str "less" u_PARTS5,.int 4 v_PARTS5⟩] n_PARTS,#[]⟩)
    (M_PARTS : (t_PARTS == sysModules) = false)
    (G_FIGURES : nsIn K mainGlobals "FIGURES" = some (some (.str "0123456789" t_FIGURES))) :
    ∃ a : Ad,Txt w K mg a:=by
  have F0:=fun_mk (st:=st_qa) l_0 cc_0 kk_0
  have F1:=fun_mk (st:=st_qb) l_1 cc_1 kk_1
  have F2:=fun_mk (st:=st_qc) l_2 cc_2 kk_2
  have F3:=fun_mk (st:=st_qd) l_3 cc_3 kk_3
  have F4:=fun_mk (st:=st_qe) l_4 cc_4 kk_4
  have F5:=fun_mk (st:=st_qf) l_5 cc_5 kk_5
  have F6:=fun_mk (st:=st_qg) l_6 cc_6 kk_6
  have F7:=fun_mk (st:=st_qh) l_7 cc_7 kk_7
  have F8:=fun_mk (st:=st_qi) l_8 cc_8 kk_8
  have F9:=fun_mk (st:=st_qj) l_9 cc_9 kk_9
  have F10:=fun_mk (st:=st_qk) l_10 cc_10 kk_10
  have F11:=fun_mk (st:=st_ql) l_11 cc_11 kk_11
  have F12:=fun_mk (st:=st_qm) l_12 cc_12 kk_12
  have F13:=fun_mk (st:=st_qn) l_13 cc_13 kk_13
  have F14:=fun_mk (st:=st_qo) l_14 cc_14 kk_14
  have F15:=fun_mk (st:=st_qp) l_15 cc_15 kk_15
  have F16:=fun_mk (st:=st_qq) l_16 cc_16 kk_16
  have F17:=fun_mk (st:=st_qr) l_17 cc_17 kk_17
  have F18:=fun_mk (st:=st_qs) l_18 cc_18 kk_18
  have F19:=fun_mk (st:=st_qt) l_19 cc_19 kk_19
  have F20:=fun_mk (st:=st_qu) l_20 cc_20 kk_20
  have F21:=fun_mk (st:=st_qv) l_21 cc_21 kk_21
  have F22:=fun_mk (st:=st_qw) l_22 cc_22 kk_22
  have F23:=fun_mk (st:=st_qx) l_23 cc_23 kk_23
  have F24:=fun_mk (st:=st_qy) l_24 cc_24 kk_24
  have F25:=fun_mk (st:=st_qz) l_25 cc_25 kk_25
  have F26:=fun_mk (st:=st_qA) l_26 cc_26 kk_26
  have F27:=fun_mk (st:=st_qB) l_27 cc_27 kk_27
  have F28:=fun_mk (st:=st_qC) l_28 cc_28 kk_28
  have F29:=fun_mk (st:=st_qD) l_29 cc_29 kk_29
  have F30:=fun_mk (st:=st_qE) l_30 cc_30 kk_30
  have F31:=fun_mk (st:=st_qF) l_31 cc_31 kk_31
  have F32:=fun_mk (st:=st_qG) l_32 cc_32 kk_32
  have F33:=fun_mk (st:=st_qH) l_33 cc_33 kk_33
  have F34:=fun_mk (st:=st_qI) l_34 cc_34 kk_34
  have F35:=fun_mk (st:=st_qJ) l_35 cc_35 kk_35
  have F36:=fun_mk (st:=st_qK) l_36 cc_36 kk_36
  refine ⟨⟨f_qa,fS "is_whole" "is_whole" st_qa kV0 dc0 pm0 an0 cd0 ct0,f_qb,fS "is_short_number" "is_short_number" st_qb kV1 dc1 pm1 an1 cd1 ct1,f_qc,fS "is_word_of" "is_word_of" st_qc kV2 dc2 pm2 an2 cd2 ct2,f_qd,fS "is_divisor" "is_divisor" st_qd kV3 dc3 pm3 an3 cd3 ct3,f_qe,fS "are_sound" "are_sound" st_qe kV4 dc4 pm4 an4 cd4 ct4,f_qf,fS "is_sound" "is_sound" st_qf kV5 dc5 pm5 an5 cd5 ct5,f_qg,fS "count_words" "count_words" st_qg kV6 dc6 pm6 an6 cd6 ct6,f_qh,fS "program_text" "program_text" st_qh kV7 dc7 pm7 an7 cd7 ct7,f_qi,fS "is_number_word" "is_number_word" st_qi kV8 dc8 pm8 an8 cd8 ct8,f_qj,fS "number_of" "number_of" st_qj kV9 dc9 pm9 an9 cd9 ct9,f_qk,fS "read_part" "read_part" st_qk kV10 dc10 pm10 an10 cd10 ct10,f_ql,fS "read_words" "read_words" st_ql kV11 dc11 pm11 an11 cd11 ct11,f_qm,fS "read_row" "read_row" st_qm kV12 dc12 pm12 an12 cd12 ct12,f_qn,fS "read_program" "read_program" st_qn kV13 dc13 pm13 an13 cd13 ct13,f_qo,fS "_law_cell_at" "_law_cell_at" st_qo kV14 dc14 pm14 an14 cd14 ct14,f_qp,fS "_law_digit" "_law_digit" st_qp kV15 dc15 pm15 an15 cd15 ct15,f_qq,fS "_law_expr" "_law_expr" st_qq kV16 dc16 pm16 an16 cd16 ct16,f_qr,fS "_law_made" "_law_made" st_qr kV17 dc17 pm17 an17 cd17 ct17,f_qs,fS "_law_fits" "_law_fits" st_qs kV18 dc18 pm18 an18 cd18 ct18,f_qt,fS "_law_size" "_law_size" st_qt kV19 dc19 pm19 an19 cd19 ct19,f_qu,fS "_law_four" "_law_four" st_qu kV20 dc20 pm20 an20 cd20 ct20,f_qv,fS "_law_program" "_law_program" st_qv kV21 dc21 pm21 an21 cd21 ct21,f_qw,fS "_law_odd" "_law_odd" st_qw kV22 dc22 pm22 an22 cd22 ct22,f_qx,fS "_law_refused" "_law_refused" st_qx kV23 dc23 pm23 an23 cd23 ct23,f_qy,fS "law" "law" st_qy kV24 dc24 pm24 an24 cd24 ct24,f_qz,fS "__init__" "Num.__init__" st_qz kV25 dc25 pm25 an25 cd25 ct25,f_qA,fS "words" "Num.words" st_qA kV26 dc26 pm26 an26 cd26 ct26,f_qB,fS "__init__" "Name.__init__" st_qB kV27 dc27 pm27 an27 cd27 ct27,f_qC,fS "words" "Name.words" st_qC kV28 dc28 pm28 an28 cd28 ct28,f_qD,fS "__init__" "Two.__init__" st_qD kV29 dc29 pm29 an29 cd29 ct29,f_qE,fS "words" "Two.words" st_qE kV30 dc30 pm30 an30 cd30 ct30,f_qF,fS "__init__" "Mod.__init__" st_qF kV31 dc31 pm31 an31 cd31 ct31,f_qG,fS "words" "Mod.words" st_qG kV32 dc32 pm32 an32 cd32 ct32,f_qH,fS "__init__" "Less.__init__" st_qH kV33 dc33 pm33 an33 cd33 ct33,f_qI,fS "words" "Less.words" st_qI kV34 dc34 pm34 an34 cd34 ct34,f_qJ,fS "__init__" "Program.__init__" st_qJ kV35 dc35 pm35 an35 cd35 ct35,f_qK,fS "__init__" "NoText.__init__" st_qK kV36 dc36 pm36 an36 cd36 ct36,c_Num,c_Name,c_Two,c_Mod,c_Less,c_Program,c_NoProgram,c_NoWay,c_BeatlessError,c_NoText,t_START_NAMES,t_SEND_NAMES,t_RENEW_NAMES,t_TWO_WORDS,t_MOST_WORDS,t_MOST_DEEP,t_ALL_NAMES,t_ROW_WORDS,t_PARTS,t_FIGURES⟩,?_⟩
  exact ⟨mg_none_of X G z_len,
    mg_none_of X G z_int,
    mg_none_of X G z_min,
    mg_none_of X G z_max,
    mg_none_of X G z_range,
    mg_none_of X G z_isinstance,
    mg_none_of X G z_zip,
    mg_none_of X G z_abs,
    mg_none_of X G z_str,
    mg_none_of X G z_sum,
    mg_none_of X G z_bool,
    mg_none_of X G z_tuple,
    mg_none_of X G z_enumerate,
    mg_none_of X G z_reversed,
    mg_none_of X G z_ValueError,
    F0,
    F0.binds (ps:=["value"]) fun _ _ _ _ _ _ us hl=>match us,hl with | [_],_=>rfl,
    mg_of X G a_0,
    F1,
    F1.binds (ps:=["value"]) fun _ _ _ _ _ _ us hl=>match us,hl with | [_],_=>rfl,
    mg_of X G a_1,
    F2,
    F2.binds (ps:=["word", "words"]) fun _ _ _ _ _ _ us hl=>match us,hl with | [_,_],_=>rfl,
    mg_of X G a_2,
    F3,
    F3.binds (ps:=["number"]) fun _ _ _ _ _ _ us hl=>match us,hl with | [_],_=>rfl,
    mg_of X G a_3,
    F4,
    F4.binds (ps:=["parts", "names", "deep"]) fun _ _ _ _ _ _ us hl=>match us,hl with | [_,_,_],_=>rfl,
    mg_of X G a_4,
    F5,
    F5.binds (ps:=["expr", "names", "deep"]) fun _ _ _ _ _ _ us hl=>match us,hl with | [_,_,_],_=>rfl,
    mg_of X G a_5,
    F6,
    F6.binds (ps:=["exprs"]) fun _ _ _ _ _ _ us hl=>match us,hl with | [_],_=>rfl,
    mg_of X G a_6,
    F7,
    F7.binds (ps:=["program"]) fun _ _ _ _ _ _ us hl=>match us,hl with | [_],_=>rfl,
    mg_of X G a_7,
    F8,
    F8.binds (ps:=["word"]) fun _ _ _ _ _ _ us hl=>match us,hl with | [_],_=>rfl,
    mg_of X G a_8,
    F9,
    F9.binds (ps:=["word"]) fun _ _ _ _ _ _ us hl=>match us,hl with | [_],_=>rfl,
    mg_of X G a_9,
    F10,
    F10.binds (ps:=["word", "parts"]) fun _ _ _ _ _ _ us hl=>match us,hl with | [_,_],_=>rfl,
    mg_of X G a_10,
    F11,
    F11.binds (ps:=["words"]) fun _ _ _ _ _ _ us hl=>match us,hl with | [_],_=>rfl,
    mg_of X G a_11,
    F12,
    F12.binds (ps:=["row", "first"]) fun _ _ _ _ _ _ us hl=>match us,hl with | [_,_],_=>rfl,
    mg_of X G a_12,
    F13,
    F13.binds (ps:=["text"]) fun _ _ _ _ _ _ us hl=>match us,hl with | [_],_=>rfl,
    mg_of X G a_13,
    F14,
    F14.binds (ps:=["_law_script", "_law_k"]) fun _ _ _ _ _ _ us hl=>match us,hl with | [_,_],_=>rfl,
    mg_of X G a_14,
    F15,
    F15.binds (ps:=["_law_state", "_law_base"]) fun _ _ _ _ _ _ us hl=>match us,hl with | [_,_],_=>rfl,
    mg_of X G a_15,
    F16,
    F16.binds (ps:=["_law_state", "_law_names", "_law_deep"]) fun _ _ _ _ _ _ us hl=>match us,hl with | [_,_,_],_=>rfl,
    mg_of X G a_16,
    F17,
    F17.binds (ps:=["_law_told"]) fun _ _ _ _ _ _ us hl=>match us,hl with | [_],_=>rfl,
    mg_of X G a_17,
    F18,
    F18.binds (ps:=["_law_state", "_law_names", "_law_deep"]) fun _ _ _ _ _ _ us hl=>match us,hl with | [_,_,_],_=>rfl,
    mg_of X G a_18,
    F19,
    F19.binds (ps:=["_law_told"]) fun _ _ _ _ _ _ us hl=>match us,hl with | [_],_=>rfl,
    mg_of X G a_19,
    F20,
    F20.binds (ps:=["_law_state"]) fun _ _ _ _ _ _ us hl=>match us,hl with | [_],_=>rfl,
    mg_of X G a_20,
    F21,
    F21.binds (ps:=["_law_four_here"]) fun _ _ _ _ _ _ us hl=>match us,hl with | [_],_=>rfl,
    mg_of X G a_21,
    F22,
    F22.binds (ps:=["_law_at", "_law_cell"]) fun _ _ _ _ _ _ us hl=>match us,hl with | [_,_],_=>rfl,
    mg_of X G a_22,
    F23,
    F23.binds (ps:=["_law_text"]) fun _ _ _ _ _ _ us hl=>match us,hl with | [_],_=>rfl,
    mg_of X G a_23,
    F24,
    F24.binds (ps:=["_law_script"]) fun _ _ _ _ _ _ us hl=>match us,hl with | [_],_=>rfl,
    fun s v=>.of_eq rfl,
    mg_of X G a_24,
    F25,
    F25.binds (ps:=["self", "value"]) fun _ _ _ _ _ _ us hl=>match us,hl with | [_,_],_=>rfl,
    F26,
    F26.binds (ps:=["self"]) fun _ _ _ _ _ _ us hl=>match us,hl with | [_],_=>rfl,
    ⟨a_26,i_26,kk_26⟩,
    F27,
    F27.binds (ps:=["self", "word"]) fun _ _ _ _ _ _ us hl=>match us,hl with | [_,_],_=>rfl,
    F28,
    F28.binds (ps:=["self"]) fun _ _ _ _ _ _ us hl=>match us,hl with | [_],_=>rfl,
    ⟨a_28,i_28,kk_28⟩,
    F29,
    F29.binds (ps:=["self", "word", "one", "other"]) fun _ _ _ _ _ _ us hl=>match us,hl with | [_,_,_,_],_=>rfl,
    F30,
    F30.binds (ps:=["self"]) fun _ _ _ _ _ _ us hl=>match us,hl with | [_],_=>rfl,
    ⟨a_30,i_30,kk_30⟩,
    F31,
    F31.binds (ps:=["self", "inner", "number"]) fun _ _ _ _ _ _ us hl=>match us,hl with | [_,_,_],_=>rfl,
    F32,
    F32.binds (ps:=["self"]) fun _ _ _ _ _ _ us hl=>match us,hl with | [_],_=>rfl,
    ⟨a_32,i_32,kk_32⟩,
    F33,
    F33.binds (ps:=["self", "one", "other", "third", "fourth"]) fun _ _ _ _ _ _ us hl=>match us,hl with | [_,_,_,_,_],_=>rfl,
    F34,
    F34.binds (ps:=["self"]) fun _ _ _ _ _ _ us hl=>match us,hl with | [_],_=>rfl,
    ⟨a_34,i_34,kk_34⟩,
    F35,
    F35.binds (ps:=["self", "start", "send", "when", "renew"]) fun _ _ _ _ _ _ us hl=>match us,hl with | [_,_,_,_,_],_=>rfl,
    F36,
    F36.binds (ps:=["self", "row"]) fun _ _ _ _ _ _ us hl=>match us,hl with | [_,_],_=>rfl,
    mg_of X G A_Num,
    ⟨pg_Num,hd_Num,po_Num,sa_Num⟩,
    ⟨mk_Num,a_25,i_25,kc_Num⟩,
    fun H p dx fs e=>.ins e ⟨pg_Num,hd_Num,po_Num,sa_Num⟩ ha_Num hn htk hm_Num,
    na_Num_value,
    mg_of X G A_Name,
    ⟨pg_Name,hd_Name,po_Name,sa_Name⟩,
    ⟨mk_Name,a_27,i_27,kc_Name⟩,
    fun H p dx fs e=>.ins e ⟨pg_Name,hd_Name,po_Name,sa_Name⟩ ha_Name hn htk hm_Name,
    na_Name_word,
    mg_of X G A_Two,
    ⟨pg_Two,hd_Two,po_Two,sa_Two⟩,
    ⟨mk_Two,a_29,i_29,kc_Two⟩,
    fun H p dx fs e=>.ins e ⟨pg_Two,hd_Two,po_Two,sa_Two⟩ ha_Two hn htk hm_Two,
    na_Two_word,
    na_Two_one,
    na_Two_other,
    mg_of X G A_Mod,
    ⟨pg_Mod,hd_Mod,po_Mod,sa_Mod⟩,
    ⟨mk_Mod,a_31,i_31,kc_Mod⟩,
    fun H p dx fs e=>.ins e ⟨pg_Mod,hd_Mod,po_Mod,sa_Mod⟩ ha_Mod hn htk hm_Mod,
    na_Mod_inner,
    na_Mod_number,
    mg_of X G A_Less,
    ⟨pg_Less,hd_Less,po_Less,sa_Less⟩,
    ⟨mk_Less,a_33,i_33,kc_Less⟩,
    fun H p dx fs e=>.ins e ⟨pg_Less,hd_Less,po_Less,sa_Less⟩ ha_Less hn htk hm_Less,
    na_Less_one,
    na_Less_other,
    na_Less_third,
    na_Less_fourth,
    mg_of X G A_Program,
    ⟨pg_Program,hd_Program,po_Program,sa_Program⟩,
    ⟨mk_Program,a_35,i_35,kc_Program⟩,
    fun H p dx fs e=>.ins e ⟨pg_Program,hd_Program,po_Program,sa_Program⟩ ha_Program hn htk hm_Program,
    na_Program_start,
    na_Program_send,
    na_Program_when,
    na_Program_renew,
    k_Num_Num,
    k_Name_Num,
    k_Name_Name,
    k_Two_Num,
    k_Two_Name,
    k_Two_Two,
    k_Mod_Num,
    k_Mod_Name,
    k_Mod_Two,
    k_Mod_Mod,
    k_Less_Num,
    k_Less_Name,
    k_Less_Two,
    k_Less_Mod,
    k_Less_Less,
    k_tint_tint,
    k_tint_tbool,
    k_tstr_tstr,
    k_ttuple_ttuple,
    k_tint_ttuple,
    k_tstr_ttuple,
    k_tint_tstr,
    k_tstr_tint,
    k_tstr_tbool,
    k_Program_Program,
    k_NoProgram_NoWay,
    k_NoProgram_BeatlessError,
    k_NoProgram_tValueError,
    mg_of X G G_START_NAMES,
    fun H=>.inr ⟨_,_,_,L_START_NAMES,rfl,rfl,by show 2 ≤ sizeLine; decide,by exact .cons ⟨_,rfl⟩ (.cons ⟨_,rfl⟩ (.nil))⟩,
    mg_of X G G_SEND_NAMES,
    fun H=>.inr ⟨_,_,_,L_SEND_NAMES,rfl,rfl,by show 5 ≤ sizeLine; decide,by exact .cons ⟨_,rfl⟩ (.cons ⟨_,rfl⟩ (.cons ⟨_,rfl⟩ (.cons ⟨_,rfl⟩ (.cons ⟨_,rfl⟩ (.nil)))))⟩,
    mg_of X G G_RENEW_NAMES,
    fun H=>.inr ⟨_,_,_,L_RENEW_NAMES,rfl,rfl,by show 8 ≤ sizeLine; decide,by exact .cons ⟨_,rfl⟩ (.cons ⟨_,rfl⟩ (.cons ⟨_,rfl⟩ (.cons ⟨_,rfl⟩ (.cons ⟨_,rfl⟩ (.cons ⟨_,rfl⟩ (.cons ⟨_,rfl⟩ (.cons ⟨_,rfl⟩ (.nil))))))))⟩,
    mg_of X G G_TWO_WORDS,
    fun H=>.inr ⟨_,_,_,L_TWO_WORDS,rfl,rfl,by show 4 ≤ sizeLine; decide,by exact .cons ⟨_,rfl⟩ (.cons ⟨_,rfl⟩ (.cons ⟨_,rfl⟩ (.cons ⟨_,rfl⟩ (.nil))))⟩,
    mg_of X G G_MOST_WORDS,
    mg_of X G G_MOST_DEEP,
    mg_of X G G_ALL_NAMES,
    fun H=>.inr ⟨_,_,_,L_ALL_NAMES,rfl,rfl,by show 9 ≤ sizeLine; decide,by exact .cons ⟨_,rfl⟩ (.cons ⟨_,rfl⟩ (.cons ⟨_,rfl⟩ (.cons ⟨_,rfl⟩ (.cons ⟨_,rfl⟩ (.cons ⟨_,rfl⟩ (.cons ⟨_,rfl⟩ (.cons ⟨_,rfl⟩ (.cons ⟨_,rfl⟩ (.nil)))))))))⟩,
    mg_of X G G_ROW_WORDS,
    fun H=>.inr ⟨_,_,_,L_ROW_WORDS,rfl,rfl,by show 4 ≤ sizeLine; decide,by exact .cons ⟨_,rfl⟩ (.cons ⟨_,rfl⟩ (.cons ⟨_,rfl⟩ (.cons ⟨_,rfl⟩ (.nil))))⟩,
    mg_of X G G_PARTS,
    ⟨M_PARTS,by decide +kernel,[⟨"add",2,u_PARTS0,v_PARTS0⟩,⟨"sub",2,u_PARTS1,v_PARTS1⟩,⟨"min",2,u_PARTS2,v_PARTS2⟩,⟨"max",2,u_PARTS3,v_PARTS3⟩,⟨"mod",2,u_PARTS4,v_PARTS4⟩,⟨"less",4,u_PARTS5,v_PARTS5⟩],n_PARTS,L_PARTS,rfl⟩,
    mg_of X G G_FIGURES,
    mg_of X G A_NoProgram,
    X_NoProgram,
    mg_of X G A_NoWay,
    mg_of X G A_BeatlessError,
    ⟨xga_NoProgram,xgt_NoProgram,xha_NoProgram,hn,htk,xhm_NoProgram,xhb_NoProgram,xhd_NoProgram⟩,
    mg_of X G A_NoText,
    Y1_NoText,
    Y2_NoText,
    y3_NoText,
    ⟨y4_NoText,y5_NoText,Y6_NoText,y7_NoText⟩,
    by unfold PySem.W.takerIn; rw [y8_NoText]; rfl,
    ⟨y9_NoText,yA_NoText,yB_NoText,y7_NoText,y8_NoText⟩,
    Y_NoProgram_NoText⟩
end K04
open PySem PySem.W PyProof.Rows
set_option maxRecDepth 100000 in
set_option maxHeartbeats 0 in
theorem PySem.Challenge.cw_beatless_k11_texts_of_no_program_holds : PySem.Challenge.rw_beatless_k11_texts_of_no_program.Holds := by
  w_on; o_law
  refine holds_open (XP:=XL Hd.Q []) (YP:=(kHook Hd.K Hd.as Hd.asK).says) Hd.left Hd.hk.of Hd.hk.keeps
    (fun s z=>xl_of s (Hd.both z).1) XL.keeps (by rfl) (by rfl) (by rfl)
    (fun s z=>recFacts_of (Hd.both z).2) (by rfl) (by assumption) (by decide +kernel)
    ⟨rfl,rfl,rfl,rfl,rfl,by decide +kernel⟩ ?hw ?hc
  case hw=>w_witness2
  k_fill
  refine L2.walk_ofK (l:=PySem.Challenge.rw_beatless_k11_texts_of_no_program) (n:=63) (k:=26) (x := "_law_script") (CX:=L2.CX0) (sp:=K04.spLaw) rfl (by decide) rfl ⟨rfl,by decide,by decide⟩ (fun w h Y=>PySem.W.kIn_of Y) ?F ?S ?C
  case F =>
    intro w mg fa h KX G hmg
    have T : ∃ a,K04.Txt w (L2.KOf KX) mg a:=by
      dsimp only [L2.KOf]
      refine' K04.txt_mk KX G ?z_len ?z_int ?z_min ?z_max ?z_range ?z_isinstance ?z_zip ?z_abs ?z_str ?z_sum ?z_bool ?z_tuple ?z_enumerate ?z_reversed ?z_ValueError ?A_Num ?A_Name ?A_Two ?A_Mod ?A_Less ?A_Program ?A_NoText ?a_0 ?l_0 ?cc_0 ?kk_0 ?a_1 ?l_1 ?cc_1 ?kk_1 ?a_2 ?l_2 ?cc_2 ?kk_2 ?a_3 ?l_3 ?cc_3 ?kk_3 ?a_4 ?l_4 ?cc_4 ?kk_4 ?a_5 ?l_5 ?cc_5 ?kk_5 ?a_6 ?l_6 ?cc_6 ?kk_6 ?a_7 ?l_7 ?cc_7 ?kk_7 ?a_8 ?l_8 ?cc_8 ?kk_8 ?a_9 ?l_9 ?cc_9 ?kk_9 ?a_10 ?l_10 ?cc_10 ?kk_10 ?a_11 ?l_11 ?cc_11 ?kk_11 ?a_12 ?l_12 ?cc_12 ?kk_12 ?a_13 ?l_13 ?cc_13 ?kk_13 ?a_14 ?l_14 ?cc_14 ?kk_14 ?a_15 ?l_15 ?cc_15 ?kk_15 ?a_16 ?l_16 ?cc_16 ?kk_16 ?a_17 ?l_17 ?cc_17 ?kk_17 ?a_18 ?l_18 ?cc_18 ?kk_18 ?a_19 ?l_19 ?cc_19 ?kk_19 ?a_20 ?l_20 ?cc_20 ?kk_20 ?a_21 ?l_21 ?cc_21 ?kk_21 ?a_22 ?l_22 ?cc_22 ?kk_22 ?a_23 ?l_23 ?cc_23 ?kk_23 ?a_24 ?l_24 ?cc_24 ?kk_24 ?a_25 ?i_25 ?l_25 ?cc_25 ?kk_25 ?a_26 ?i_26 ?l_26 ?cc_26 ?kk_26 ?a_27 ?i_27 ?l_27 ?cc_27 ?kk_27 ?a_28 ?i_28 ?l_28 ?cc_28 ?kk_28 ?a_29 ?i_29 ?l_29 ?cc_29 ?kk_29 ?a_30 ?i_30 ?l_30 ?cc_30 ?kk_30 ?a_31 ?i_31 ?l_31 ?cc_31 ?kk_31 ?a_32 ?i_32 ?l_32 ?cc_32 ?kk_32 ?a_33 ?i_33 ?l_33 ?cc_33 ?kk_33 ?a_34 ?i_34 ?l_34 ?cc_34 ?kk_34 ?a_35 ?i_35 ?l_35 ?cc_35 ?kk_35 ?a_36 ?i_36 ?l_36 ?cc_36 ?kk_36 ?pg_Num ?hd_Num ?po_Num ?sa_Num ?mk_Num ?kc_Num ?ha_Num ?hm_Num ?na_Num_value ?pg_Name ?hd_Name ?po_Name ?sa_Name ?mk_Name ?kc_Name ?ha_Name ?hm_Name ?na_Name_word ?pg_Two ?hd_Two ?po_Two ?sa_Two ?mk_Two ?kc_Two ?ha_Two ?hm_Two ?na_Two_word ?na_Two_one ?na_Two_other ?pg_Mod ?hd_Mod ?po_Mod ?sa_Mod ?mk_Mod ?kc_Mod ?ha_Mod ?hm_Mod ?na_Mod_inner ?na_Mod_number ?pg_Less ?hd_Less ?po_Less ?sa_Less ?mk_Less ?kc_Less ?ha_Less ?hm_Less ?na_Less_one ?na_Less_other ?na_Less_third ?na_Less_fourth ?pg_Program ?hd_Program ?po_Program ?sa_Program ?mk_Program ?kc_Program ?ha_Program ?hm_Program ?na_Program_start ?na_Program_send ?na_Program_when ?na_Program_renew ?hn ?htk ?A_NoWay ?A_BeatlessError ?A_NoProgram ?X_NoProgram ?xga_NoProgram ?xgt_NoProgram ?xha_NoProgram ?xhm_NoProgram ?xhb_NoProgram ?xhd_NoProgram ?Y1_NoText ?Y2_NoText ?y3_NoText ?y4_NoText ?y5_NoText ?Y6_NoText ?y7_NoText ?y8_NoText ?y9_NoText ?yA_NoText ?yB_NoText ?Y_NoProgram_NoText ?k_Num_Num ?k_Name_Num ?k_Name_Name ?k_Two_Num ?k_Two_Name ?k_Two_Two ?k_Mod_Num ?k_Mod_Name ?k_Mod_Two ?k_Mod_Mod ?k_Less_Num ?k_Less_Name ?k_Less_Two ?k_Less_Mod ?k_Less_Less ?k_tint_tint ?k_tint_tbool ?k_tstr_tstr ?k_ttuple_ttuple ?k_tint_ttuple ?k_tstr_ttuple ?k_tint_tstr ?k_tstr_tint ?k_tstr_tbool ?k_Program_Program ?k_NoProgram_NoWay ?k_NoProgram_BeatlessError ?k_NoProgram_tValueError ?G_START_NAMES ?L_START_NAMES ?G_SEND_NAMES ?L_SEND_NAMES ?G_RENEW_NAMES ?L_RENEW_NAMES ?G_TWO_WORDS ?L_TWO_WORDS ?G_MOST_WORDS ?G_MOST_DEEP ?G_ALL_NAMES ?L_ALL_NAMES ?G_ROW_WORDS ?L_ROW_WORDS ?G_PARTS ?L_PARTS ?M_PARTS ?G_FIGURES
      (case z_len=>k_is)
      (case z_int=>k_is)
      (case z_min=>k_is)
      (case z_max=>k_is)
      (case z_range=>k_is)
      (case z_isinstance=>k_is)
      (case z_zip=>k_is)
      (case z_abs=>k_is)
      (case z_str=>k_is)
      (case z_sum=>k_is)
      (case z_bool=>k_is)
      (case z_tuple=>k_is)
      (case z_enumerate=>k_is)
      (case z_reversed=>k_is)
      (case z_ValueError=>k_is)
      (case A_Num=>k_is)
      (case A_Name=>k_is)
      (case A_Two=>k_is)
      (case A_Mod=>k_is)
      (case A_Less=>k_is)
      (case A_Program=>k_is)
      (case A_NoText=>k_is)
      (case a_0=>k_is)
      (case l_0=>k_is)
      (case cc_0=>k_is)
      (case kk_0=>k_is)
      (case a_1=>k_is)
      (case l_1=>k_is)
      (case cc_1=>k_is)
      (case kk_1=>k_is)
      (case a_2=>k_is)
      (case l_2=>k_is)
      (case cc_2=>k_is)
      (case kk_2=>k_is)
      (case a_3=>k_is)
      (case l_3=>k_is)
      (case cc_3=>k_is)
      (case kk_3=>k_is)
      (case a_4=>k_is)
      (case l_4=>k_is)
      (case cc_4=>k_is)
      (case kk_4=>k_is)
      (case a_5=>k_is)
      (case l_5=>k_is)
      (case cc_5=>k_is)
      (case kk_5=>k_is)
      (case a_6=>k_is)
      (case l_6=>k_is)
      (case cc_6=>k_is)
      (case kk_6=>k_is)
      (case a_7=>k_is)
      (case l_7=>k_is)
      (case cc_7=>k_is)
      (case kk_7=>k_is)
      (case a_8=>k_is)
      (case l_8=>k_is)
      (case cc_8=>k_is)
      (case kk_8=>k_is)
      (case a_9=>k_is)
      (case l_9=>k_is)
      (case cc_9=>k_is)
      (case kk_9=>k_is)
      (case a_10=>k_is)
      (case l_10=>k_is)
      (case cc_10=>k_is)
      (case kk_10=>k_is)
      (case a_11=>k_is)
      (case l_11=>k_is)
      (case cc_11=>k_is)
      (case kk_11=>k_is)
      (case a_12=>k_is)
      (case l_12=>k_is)
      (case cc_12=>k_is)
      (case kk_12=>k_is)
      (case a_13=>k_is)
      (case l_13=>k_is)
      (case cc_13=>k_is)
      (case kk_13=>k_is)
      (case a_14=>k_is)
      (case l_14=>k_is)
      (case cc_14=>k_is)
      (case kk_14=>k_is)
      (case a_15=>k_is)
      (case l_15=>k_is)
      (case cc_15=>k_is)
      (case kk_15=>k_is)
      (case a_16=>k_is)
      (case l_16=>k_is)
      (case cc_16=>k_is)
      (case kk_16=>k_is)
      (case a_17=>k_is)
      (case l_17=>k_is)
      (case cc_17=>k_is)
      (case kk_17=>k_is)
      (case a_18=>k_is)
      (case l_18=>k_is)
      (case cc_18=>k_is)
      (case kk_18=>k_is)
      (case a_19=>k_is)
      (case l_19=>k_is)
      (case cc_19=>k_is)
      (case kk_19=>k_is)
      (case a_20=>k_is)
      (case l_20=>k_is)
      (case cc_20=>k_is)
      (case kk_20=>k_is)
      (case a_21=>k_is)
      (case l_21=>k_is)
      (case cc_21=>k_is)
      (case kk_21=>k_is)
      (case a_22=>k_is)
      (case l_22=>k_is)
      (case cc_22=>k_is)
      (case kk_22=>k_is)
      (case a_23=>k_is)
      (case l_23=>k_is)
      (case cc_23=>k_is)
      (case kk_23=>k_is)
      (case a_24=>k_is)
      (case l_24=>k_is)
      (case cc_24=>k_is)
      (case kk_24=>k_is)
      (case a_25=>k_is)
      (case i_25=>k_is)
      (case l_25=>k_is)
      (case cc_25=>k_is)
      (case kk_25=>k_is)
      (case a_26=>k_is)
      (case i_26=>k_is)
      (case l_26=>k_is)
      (case cc_26=>k_is)
      (case kk_26=>k_is)
      (case a_27=>k_is)
      (case i_27=>k_is)
      (case l_27=>k_is)
      (case cc_27=>k_is)
      (case kk_27=>k_is)
      (case a_28=>k_is)
      (case i_28=>k_is)
      (case l_28=>k_is)
      (case cc_28=>k_is)
      (case kk_28=>k_is)
      (case a_29=>k_is)
      (case i_29=>k_is)
      (case l_29=>k_is)
      (case cc_29=>k_is)
      (case kk_29=>k_is)
      (case a_30=>k_is)
      (case i_30=>k_is)
      (case l_30=>k_is)
      (case cc_30=>k_is)
      (case kk_30=>k_is)
      (case a_31=>k_is)
      (case i_31=>k_is)
      (case l_31=>k_is)
      (case cc_31=>k_is)
      (case kk_31=>k_is)
      (case a_32=>k_is)
      (case i_32=>k_is)
      (case l_32=>k_is)
      (case cc_32=>k_is)
      (case kk_32=>k_is)
      (case a_33=>k_is)
      (case i_33=>k_is)
      (case l_33=>k_is)
      (case cc_33=>k_is)
      (case kk_33=>k_is)
      (case a_34=>k_is)
      (case i_34=>k_is)
      (case l_34=>k_is)
      (case cc_34=>k_is)
      (case kk_34=>k_is)
      (case a_35=>k_is)
      (case i_35=>k_is)
      (case l_35=>k_is)
      (case cc_35=>k_is)
      (case kk_35=>k_is)
      (case a_36=>k_is)
      (case i_36=>k_is)
      (case l_36=>k_is)
      (case cc_36=>k_is)
      (case kk_36=>k_is)
      (case pg_Num=>k_is)
      (case hd_Num=>k_is)
      (case po_Num=>k_is)
      (case sa_Num=>k_is)
      (case mk_Num=>k_is)
      (case kc_Num=>k_is)
      (case ha_Num=>k_is)
      (case hm_Num=>k_is)
      (case na_Num_value=>k_is)
      (case pg_Name=>k_is)
      (case hd_Name=>k_is)
      (case po_Name=>k_is)
      (case sa_Name=>k_is)
      (case mk_Name=>k_is)
      (case kc_Name=>k_is)
      (case ha_Name=>k_is)
      (case hm_Name=>k_is)
      (case na_Name_word=>k_is)
      (case pg_Two=>k_is)
      (case hd_Two=>k_is)
      (case po_Two=>k_is)
      (case sa_Two=>k_is)
      (case mk_Two=>k_is)
      (case kc_Two=>k_is)
      (case ha_Two=>k_is)
      (case hm_Two=>k_is)
      (case na_Two_word=>k_is)
      (case na_Two_one=>k_is)
      (case na_Two_other=>k_is)
      (case pg_Mod=>k_is)
      (case hd_Mod=>k_is)
      (case po_Mod=>k_is)
      (case sa_Mod=>k_is)
      (case mk_Mod=>k_is)
      (case kc_Mod=>k_is)
      (case ha_Mod=>k_is)
      (case hm_Mod=>k_is)
      (case na_Mod_inner=>k_is)
      (case na_Mod_number=>k_is)
      (case pg_Less=>k_is)
      (case hd_Less=>k_is)
      (case po_Less=>k_is)
      (case sa_Less=>k_is)
      (case mk_Less=>k_is)
      (case kc_Less=>k_is)
      (case ha_Less=>k_is)
      (case hm_Less=>k_is)
      (case na_Less_one=>k_is)
      (case na_Less_other=>k_is)
      (case na_Less_third=>k_is)
      (case na_Less_fourth=>k_is)
      (case pg_Program=>k_is)
      (case hd_Program=>k_is)
      (case po_Program=>k_is)
      (case sa_Program=>k_is)
      (case mk_Program=>k_is)
      (case kc_Program=>k_is)
      (case ha_Program=>k_is)
      (case hm_Program=>k_is)
      (case na_Program_start=>k_is)
      (case na_Program_send=>k_is)
      (case na_Program_when=>k_is)
      (case na_Program_renew=>k_is)
      (case hn=>k_is)
      (case htk=>k_is)
      (case A_NoWay=>k_is)
      (case A_BeatlessError=>k_is)
      (case A_NoProgram=>k_is)
      (case X_NoProgram=>k_exc)
      (case xga_NoProgram=>k_is)
      (case xgt_NoProgram=>k_is)
      (case xha_NoProgram=>k_is)
      (case xhm_NoProgram=>k_is)
      (case xhb_NoProgram=>k_is)
      (case xhd_NoProgram=>k_is)
      (case Y1_NoText=>kernel_rfl)
      (case Y2_NoText=>kernel_rfl)
      (case y3_NoText=>k_is)
      (case y4_NoText=>k_is)
      (case y5_NoText=>k_is)
      (case Y6_NoText=>kernel_rfl)
      (case y7_NoText=>k_is)
      (case y8_NoText=>k_is)
      (case y9_NoText=>k_is)
      (case yA_NoText=>k_is)
      (case yB_NoText=>k_is)
      (case Y_NoProgram_NoText=>kernel_rfl)
      (case k_Num_Num=>kit_is)
      (case k_Name_Num=>kit_is)
      (case k_Name_Name=>kit_is)
      (case k_Two_Num=>kit_is)
      (case k_Two_Name=>kit_is)
      (case k_Two_Two=>kit_is)
      (case k_Mod_Num=>kit_is)
      (case k_Mod_Name=>kit_is)
      (case k_Mod_Two=>kit_is)
      (case k_Mod_Mod=>kit_is)
      (case k_Less_Num=>kit_is)
      (case k_Less_Name=>kit_is)
      (case k_Less_Two=>kit_is)
      (case k_Less_Mod=>kit_is)
      (case k_Less_Less=>kit_is)
      (case k_tint_tint=>kit_is)
      (case k_tint_tbool=>kit_is)
      (case k_tstr_tstr=>kit_is)
      (case k_ttuple_ttuple=>kit_is)
      (case k_tint_ttuple=>kit_is)
      (case k_tstr_ttuple=>kit_is)
      (case k_tint_tstr=>kit_is)
      (case k_tstr_tint=>kit_is)
      (case k_tstr_tbool=>kit_is)
      (case k_Program_Program=>kit_is)
      (case k_NoProgram_NoWay=>kit_is)
      (case k_NoProgram_BeatlessError=>kit_is)
      (case k_NoProgram_tValueError=>kit_is)
      (case G_START_NAMES=>k_is)
      (case L_START_NAMES=>k_is)
      (case G_SEND_NAMES=>k_is)
      (case L_SEND_NAMES=>k_is)
      (case G_RENEW_NAMES=>k_is)
      (case L_RENEW_NAMES=>k_is)
      (case G_TWO_WORDS=>k_is)
      (case L_TWO_WORDS=>k_is)
      (case G_MOST_WORDS=>k_is)
      (case G_MOST_DEEP=>k_is)
      (case G_ALL_NAMES=>k_is)
      (case L_ALL_NAMES=>k_is)
      (case G_ROW_WORDS=>k_is)
      (case L_ROW_WORDS=>k_is)
      (case G_PARTS=>k_is)
      (case L_PARTS=>k_is)
      (case M_PARTS=>rfl)
      (case G_FIGURES=>k_is)
    obtain ⟨a,T⟩:=T
    have e0:=hmg.symm.trans T.g_qy
    cases e0
    exact ⟨_,T.b0_qy,fun base kb nb=>K04.ok_law T⟩
  case S=>exact fun K H a ns hl hO hS=>K04.sp_law_of hl hO hS
  case C=>exact fun _ _ _ _ z=>z

