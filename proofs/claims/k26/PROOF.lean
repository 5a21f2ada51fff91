import PyProof.Rows.All
import Wide.All
import OpenK.AllK
import Wide.FinOn
import PySem.Challenge.RW_beatless_k26_neighbours_trees_clusters
import Lean
import PyProof.EqAt
import PyProof.EqKinds
import PyProof.TupleCall
import PyProof.ZipIter
import PyProof.WalksMore
import KE.KRevSl
import KE.KIntText
import KE.KRevIter
import PyProof.Draws
import PyProof.EnumFor
import PyProof.EnumStmt
import PyProof.AttrMissHeap
import PyProof.DictUpdate
import PyProof.DictValues
import KE.KDictList
import PyProof.DictItemsLoops
import PyProof.DictWalks
set_option Elab.async false
set_option compiler.extract_closed false
set_option linter.all false
set_option maxRecDepth 100000
noncomputable section
namespace L2
open PySem PySem.Spec PyProof.Rows
abbrev Key:=Sum Int Str
noncomputable def xY:Key→Value→Bool
 |.inl k,v=>Value.isInt k v
 |.inr x,v=>Value.isStrOf x v
noncomputable def ziW (w:World):Key→Int
 |.inl k=>hashInt k
 |.inr x=>hashStr w x
theorem zB:∀ {k:Key}{v:Value},xY k v=true→(∃ i t,k=Sum.inl i∧v=Value.int i t)∨(∃ x t,k=Sum.inr x∧v=Value.str x t)
 |.inl i,v,h=>by
  obtain⟨t,e⟩:=Value.isInt_shape (k:=i) (v:=v) h
  exact .inl ⟨i,t,rfl,e⟩
 |.inr x,v,h=>by
  obtain⟨t,e⟩:=Value.isStrOf_shape (x:=x) (v:=v) h
  exact .inr ⟨x,t,rfl,e⟩
theorem Yo (i:Int) (t:Tok):xY (.inl i) (.int i t)=true:=by simp[xY,Value.isInt]
theorem Yn (x:Str) (t:Tok):xY (.inr x) (.str x t)=true:=by simp[xY,Value.isStrOf]
theorem U0 (a b:Int):decide ((Sum.inl a:Key)=Sum.inl b)=(a == b):=by
 by_cases e:a=b
 ·subst e;simp
 ·have h:¬ (Sum.inl a:Key)=Sum.inl b:=fun q=>e (Sum.inl.inj q)
  rw[decide_eq_false h]
  exact(beq_eq_false_iff_ne.mpr e).symm
theorem UX (a b:Str):decide ((Sum.inr a:Key)=Sum.inr b)=decide (a=b):=by
 by_cases e:a=b
 ·subst e;simp
 ·have h:¬ (Sum.inr a:Key)=Sum.inr b:=fun q=>e (Sum.inr.inj q)
  rw[decide_eq_false h,decide_eq_false e]
theorem UZ (a:Int) (b:Str):decide ((Sum.inl a:Key)=Sum.inr b)=false:=decide_eq_false (fun q=>nomatch q)
theorem UY (a:Str) (b:Int):decide ((Sum.inr a:Key)=Sum.inl b)=false:=decide_eq_false (fun q=>nomatch q)
def zm (prog:Program) (w:World):PySem.KeyKind prog w Key where
 is:=xY
 hash:=ziW w
 inj:=fun v a b ha hb=>by
  rcases zB ha with⟨i,t,rfl,rfl⟩ | ⟨x,t,rfl,rfl⟩
  ·rcases zB hb with⟨j,u,rfl,e⟩ | ⟨y,u,rfl,e⟩
   ·injection e with e1 _;rw[e1]
   ·exact nomatch e
  ·rcases zB hb with⟨j,u,rfl,e⟩ | ⟨y,u,rfl,e⟩
   ·exact nomatch e
   ·injection e with e1 _;rw[e1]
 byValue:=fun k v h=>by
  rcases zB h with⟨i,t,rfl,rfl⟩ | ⟨x,t,rfl,rfl⟩<;>rfl
 pyHash:=fun hv h=>by
  rcases zB hv with⟨i,t,rfl,rfl⟩ | ⟨x,t,rfl,rfl⟩
  ·exact wpAny_pyHash_int h
  ·exact wpAny_pyHash_str h
 eqBool:=fun hu hv h=>by
  rcases zB hu with⟨i,t,rfl,rfl⟩ | ⟨x,t,rfl,rfl⟩
  ·rcases zB hv with⟨j,u,rfl,rfl⟩ | ⟨y,u,rfl,rfl⟩
   ·rw[U0] at h;exact wpAny_eqBool_int h
   ·rw[UZ] at h;exact SeqAt.EqAt.int_str i t y u _ _ _ _ h
  ·rcases zB hv with⟨j,u,rfl,rfl⟩ | ⟨y,u,rfl,rfl⟩
   ·rw[UY] at h;exact SeqAt.EqAt.str_int x t j u _ _ _ _ h
   ·rw[UX] at h;exact wpAny_eqBool_str h
 «strs»:=fun k x t v h=>by
  rcases zB h with⟨i,u,rfl,e⟩ | ⟨y,u,rfl,e⟩
  ·exact nomatch e
  ·injection e with e1 _
   subst e1
   cases v<;>rfl
theorem uK (prog:Program) (w:World) (k:Key) (v:Value):(zm prog w).is k v=xY k v:=rfl
theorem vJ (prog:Program) (w:World) (i:Int) (t:Tok):(zm prog w).is (.inl i) (.int i t)=true:=Yo i t
theorem vI (prog:Program) (w:World) (x:Str) (t:Tok):(zm prog w).is (.inr x) (.str x t)=true:=Yn x t
inductive V where
 |non | bl (b:Bool) | int (i:Int) | str (x:Str) | byt (b:Array UInt8) | flt (b:UInt64) | ref (a:Addr) | ty (n:String)
 deriving DecidableEq
def RelV:V→Value→Prop
 |.non,u=>u=Value.none
 |.bl b,u=>u=Value.bool b
 |.int i,u=>∃ t,u=Value.int i t
 |.str x,u=>∃ t,u=Value.str x t
 |.byt b,u=>∃ t,u=Value.bytes b t
 |.flt b,u=>∃ t,u=Value.float b t
 |.ref a,u=>u=Value.ref a
 |.ty n,u=>u=Value.type n
abbrev Vals:List V→List Value→Prop:=Paired RelV
theorem Vals.length {xs:List V}{us:List Value}(r:Vals xs us):xs.length=us.length:=Paired.length r
theorem Vals.get:∀ {xs:List V}{us:List Value}{i:Nat}{x:V},Vals xs us→xs[i]?=some x→∃ u,us[i]?=some u∧RelV x u
 |_,_,_,_,.nil,e=>by simp at e
 |_,_,0,_,.cons r _,e=>by simp at e;subst e;exact⟨_,rfl,r⟩
 |_,_,i+1,x,.cons _ t,e=>by
  obtain⟨u,h1,h2⟩:=Vals.get (i:=i) (x:=x) t (by simpa using e)
  exact⟨u,by simpa using h1,h2⟩
theorem Vals.set {x:V}{u:Value}(r:RelV x u):∀ {xs:List V}{us:List Value}(i:Nat),Vals xs us→Vals (xs.set i x) (us.set i u)
 |_,_,_,.nil=>.nil
 |_,_,0,.cons _ t=>.cons r t
 |_,_,i+1,.cons q t=>.cons q (Vals.set r i t)
theorem Vals.append:∀ {xs ys:List V}{us ws:List Value},Vals xs us→Vals ys ws→Vals (xs++ys) (us++ws)
 |_,_,_,_,.nil,s=>s
 |_,_,_,_,.cons r t,s=>.cons r (Vals.append t s)
theorem Vals.take:∀ {xs:List V}{us:List Value}(n:Nat),Vals xs us→Vals (xs.take n) (us.take n)
 |_,_,0,_=>.nil
 |_,_,_+1,.nil=>.nil
 |_,_,n+1,.cons r t=>.cons r (Vals.take n t)
theorem Vals.drop:∀ {xs:List V}{us:List Value}(n:Nat),Vals xs us→Vals (xs.drop n) (us.drop n)
 |_,_,0,r=>r
 |_,_,_+1,.nil=>.nil
 |_,_,n+1,.cons _ t=>Vals.drop n t
def RelO:Option V→Option Value→Prop
 |some v,some u=>RelV v u
 |none,none=>True
 |_,_=>False
def KV {κ:Type}:List (κ×V)→List (κ×Value)→Prop:=Paired fun(p:κ×V) (q:κ×Value)=>p.1=q.1∧RelV p.2 q.2
noncomputable def kV:Key→V
 |.inl i=>.int i
 |.inr x=>.str x
inductive HO where
 /-- a list -/
 |lst (xs:List V)
 /-- a tuple (never changes) -/
 |tup (xs:List V)
 /-- a dict whose keys are ints and texts;one whose keys are tuples of ints and texts (the empty one is both) -/
 |dK (kvs:List (Key×V)) | dT (kvs:List (List Key×V))
 /-- a set of ints: its members,its size -/
 |set (S:Int→Bool) (n:Nat)
 /-- an instance of the class at C,its dict at dx,its attributes -/
 |ins (C dx:Addr) (fs:List (Str×V))
 /-- the dict of the instance at x -/
 |own (x:Addr)
 /-- the dict of an exception -/
 |xd (fs:List (Str×V))
 /-- a bound method,f of x -/
 |met (f x:Addr)
 /-- a range object lo,lo+1,.. below hi -/
 |rng (lo hi:Int)
 /-- a thing that is known to the object (the script;a dict while a loop walks it): read,never written while it is so -/
 |frz (o:Obj) (u:HO)
 /-- a code object's table -/
 |tbl (ps:Array Value)
 /-- any other thing,by what is true of its one object (a def of one's own: SetO a S n:=HO.ext fun h=>..) -/
 |ext (φ:Heap→Prop)
abbrev Hp:=Addr→Option HO
noncomputable def upd (H:Hp) (a:Addr) (o:HO):Hp:=fun b=>if b=a then some o else H b
theorem upd_same {H:Hp}{a:Addr}{o:HO}:upd H a o a=some o:=by unfold upd;rw[if_pos rfl]
theorem upd_ne {H:Hp}{a b:Addr}{o:HO}(h:b≠a):upd H a o b=H b:=by unfold upd;rw[if_neg h]
theorem yO {H:Hp}{a:Addr}{o u:HO}:upd (upd H a o) a u=upd H a u:=by
 funext b;unfold upd;split<;>rfl
theorem Vq {H:Hp}{a b:Addr}{o u:HO}(h:H a=some o) (h':H b=some u) (d:o≠u):a≠b:=by
 intro e;subst e;rw[h] at h';exact d (Option.some.inj h')
theorem ne_of_none {H:Hp}{a b:Addr}{o:HO}(h:H a=some o) (h':H b=none):a≠b:=by
 intro e;subst e;rw[h] at h';cases h'
section
variable (P:Program) (w:World)
def ObjOk (H:Hp) (h:Heap) (a:Addr):HO→Prop
 |.lst xs=>xs.length≤sizeLine∧∃ (its:List Value) (n:Nat),Vals xs its∧h.get? a=some { cls:=.type "list",data:=.seq its.toArray n }
 |.tup xs=>xs.length≤sizeLine∧∃ its:List Value,Vals xs its∧IsTup h a its.toArray
 |.dK kvs=>kvs.length≤sizeLine∧(a == sysModules)=false∧∃ vs,KV kvs vs∧h.DictOf (zm P w) a vs
 |.dT kvs=>kvs.length≤sizeLine∧(a == sysModules)=false∧∃ xs:List (List Key×Addr×Value),
   Paired (fun(p:List Key×V) (q:List Key×Addr×Value)=>p.1=q.1∧H q.2.1=some (.tup (p.1.map kV))∧RelV p.2 q.2.2) kvs xs ∧
   ∃ o es ep,h.get? a=some o∧o.ExactDict∧o.data=.dict es ep∧es.toList=xs.map (entryOfKey (tupleKind (zm P w)))∧(xs.map (·.1)).Nodup
 |.set S n=>h.SetOf (intKind P w) a S n
 |.ins C dx fs=>H dx=some (.own a)∧fs.length≤1000∧dx≠a∧h.get? a=some (PySem.W.instObj C dx) ∧
   ∃ mA,h.Ns1 dx mA∧(∀ f,RelO (fs.lookup f) (mA f))∧PySem.Within mA (fs.map (·.1))
 |.own _=>∃ o,h.get? a=some o
 |.xd fs=>∃ mA,h.Ns1 a mA∧∀ f,RelO (fs.lookup f) (mA f)
 |.rng lo hi=>∃ t u v,h.get? a=some { cls:=.type "range",data:=.fields #[.int lo t,.int hi u,.int 1 v] }
 |.frz o u=>h.get? a=some o∧ObjOk H h a u
 |.tbl ps=>h.get? a=some { cls:=.none,data:=.fields ps }
 |.met f x=>h.get? a=some (PySem.W.methodObj (.ref f) (.ref x))
 |.ext φ=>φ h∧(∃ o,h.get? a=some o)∧∀ h1 h2:Heap,φ h1→(∀ o,h1.get? a=some o→h2.get? a=some o)→φ h2
def HOk (H:Hp) (h:Heap):Prop:=∀ a o,H a=some o→ObjOk P w H h a o
end
section
variable {P:Program}{w:World}{H H':Hp}{h h':Heap}{a:Addr}{o:HO}
theorem ObjOk.lt (x:ObjOk P w H h a o):a<h.objs.size:=by
 cases o with
 |lst xs=>obtain⟨_,_,_,_,e⟩:=x;exact Heap.lt_size e
 |tup xs=>obtain⟨_,_,_,p⟩:=x;exact p.lt
 |dK kvs=>obtain⟨_,_,_,_,o,_,_,e,_⟩:=x;exact Heap.lt_size e
 |dT kvs=>obtain⟨_,_,_,_,o,_,_,e,_⟩:=x;exact Heap.lt_size e
 |set S n=>obtain⟨o,_,_,_,e,_⟩:=x;exact Heap.lt_size e
 |ins C dx fs=>obtain⟨_,_,_,e,_⟩:=x;exact Heap.lt_size e
 |own y=>obtain⟨_,e⟩:=x;exact Heap.lt_size e
 |xd fs=>obtain⟨_,⟨_,_,_,e,_⟩,_⟩:=x;exact Heap.lt_size e
 |rng lo hi=>obtain⟨_,_,_,e⟩:=x;exact Heap.lt_size e
 |frz ob u=>obtain⟨e,_⟩:=x;exact Heap.lt_size e
 |tbl ps=>exact Heap.lt_size (show h.get? a=some _ from x)
 |met f y=>exact Heap.lt_size (show h.get? a=some _ from x)
 |ext φ=>obtain⟨_,⟨_,e⟩,_⟩:=x;exact Heap.lt_size e
theorem Paired.mapP {α β:Type}{F G:α→β→Prop}:∀ {l₁:List α}{l₂:List β},Paired F l₁ l₂→(∀ a b,F a b→G a b)→Paired G l₁ l₂
 |_,_,.nil,_=>.nil
 |_,_,.cons r t,f=>.cons (f _ _ r) (Paired.mapP t f)
theorem ObjOk.stay (x:ObjOk P w H h a o) (k:∀ b u,(b=a∨H b=some (.own a))→h.get? b=some u→h'.get? b=some u)
  (ho:∀ b,H b=some (.own a)→H' b=some (.own a)) (ht:∀ b xs,H b=some (.tup xs)→H' b=some (.tup xs)):ObjOk P w H' h' a o:=by
 induction o with
 |lst xs=>obtain⟨z,its,n,r,e⟩:=x;exact⟨z,its,n,r,k _ _ (.inl rfl) e⟩
 |tup xs=>obtain⟨z,its,r,ob,e,c⟩:=x;exact⟨z,its,r,ob,k _ _ (.inl rfl) e,c⟩
 |dK kvs=>obtain⟨z,y,vs,r,ob,es,ep,e,c⟩:=x;exact⟨z,y,vs,r,ob,es,ep,k _ _ (.inl rfl) e,c⟩
 |dT kvs =>
  obtain⟨z,y,xs,r,ob,es,ep,e,c⟩:=x
  exact⟨z,y,xs,Paired.mapP r fun p q z=>⟨z.1,ht _ _ z.2.1,z.2.2⟩,ob,es,ep,k _ _ (.inl rfl) e,c⟩
 |set S n=>obtain⟨ob,es,ep,t,e,c⟩:=x;exact⟨ob,es,ep,t,k _ _ (.inl rfl) e,c⟩
 |ins C dx fs =>
  obtain⟨d,z,ne,e,mA,⟨od,es,ep,e2,c⟩,r⟩:=x
  exact⟨ho _ d,z,ne,k _ _ (.inl rfl) e,mA,⟨od,es,ep,k _ _ (.inr d) e2,c⟩,r⟩
 |own y=>obtain⟨ob,e⟩:=x;exact⟨ob,k _ _ (.inl rfl) e⟩
 |xd fs=>obtain⟨mA,⟨od,es,ep,e,c⟩,r⟩:=x;exact⟨mA,⟨od,es,ep,k _ _ (.inl rfl) e,c⟩,r⟩
 |rng lo hi=>obtain⟨t,u,v,e⟩:=x;exact⟨t,u,v,k _ _ (.inl rfl) e⟩
 |frz ob u ih=>obtain⟨e,q⟩:=x;exact⟨k _ _ (.inl rfl) e,ih q⟩
 |tbl ps =>
  have e:h.get? a=some { cls:=.none,data:=.fields ps }:=x
  show h'.get? a=some { cls:=.none,data:=.fields ps }
  exact k a _ (.inl rfl) e
 |met f y =>
  have e:h.get? a=some (PySem.W.methodObj (.ref f) (.ref y)):=x
  show h'.get? a=some (PySem.W.methodObj (.ref f) (.ref y))
  exact k a _ (.inl rfl) e
 |ext φ=>obtain⟨p,⟨o,e⟩,st⟩:=x;exact⟨st _ _ p fun o q=>k _ _ (.inl rfl) q,⟨o,k _ _ (.inl rfl) e⟩,st⟩
theorem HOk.lt (x:HOk P w H h) (e:H a=some o):a<h.objs.size:=(x a o e).lt
theorem HOk.fresh (x:HOk P w H h) (e:h.objs.size≤a):H a=none:=by
 cases q:H a with
 |none=>rfl
 |some u=>exact absurd (Nat.lt_of_lt_of_le (x.lt q) e) (Nat.lt_irrefl _)
theorem HOk.kept (x:HOk P w H h) (k:∀ b u,h.get? b=some u→h'.get? b=some u):HOk P w H h':=fun a o e =>
 (x a o e).stay (fun b u _ q=>k b u q) (fun _ q=>q) fun _ _ q=>q
theorem HOk.laid (x:HOk P w H h) (k:∀ b u,h.get? b=some u→h'.get? b=some u) (hp:h.objs.size≤a) (new:ObjOk P w (upd H a o) h' a o):HOk P w (upd H a o) h':=fun b u e=>by
 have hn:=x.fresh hp
 by_cases hb:b=a
 ·subst hb;rw[upd_same] at e;cases e;exact new
 ·rw[upd_ne hb] at e
  exact(x b u e).stay (fun c v _ q=>k c v q) (fun c q=>by rw[upd_ne (ne_of_none q hn)];exact q) fun c xs q=>by rw[upd_ne (ne_of_none q hn)];exact q
end
def Rd (H:Hp) (a:Addr) (u:HO):Prop:=H a=some u∨∃ o,H a=some (.frz o u)
theorem Rd.ok {P:Program}{w:World}{H:Hp}{h:Heap}{a:Addr}{u:HO}(r:Rd H a u) (x:HOk P w H h):ObjOk P w H h a u:=by
 rcases r with r | ⟨o,r⟩
 ·exact x a u r
 ·obtain⟨_,q⟩:=x a _ r
  exact q
def Mut:Option HO→Prop
 |some (.lst _)=>True
 |some (.dK _)=>True
 |some (.dT _)=>True
 |some (.set _ _)=>True
 |some (.ins _ _ _)=>True
 |some (.ext _)=>True
 |_=>False
section
variable {P:Program}{w:World}{H:Hp}{h h':Heap}{x e:Addr}{o':HO}
theorem HOk.write (ok:HOk P w H h) (mu:Mut (H x)) (he:e=x∨H e=some (.own x)) (k:∀ b u,b≠e→h.get? b=some u→h'.get? b=some u) (heo:∃ u,h'.get? e=some u)
  (new:ObjOk P w (upd H x o') h' x o'):HOk P w (upd H x o') h':=fun b u q=>by
 have nown:∀ c y,H c=some (.own y)→c≠x:=fun c y r z=>by subst z;rw[r] at mu;exact mu
 have ntup:∀ c xs,H c=some (.tup xs)→c≠x:=fun c xs r z=>by subst z;rw[r] at mu;exact mu
 by_cases hb:b=x
 ·subst hb;rw[upd_same] at q;cases q;exact new
 ·rw[upd_ne hb] at q
  by_cases hbe:b=e
  ·have q':H b=some (.own x):=by
    rcases he with z | z
    ·exact absurd (hbe.trans z) hb
    ·rw[hbe];exact z
   rw[q] at q';cases q'
   obtain⟨v,hv⟩:=heo
   exact⟨v,by rw[hbe];exact hv⟩
  ·refine(ok b u q).stay (fun c v hc r=>k c v ?_ r) (fun c r=>by rw[upd_ne (nown c b r)];exact r) fun c xs r=>by rw[upd_ne (ntup c xs r)];exact r
   rcases hc with rfl | hc
   ·exact hbe
   ·rintro rfl
    rcases he with z | z
    ·exact nown c b hc z
    ·rw[hc] at z;cases z;exact hb rfl
end
structure Un (fs ex:List Addr) (H H':Hp) (h h':Heap):Prop where
 keep:∀ b o,h.get? b=some o→H b=none→b∉fs→b∉ex→h'.get? b=some o
 slot:∀ b o,h.get? b=some o→H b=none→b∈fs→b∉ex→∃ sl,h'.get? b=some { o with slots:=sl }
 free:∀ b o,h.get? b=some o→H b=none→b∉ex→H' b=none
 there:∀ b o,h.get? b=some o→b∉ex→∃ o',h'.get? b=some o'
 tups:∀ b xs,H b=some (.tup xs)→H' b=some (.tup xs)
 frzs:∀ b o u,H b=some (.frz o u)→H' b=some (.frz o u)
 tbls:∀ b ps,H b=some (.tbl ps)→∃ more,H' b=some (.tbl (ps++more))
section
variable {fs fs' ex ex':List Addr}{H H1 H2:Hp}{h h1 h2 h':Heap}{a x e:Addr}{o:HO}
theorem Un.any (u:Un fs ex H H1 h h1){b:Addr}{ob:Obj}(q:h.get? b=some ob) (n:H b=none) (hx:b∉ex):∃ sl,h1.get? b=some { ob with slots:=sl }:=by
 by_cases hb:b∈fs
 ·exact u.slot b ob q n hb hx
 ·exact⟨ob.slots,u.keep b ob q n hb hx⟩
theorem Un.kept (k:∀ b u,h.get? b=some u→h'.get? b=some u):Un fs ex H H h h' :=
 ⟨fun b ob q _ _ _=>k b ob q,fun b ob q _ _ _=>⟨ob.slots,k b ob q⟩,fun _ _ _ n _=>n,fun b ob q _=>⟨ob,k b ob q⟩,fun _ _ q=>q,fun _ _ _ q=>q,fun _ ps q=>⟨#[],by rw[q];simp⟩⟩
theorem Un.refl:Un fs ex H H h h:=Un.kept fun _ _ q=>q
theorem Un.laid (k:∀ b u,h.get? b=some u→h'.get? b=some u) (hp:h.objs.size≤a) (hn:H a=none):Un fs ex H (upd H a o) h h' where
 keep:=fun b u q _ _ _=>k b u q
 slot:=fun b u q _ _ _=>⟨u.slots,k b u q⟩
 free:=fun b u q n _=>by rw[upd_ne (Nat.ne_of_lt (Nat.lt_of_lt_of_le (Heap.lt_size q) hp))];exact n
 there:=fun b u q _=>⟨u,k b u q⟩
 tups:=fun b xs q=>by rw[upd_ne (ne_of_none q hn)];exact q
 frzs:=fun b u xs q=>by rw[upd_ne (ne_of_none q hn)];exact q
 tbls:=fun b ps q=>⟨#[],by rw[upd_ne (ne_of_none q hn),q];simp⟩
theorem Un.write (mu:Mut (H x)) (he:e=x∨H e=some (.own x)) (k:∀ b u,b≠e→h.get? b=some u→h'.get? b=some u) (heo:∃ u,h'.get? e=some u):Un fs ex H (upd H x o) h h':=by
 have hx:∀ b,H b=none→b≠x:=fun b n z=>by subst z;rw[n] at mu;exact mu
 have hb:∀ b,H b=none→b≠e:=fun b n z=>by
  subst z
  rcases he with r | r
  ·exact hx b n r
  ·rw[n] at r;cases r
 have hm:∀ b u,H b=some u→¬ Mut (some u)→b≠x:=fun b u q nm z=>by subst z;rw[q] at mu;exact nm mu
 refine⟨fun b u q n _ _=>k b u (hb b n) q,fun b u q n _ _=>⟨u.slots,k b u (hb b n) q⟩,fun b u q n _=>by rw[upd_ne (hx b n)];exact n,fun b u q _=>?_,
  fun b xs q=>by rw[upd_ne (hm b _ q fun z=>z)];exact q,fun b u xs q=>by rw[upd_ne (hm b _ q fun z=>z)];exact q,fun b ps q=>⟨#[],by rw[upd_ne (hm b _ q fun z=>z),q];simp⟩⟩
 by_cases hbe:b=e
 ·subst hbe;exact heo
 ·exact⟨u,k b u hbe q⟩
end
def trk (h:Heap) (H:Hp):List Addr:=(List.range h.objs.size).filter fun a=>(H a).isSome
def XD (h:Heap) (H:Hp):Heap:=PySem.W.hideAll h (trk h H)
theorem Yv (h:Heap) (H:Hp):(XD h H).objs.size=h.objs.size:=PySem.W.hideAll_size _ _
theorem XC {h:Heap}{H:Hp}{b:Addr}{o:Obj}(e:h.get? b=some o) (n:H b=none):(XD h H).get? b=some o :=
 PySem.W.hideAll_get _ e fun hm=>by
  have q:(H b).isSome=true:=(List.mem_filter.mp hm).2
  rw[n] at q;simp at q
theorem Vm {h:Heap}{H:Hp}{b:Addr}{o:Obj}(e:(XD h H).get? b=some o):h.get? b=some o∧H b=none:=by
 have e':h.get? b=some o:=PySem.W.of_hideAll (trk h H) e
 refine⟨e',?_⟩
 cases q:H b with
 |none=>rfl
 |some x =>
  have hm:b∈trk h H:=List.mem_filter.mpr ⟨List.mem_range.mpr (Heap.lt_size e'),by simp[q]⟩
  have z:(XD h H).get? b=none:=PySem.W.hideAll_none (trk h H) hm
  rw[z] at e;cases e
structure Mod (K:PySem.W.Frag) (mg:Str→Option Value) (base:Heap):Prop where
 kin:K.In base
 glob:base.Ns mainGlobals mg
 blt:∃ mb,base.Ns builtinsNs mb∧∀ x:Str,x ≠ "__name__" → mb x=bootBuiltins x
 nolimit:base.NoLimit
structure Cx where
 prog:Program
 w:World
 K:PySem.W.Frag
 mg:Str→Option Value
 base:Heap
 A:Around
 N:List Str
 s₀:Shared
 H₀:Hp
 env:Env
 outer:List Env
 stack:List Env
 ex:List Addr
 fn:Str→Bool
 calm:Bool
 pn:List (Addr×Obj)
 xe:Value→Shared→Prop
noncomputable def frs (l:List Env):List Addr:=l.filterMap (·.frame)
abbrev Cx.fs (X:Cx):List Addr:=frs X.outer
def Vis (sc:Scope) (x:Str):Prop:=sc.names.lookup x=some .local∨sc.names.lookup x=some .cell∨sc.names.lookup x=some .free
def Loc (sc:Scope) (x:Str):Prop:=sc.names.lookup x=some .local∨sc.names.lookup x=some .cell
def zi1 (env:Env) (h:Heap) (m:Str→Option Value) (x:Str) (u:Value):Prop :=
 (env.kindOf x=some .local∧m x=some u)∨((env.kindOf x=some .cell∨env.kindOf x=some .free)∧∃ c,env.cells.lookup x=some c∧h.IsCell c (some u))
structure Cx.Ok (X:Cx):Prop where
 mod:Mod X.K X.mg X.base
 kind:X.env.scope.kind=.function
 glob:X.env.globals=mainGlobals
 blt:X.env.builtins=builtinsNs
 above:X.s₀.heap.objs.size≤X.env.locals
 inj:∀ x y c,X.env.cells.lookup x=some c→X.env.cells.lookup y=some c→x=y
 has:∀ x,(X.env.kindOf x=some .cell∨X.env.kindOf x=some .free)→∃ c,X.env.cells.lookup x=some c
 cab:∀ x c,X.fn x=true→X.env.cells.lookup x=some c→X.s₀.heap.objs.size≤c
 hd:X.calm=true→X.A.handled=none
 frames:X.A.frames=some X.stack
 stk:X.stack=X.outer∨(X.stack=X.env::X.outer∧X.env.frame=some X.env.locals)
 exf:∀ b∈X.ex,b≠X.env.locals∧∀ x c,X.env.cells.lookup x=some c→c≠b
 bs:∀ b o,X.base.get? b=some o→X.s₀.heap.get? b=some o∧X.H₀ b=none
 bsz:X.base.objs.size≤X.s₀.heap.objs.size
 noex:∀ b o,X.base.get? b=some o→b∉X.ex
 exfs:∀ b∈X.ex,b∉X.fs
 funs:X.s₀.heap.FunFrames X.base X.outer
 frf:∀ b∈X.fs,X.H₀ b=none
structure Inv (X:Cx) (pins:List (Addr×Obj)) (σ:List (Option V)) (H:Hp) (s:Shared):Prop where
 ok:X.Ok
 os:s.os=X.s₀.os
 bare:AllBare s.gens
 base:Un X.fs X.ex X.H₀ H X.s₀.heap s.heap
 loc:∃ m,s.heap.Ns X.env.locals m∧∀ (i:Nat) (x:Str) (v:V),X.N[i]?=some x→σ[i]?=some (some v)→Vis X.env.scope x→∃ u,RelV v u∧zi1 X.env s.heap m x u
 cell:∀ x c,X.env.cells.lookup x=some c→∃ v,s.heap.IsCell c v
 free:H X.env.locals=none
 freeC:∀ x c,X.env.cells.lookup x=some c→H c=none
 pin:∀ p∈X.pn++pins,s.heap.get? p.1=some p.2∧H p.1=none∧p.1≠X.env.locals∧p.1∉X.fs∧∀ v,p.2.data≠.cell v
 hok:HOk X.prog X.w H s.heap
 len:σ.length=X.N.length
section
variable {X:Cx}{pins:List (Addr×Obj)}{σ:List (Option V)}{H H':Hp}{s:Shared}{h':Heap}
theorem Cx.Ok.nofr (ok:X.Ok){b:Addr}{o:Obj}(e:X.base.get? b=some o):b∉X.fs:=fun hb=>by
 have:=(ok.funs.mem hb).1
 rw[e] at this;cases this
theorem Inv.bs (I:Inv X pins σ H s):∀ b o,X.base.get? b=some o→s.heap.get? b=some o∧H b=none:=fun b o e =>
 ⟨I.base.keep b o (I.ok.bs b o e).1 (I.ok.bs b o e).2 (I.ok.nofr e) (I.ok.noex b o e),I.base.free b o (I.ok.bs b o e).1 (I.ok.bs b o e).2 (I.ok.noex b o e)⟩
theorem Inv.bk (I:Inv X pins σ H s):∀ b o,X.base.get? b=some o→s.heap.get? b=some o:=fun b o e=>(I.bs b o e).1
theorem Inv.mod (I:Inv X pins σ H s):Mod X.K X.mg X.base:=I.ok.mod
theorem Inv.kIn (I:Inv X pins σ H s):X.K.In s.heap:=I.ok.mod.kin.keeps I.bk
theorem Inv.lt (I:Inv X pins σ H s):X.env.locals<s.heap.objs.size:=let ⟨_,hn,_⟩:=I.loc;hn.lt
theorem Inv.sz (I:Inv X pins σ H s):X.s₀.heap.objs.size≤s.heap.objs.size:=Nat.le_trans I.ok.above (Nat.le_of_lt I.lt)
theorem Inv.nofs (I:Inv X pins σ H s){a:Addr}(h:s.heap.objs.size≤a):a∉X.fs:=fun hb=>by
 obtain⟨_,o,ho,_⟩:=I.ok.funs.mem hb
 exact absurd (Nat.lt_of_lt_of_le (Heap.lt_size ho) (Nat.le_trans I.sz h)) (Nat.lt_irrefl _)
theorem Inv.cne (I:Inv X pins σ H s):∀ x c,X.env.cells.lookup x=some c→c≠X.env.locals:=fun x c e z=>by
 obtain⟨v,o,ho,hd⟩:=I.cell x c e
 obtain⟨m,⟨o',es,ep,ho',hd',_⟩,_⟩:=I.loc
 rw[z,ho'] at ho;cases ho;rw[hd'] at hd;cases hd
theorem Inv.funs (I:Inv X pins σ H s):s.heap.FunFrames X.base X.outer:=by
 have all:∀ (l:List Env),(∀ b∈frs l,b∈X.fs)→X.s₀.heap.FunFrames X.base l→s.heap.FunFrames X.base l:=by
  intro l
  induction l with
  |nil=>intro _ _;trivial
  |cons env r ih =>
   intro hs hl
   obtain⟨hk,⟨L,o,hf,hn,ho,hd⟩,hr⟩:=hl
   have hL:L∈X.fs:=hs L (by unfold frs;rw[List.filterMap_cons,hf];exact List.mem_cons_self)
   obtain⟨sl,e⟩:=I.base.slot L o ho (I.ok.frf L hL) hL fun z=>I.ok.exfs L z hL
   exact⟨hk,⟨L,_,hf,hn,e,hd⟩,ih (fun b hb=>hs b (by unfold frs;rw[List.filterMap_cons,hf];exact List.mem_cons_of_mem _ hb)) hr⟩
 exact all X.outer (fun _ hb=>hb) I.ok.funs
theorem Inv.stack (I:Inv X pins σ H s):s.heap.FunFrames X.base X.stack:=by
 rcases I.ok.stk with e | ⟨e,hf⟩
 ·rw[e];exact I.funs
 ·rw[e]
  obtain⟨m,hn,_⟩:=I.loc
  refine .cons (by rw[I.ok.kind];decide) hf hn ?_ I.funs
  exact Heap.get?_none_of_le (Nat.le_trans I.ok.bsz I.ok.above)
theorem Inv.stkSub (I:Inv X pins σ H s):∀ b∈frs X.stack,b∈X.env.locals::X.fs:=fun b hb=>by
 rcases I.ok.stk with e | ⟨e,hf⟩
 ·rw[e] at hb;exact List.mem_cons_of_mem _ hb
 ·rw[e] at hb
  unfold frs at hb
  rw[List.filterMap_cons,hf] at hb
  exact hb
theorem Inv.stkFree (I:Inv X pins σ H s):∀ b∈frs X.stack,H b=none:=fun b hb=>by
 rcases List.mem_cons.mp (I.stkSub b hb) with e | hb
 ·rw[e];exact I.free
 ·obtain⟨_,o,ho,_⟩:=I.ok.funs.mem hb
  exact I.base.free b o ho (I.ok.frf b hb) fun z=>I.ok.exfs b z hb
theorem Inv.step {g':Array GenState}{t':Nat}{d':Drawn}{ch:List Addr}(I:Inv X pins σ H s)
  (hch:∀ b∈ch,(b∈X.ex∨X.s₀.heap.objs.size≤b)∧b≠X.env.locals∧(∀ x c,X.env.cells.lookup x=some c→c≠b)∧∀ p∈X.pn++pins,p.1≠b)
  (keep:∀ b o,b≠X.env.locals→b∉X.fs→b∉ch→s.heap.get? b=some o→H b=none→h'.get? b=some o)
  (slot:∀ b o,b≠X.env.locals→b∈X.fs→b∉ch→s.heap.get? b=some o→H b=none→∃ sl,h'.get? b=some { o with slots:=sl }) (free:∀ b o,b∉ch→s.heap.get? b=some o→H b=none→H' b=none)
  (there:∀ b o,b∉ch→s.heap.get? b=some o→∃ o',h'.get? b=some o')
  (tups:∀ b xs,H b=some (.tup xs)→H' b=some (.tup xs)) (frzs:∀ b o u,H b=some (.frz o u)→H' b=some (.frz o u)) (tbls:∀ b ps,H b=some (.tbl ps)→∃ more,H' b=some (.tbl (ps++more)))
  (ns:∀ m,s.heap.Ns X.env.locals m→h'.Ns X.env.locals m) (hok:HOk X.prog X.w H' h') (hg:AllBare g') :
  Inv X pins σ H' { s with heap:=h',gens:=g',drawn:=d',toks:=t' }:=by
 have neL:∀ b o,X.s₀.heap.get? b=some o→b≠X.env.locals:=fun b o e=>Nat.ne_of_lt (Nat.lt_of_lt_of_le (Heap.lt_size e) I.ok.above)
 have neC:∀ b o,X.s₀.heap.get? b=some o→b∉X.ex→b∉ch:=fun b o e hx hb=>by
  rcases(hch b hb).1 with z | z
  ·exact hx z
  ·exact absurd (Nat.lt_of_lt_of_le (Heap.lt_size e) z) (Nat.lt_irrefl _)
 have cellK:∀ x c,X.env.cells.lookup x=some c→∀ v,s.heap.IsCell c v→h'.IsCell c v:=fun x c e v ⟨o,ho,hd⟩=>by
  have nch:c∉ch:=fun z=>(hch c z).2.2.1 x c e rfl
  by_cases hc:c∈X.fs
  ·obtain⟨sl,q⟩:=slot c o (I.cne x c e) hc nch ho (I.freeC x c e)
   exact⟨_,q,hd⟩
  ·exact⟨o,keep c o (I.cne x c e) hc nch ho (I.freeC x c e),hd⟩
 refine⟨I.ok,I.os,hg,⟨fun b o e n hb hx=>?_,fun b o e n hb hx=>?_,fun b o e n hx=>?_,fun b o e hx=>?_,fun b xs e=>tups b xs (I.base.tups b xs e),fun b o xs e=>frzs b o xs (I.base.frzs b o xs e),fun b ps e=>?_⟩,?_,fun x c e=>?_,?_,fun x c e=>?_,fun p hp=>?_,hok,I.len⟩
 ·exact keep b o (neL b o e) hb (neC b o e hx) (I.base.keep b o e n hb hx) (I.base.free b o e n hx)
 ·obtain⟨sl,e1⟩:=I.base.slot b o e n hb hx
  obtain⟨sl',e2⟩:=slot b _ (neL b o e) hb (neC b o e hx) e1 (I.base.free b o e n hx)
  exact⟨sl',e2⟩
 ·obtain⟨o',e1⟩:=I.base.there b o e hx
  exact free b o' (neC b o e hx) e1 (I.base.free b o e n hx)
 ·obtain⟨o',e1⟩:=I.base.there b o e hx
  exact there b o' (neC b o e hx) e1
 ·obtain⟨m1,e1⟩:=I.base.tbls b ps e
  obtain⟨m2,e2⟩:=tbls b _ e1
  exact⟨m1++m2,by rw[e2,Array.append_assoc]⟩
 ·obtain⟨m,hn,hl⟩:=I.loc
  refine⟨m,ns m hn,fun i x v e1 e2 e3=>?_⟩
  obtain⟨u,r,l⟩:=hl i x v e1 e2 e3
  refine⟨u,r,?_⟩
  rcases l with l | ⟨k,c,e,z⟩
  ·exact .inl l
  ·exact .inr ⟨k,c,e,cellK x c e _ z⟩
 ·obtain⟨v,z⟩:=I.cell x c e
  exact⟨v,cellK x c e v z⟩
 ·obtain⟨m,⟨o,_,_,ho,_⟩,_⟩:=I.loc
  exact free _ o (fun z=>(hch _ z).2.1 rfl) ho I.free
 ·obtain⟨v,o,ho,hd⟩:=I.cell x c e
  exact free c o (fun z=>(hch c z).2.2.1 x c e rfl) ho (I.freeC x c e)
 ·obtain⟨e,n,ne,nf,d⟩:=I.pin p hp
  have nch:p.1∉ch:=fun z=>(hch p.1 z).2.2.2 p hp rfl
  exact⟨keep p.1 p.2 ne nf nch e n,free p.1 p.2 nch e n,ne,nf,d⟩
theorem Inv.un {t':Nat}(I:Inv X pins σ H s) (u:Un X.fs [] H H' s.heap h') (hok:HOk X.prog X.w H' h'):Inv X pins σ H' { s with heap:=h',toks:=t' }:=by
 obtain⟨m,⟨o,es,ep,ho,r⟩,_⟩:=id I.loc
 obtain⟨sl,hL⟩:=u.any ho I.free (by simp)
 exact I.step (g':=s.gens) (d':=s.drawn) (ch:=[]) (fun _ z=>nomatch z) (fun b o _ hb _ e n=>u.keep b o e n hb (by simp)) (fun b o _ hb _ e n=>u.slot b o e n hb (by simp)) (fun b o _ e n=>u.free b o e n (by simp)) (fun b o _ e=>u.there b o e (by simp)) u.tups u.frzs u.tbls (fun m' hm=>by
  obtain⟨o',es',ep',ho',r'⟩:=hm
  rw[ho] at ho';cases ho'
  exact⟨_,es',ep',hL,r'⟩) hok I.bare
theorem Inv.call {g':Array GenState}{t':Nat}{d':Drawn}{ch:List Addr}(I:Inv X pins σ H s) (u:Un (frs X.stack) ch H H' s.heap h') (hok:HOk X.prog X.w H' h') (hg:AllBare g')
  (hch:∀ b∈ch,(b∈X.ex∨X.s₀.heap.objs.size≤b)∧b≠X.env.locals∧(∀ x c,X.env.cells.lookup x=some c→c≠b)∧∀ p∈X.pn++pins,p.1≠b) :
  Inv X pins σ H' { s with heap:=h',gens:=g',drawn:=d',toks:=t' }:=by
 obtain⟨m,⟨o,es,ep,ho,r⟩,_⟩:=id I.loc
 obtain⟨sl,hL⟩:=u.any ho I.free fun z=>(hch _ z).2.1 rfl
 exact I.step (ch:=ch) hch (fun b o hL hb hc e n=>u.keep b o e n (fun z=>(List.mem_cons.mp (I.stkSub b z)).elim hL hb) hc) (fun b o _ _ hc e n=>u.any e n hc) (fun b o hc e n=>u.free b o e n hc) (fun b o hc e=>u.there b o e hc) u.tups u.frzs u.tbls (fun m' hm=>by
  obtain⟨o',es',ep',ho',r'⟩:=hm
  rw[ho] at ho';cases ho'
  exact⟨_,es',ep',hL,r'⟩) hok hg
theorem Inv.turned {t':Nat}{it:Addr}(I:Inv X pins σ H s) (k:∀ b o,b≠it→s.heap.get? b=some o→h'.get? b=some o) (hn:H it=none) (hL:it≠X.env.locals)
  (h1:it∈X.ex∨X.s₀.heap.objs.size≤it) (h2:∀ x c,X.env.cells.lookup x=some c→c≠it) (h3:∀ p∈X.pn++pins,p.1≠it):Inv X pins σ H { s with heap:=h',toks:=t' }:=by
 have nit:∀ b u,H b=some u→b≠it:=fun b u e z=>by rw[z,hn] at e;cases e
 refine I.step (g':=s.gens) (d':=s.drawn) (ch:=[it]) (fun b hb=>?_) (fun b o _ _ hc e _=>k b o (fun z=>hc (by simp[z])) e) (fun b o _ _ hc e _=>⟨o.slots,k b o (fun z=>hc (by simp[z])) e⟩) (fun _ _ _ _ n=>n)
  (fun b o hc e=>⟨o,k b o (fun z=>hc (by simp[z])) e⟩) (fun _ _ e=>e) (fun _ _ _ e=>e) (fun b ps e=>⟨#[],by rw[e];simp⟩) (fun m hm=>?_) (fun b u e=>?_) I.bare
 ·have e:b=it:=by simpa using hb
  subst e
  exact⟨h1,hL,h2,h3⟩
 ·obtain⟨o,es,ep,ho,r⟩:=hm
  exact⟨o,es,ep,k _ o (Ne.symm hL) ho,r⟩
 ·refine(I.hok b u e).stay (fun c v hc q=>k c v ?_ q) (fun _ q=>q) fun _ _ q=>q
  rcases hc with z | z
  ·rw[z];exact nit b u e
  ·exact nit c _ z
theorem Inv.tok (I:Inv X pins σ H s) (t:Nat):Inv X pins σ H { s with toks:=t }:=I.un (h':=s.heap) (t':=t) Un.refl I.hok
theorem Inv.kept {t':Nat}(I:Inv X pins σ H s) (k:∀ b u,s.heap.get? b=some u→h'.get? b=some u):Inv X pins σ H { s with heap:=h',toks:=t' }:=I.un (Un.kept k) (I.hok.kept k)
theorem Inv.laid {a:Addr}{o:HO}{t':Nat}(I:Inv X pins σ H s) (k:∀ b u,s.heap.get? b=some u→h'.get? b=some u) (hp:s.heap.objs.size≤a) (new:ObjOk X.prog X.w (upd H a o) h' a o) :
  Inv X pins σ (upd H a o) { s with heap:=h',toks:=t' }:=I.un (Un.laid k hp (I.hok.fresh hp)) (I.hok.laid k hp new)
theorem Inv.write {x e:Addr}{o:HO}{t':Nat}(I:Inv X pins σ H s) (mu:Mut (H x)) (he:e=x∨H e=some (.own x)) (k:∀ b u,b≠e→s.heap.get? b=some u→h'.get? b=some u) (heo:∃ u,h'.get? e=some u)
  (new:ObjOk X.prog X.w (upd H x o) h' x o):Inv X pins σ (upd H x o) { s with heap:=h',toks:=t' }:=I.un (Un.write mu he k heo) (I.hok.write mu he k heo new)
theorem Inv.pins_of {pins':List (Addr×Obj)}(I:Inv X pins σ H s) (h:∀ p∈pins',s.heap.get? p.1=some p.2∧H p.1=none∧p.1≠X.env.locals∧p.1∉X.fs∧∀ v,p.2.data≠.cell v):Inv X pins' σ H s :=
 ⟨I.ok,I.os,I.bare,I.base,I.loc,I.cell,I.free,I.freeC,fun p hp=>(List.mem_append.mp hp).elim (fun z=>I.pin p (List.mem_append_left _ z)) (h p),I.hok,I.len⟩
theorem nodup_ix {N:List Str}(hN:N.Nodup){i j:Nat}{x:Str}(a:N[i]?=some x) (b:N[j]?=some x):i=j:=by
 obtain⟨h1,e1⟩:=List.getElem?_eq_some_iff.mp a
 obtain⟨h2,e2⟩:=List.getElem?_eq_some_iff.mp b
 exact(List.getElem_inj hN).mp (e1.trans e2.symm)
theorem wV {M:Model}{A:Around}{E:Value→Shared→Prop}{i:Nat}{x:Str}{v:V}{u:Value}{Q:Unit→Shared→Prop}(I:Inv X pins σ H s) (hN:X.N.Nodup) (hi:X.N[i]?=some x) (hx:Loc X.env.scope x) (r:RelV v u)
  (h:∀ s',Inv X pins (σ.set i (some v)) H s'→(∃ a,Heap.SameBut a s.heap s'.heap∧(a=X.env.locals∨X.env.cells.lookup x=some a))→Q () s') (hf:X.fn x=true∨X.env.scope.names.lookup x=some .local:=by first | exact .inl rfl | exact .inr rfl | assumption):wpAny M A (storeName X.env x u) Q E s:=by
 obtain⟨m,hn,hl⟩:=id I.loc
 have hcls:(X.env.scope.kind == .class||(X.env.scope.kind == .module&&X.env.locals != X.env.globals))=false:=by rw[I.ok.kind];rfl
 have hiσ:i<σ.length:=by rw[I.len];exact(List.getElem?_eq_some_iff.mp hi).1
 have cne:=I.cne
 have tracked:∀ {a:Addr}{h':Heap},(∃ o,s.heap.get? a=some o∧H a=none)→Heap.SameBut a s.heap h'→HOk X.prog X.w H h':=fun {a h'} ha hs b ob e=>by
  obtain⟨_,_,hfree⟩:=ha
  refine(I.hok b ob e).stay (fun c w' hc q=>(hs.2 c ?_).trans q) (fun _ q=>q) fun _ _ q=>q
  rintro rfl
  rcases hc with rfl | hc
  ·rw[hfree] at e;cases e
  ·rw[hfree] at hc;cases hc
 rcases hx with hk | hk
 ·refine wpAny_storeName_local hk hn (fun h' hn' hs=>?_) hcls
  obtain⟨oL,_,_,hoL,_⟩:=id hn
  refine h _ ⟨I.ok,I.os,I.bare,⟨fun b o e n hb hx=>?_,fun b o e n hb hx=>?_,I.base.free,fun b o e hx=>?_,I.base.tups,I.base.frzs,I.base.tbls⟩,⟨_,hn',fun j y v' e1 e2 e3=>?_⟩,fun y c e=>?_,I.free,I.freeC,fun p hp=>?_,tracked ⟨oL,hoL,I.free⟩ hs,by simpa using I.len⟩ ⟨_,hs,.inl rfl⟩
  ·exact(hs.2 b (Nat.ne_of_lt (Nat.lt_of_lt_of_le (Heap.lt_size e) I.ok.above))).trans (I.base.keep b o e n hb hx)
  ·obtain⟨sl,e1⟩:=I.base.slot b o e n hb hx
   exact⟨sl,(hs.2 b (Nat.ne_of_lt (Nat.lt_of_lt_of_le (Heap.lt_size e) I.ok.above))).trans e1⟩
  ·obtain⟨o',e1⟩:=I.base.there b o e hx
   exact⟨o',(hs.2 b (Nat.ne_of_lt (Nat.lt_of_lt_of_le (Heap.lt_size e) I.ok.above))).trans e1⟩
  ·by_cases hj:j=i
   ·subst hj
    rw[hi] at e1;cases e1
    rw[List.getElem?_set_self hiσ] at e2
    cases e2
    exact⟨u,r,.inl ⟨hk,by simp⟩⟩
   ·rw[List.getElem?_set_ne (Ne.symm hj)] at e2
    obtain⟨u',r',q⟩:=hl j y v' e1 e2 e3
    refine⟨u',r',?_⟩
    rcases q with⟨k,e⟩ | ⟨k,c,e,z⟩
    ·refine .inl ⟨k,?_⟩
     have:y≠x:=fun e=>hj (nodup_ix hN e1 (e ▸ hi))
     simp[this,e]
    ·exact .inr ⟨k,c,e,z.sameBut hs (cne y c e)⟩
  ·obtain⟨w',z⟩:=I.cell y c e
   exact⟨w',z.sameBut hs (cne y c e)⟩
  ·obtain⟨e,n,ne,nf,d⟩:=I.pin p hp
   exact⟨(hs.2 p.1 ne).trans e,n,ne,nf,d⟩
 ·have hfn:X.fn x=true:=by
   rcases hf with z | z
   ·exact z
   ·rw[z] at hk;cases hk
  obtain⟨c,hc⟩:=I.ok.has x (.inl hk)
  obtain⟨w',z⟩:=I.cell x c hc
  refine wpAny_storeName_cell I.ok.kind hk hc z (fun h' hc' hs=>?_)
  obtain⟨oc,hoc,hocd⟩:=id z
  refine h { s with heap:=h' } ⟨I.ok,I.os,I.bare,⟨fun b o e n hb hx=>?_,fun b o e n hb hx=>?_,I.base.free,fun b o e hx=>?_,I.base.tups,I.base.frzs,I.base.tbls⟩,⟨m,hn.sameBut hs (Ne.symm (cne x c hc)),fun j y v' e1 e2 e3=>?_⟩,fun y c' e=>?_,I.free,I.freeC,fun p hp=>?_,tracked ⟨oc,hoc,I.freeC x c hc⟩ hs,by simpa using I.len⟩ ⟨c,hs,.inr hc⟩
  ·exact(hs.2 b (Nat.ne_of_lt (Nat.lt_of_lt_of_le (Heap.lt_size e) (I.ok.cab x c hfn hc)))).trans (I.base.keep b o e n hb hx)
  ·obtain⟨sl,e1⟩:=I.base.slot b o e n hb hx
   exact⟨sl,(hs.2 b (Nat.ne_of_lt (Nat.lt_of_lt_of_le (Heap.lt_size e) (I.ok.cab x c hfn hc)))).trans e1⟩
  ·obtain⟨o',e1⟩:=I.base.there b o e hx
   exact⟨o',(hs.2 b (Nat.ne_of_lt (Nat.lt_of_lt_of_le (Heap.lt_size e) (I.ok.cab x c hfn hc)))).trans e1⟩
  ·by_cases hj:j=i
   ·subst hj
    rw[hi] at e1;cases e1
    rw[List.getElem?_set_self hiσ] at e2
    cases e2
    exact⟨u,r,.inr ⟨.inl hk,c,hc,hc'⟩⟩
   ·rw[List.getElem?_set_ne (Ne.symm hj)] at e2
    obtain⟨u',r',q⟩:=hl j y v' e1 e2 e3
    refine⟨u',r',?_⟩
    rcases q with q | ⟨k,c',e,z'⟩
    ·exact .inl q
    ·refine .inr ⟨k,c',e,z'.sameBut hs ?_⟩
     rintro rfl
     exact hj (nodup_ix hN e1 (I.ok.inj _ _ _ e hc ▸ hi))
  ·by_cases hcc:c'=c
   ·subst hcc;exact⟨_,hc'⟩
   ·obtain⟨w2,z2⟩:=I.cell y c' e
    exact⟨w2,z2.sameBut hs hcc⟩
  ·obtain⟨e,n,ne,nf,d⟩:=I.pin p hp
   refine⟨(hs.2 p.1 ?_).trans e,n,ne,nf,d⟩
   intro q
   rw[q,hoc] at e
   have q':oc=p.2:=Option.some.inj e
   exact d w' (by rw[← q'];exact hocd)
theorem store_ok {M:Model}{A:Around}{E:Value→Shared→Prop}{i:Nat}{x:Str}{v:V}{u:Value}{Q:Unit→Shared→Prop}(I:Inv X pins σ H s) (hN:X.N.Nodup) (hi:X.N[i]?=some x) (hx:Loc X.env.scope x) (r:RelV v u)
  (h:∀ s',Inv X pins (σ.set i (some v)) H s'→Q () s') (hf:X.fn x=true∨X.env.scope.names.lookup x=some .local:=by first | exact .inl rfl | exact .inr rfl | assumption):wpAny M A (storeName X.env x u) Q E s :=
 wV I hN hi hx r (fun s' I' _=>h s' I') hf
theorem Inv.call' {s':Shared}{ch:List Addr}(I:Inv X pins σ H s) (ho:s'.os=s.os) (u:Un (frs X.stack) ch H H' s.heap s'.heap) (hok:HOk X.prog X.w H' s'.heap) (hg:AllBare s'.gens)
  (hch:∀ b∈ch,(b∈X.ex∨X.s₀.heap.objs.size≤b)∧b≠X.env.locals∧(∀ x c,X.env.cells.lookup x=some c→c≠b)∧∀ p∈X.pn++pins,p.1≠b):Inv X pins σ H' s':=by
 obtain⟨h',g',d',t',o'⟩:=s'
 have e:o'=s.os:=ho
 subst e
 exact I.call (g':=g') (t':=t') (d':=d') u hok hg hch
end
abbrev XK:=Value→Option Addr→Hp→Prop
abbrev St:=List (Option V)
abbrev VK:=V→Hp→Prop
abbrev TE:=St→Hp→VK→Prop
abbrev TT:=St→Hp→(Bool→Hp→Prop)→Prop
abbrev TA:=St→Hp→(List V→Hp→Prop)→Prop
structure Ends where
 nx:St→Hp→Prop
 rt:VK
 bk:St→Hp→Prop:=fun _ _=>False
 ct:St→Hp→Prop:=fun _ _=>False
abbrev TS:=Ends→St→Hp→Prop
def EP (X:Cx) (pins:List (Addr×Obj)) (σ:St) (Q:VK) (u:Value) (s':Shared):Prop:=∃ v H',Inv X pins σ H' s'∧RelV v u∧Q v H'
def TP (X:Cx) (pins:List (Addr×Obj)) (σ:St) (Q:Bool→Hp→Prop) (b:Bool) (s':Shared):Prop:=∃ H',Inv X pins σ H' s'∧Q b H'
def AP (X:Cx) (pins:List (Addr×Obj)) (σ:St) (Q:List V→Hp→Prop) (us:List Value) (s':Shared):Prop:=∃ vs H',Inv X pins σ H' s'∧Vals vs us∧Q vs H'
def SP (X:Cx) (pins:List (Addr×Obj)) (D:Ends) (f:Flow) (s':Shared):Prop :=
 match f with
 |.next=>∃ σ' H',Inv X pins σ' H' s'∧D.nx σ' H'
 |.brk=>∃ σ' H',Inv X pins σ' H' s'∧D.bk σ' H'
 |.cont=>∃ σ' H',Inv X pins σ' H' s'∧D.ct σ' H'
 |.ret u=>∃ v σ' H',Inv X pins σ' H' s'∧RelV v u∧D.rt v H'
def PE (X:Cx) (e:Expr) (t:TE):Prop :=
 ∀ (pins:List (Addr×Obj)) (s:Shared) (σ:St) (H:Hp) (Q:VK),Inv X pins σ H s→t σ H Q→wpAny (model X.prog X.w) X.A (eval e X.env) (EP X pins σ Q) X.xe s
def PT (X:Cx) (e:Expr) (t:TT):Prop :=
 ∀ (pins:List (Addr×Obj)) (s:Shared) (σ:St) (H:Hp) (Q:Bool→Hp→Prop),Inv X pins σ H s→t σ H Q→wpAny (model X.prog X.w) X.A (isTrue e X.env (eval e X.env)) (TP X pins σ Q) X.xe s
def PW (X:Cx) (e:Expr) (t:TT):Prop :=
 ∀ (whole:Sem Value) (pins:List (Addr×Obj)) (s:Shared) (σ:St) (H:Hp) (Q:Bool→Hp→Prop),Inv X pins σ H s→t σ H Q→wpAny (model X.prog X.w) X.A (isTrue e X.env whole) (TP X pins σ Q) X.xe s
theorem PW.pt {X:Cx}{e:Expr}{t:TT}(h:PW X e t):PT X e t:=h _
def PA (X:Cx) (es:List Expr) (t:TA):Prop :=
 ∀ (pos:Pos) (pins:List (Addr×Obj)) (s:Shared) (σ:St) (H:Hp) (Q:List V→Hp→Prop),Inv X pins σ H s→t σ H Q→wpAny (model X.prog X.w) X.A (spliced (backTo pos (starEach es X.env))) (AP X pins σ Q) X.xe s
def PS (X:Cx) (st:Stmt) (t:TS):Prop :=
 ∀ (pins:List (Addr×Obj)) (s:Shared) (σ:St) (H:Hp) (D:Ends),Inv X pins σ H s→t D σ H→wpAny (model X.prog X.w) X.A (exec st X.env) (SP X pins D) X.xe s
def PSs (X:Cx) (st:List Stmt) (t:TS):Prop :=
 ∀ (pins:List (Addr×Obj)) (s:Shared) (σ:St) (H:Hp) (D:Ends),Inv X pins σ H s→t D σ H→wpAny (model X.prog X.w) X.A (execs st X.env) (SP X pins D) X.xe s
theorem thn {α:Type}{t:Sem α}{Q Q':α→Shared→Prop}{M:Model}{A:Around}{E:Value→Shared→Prop}{s:Shared}(h:wpAny M A t Q E s) (hQ:∀ a s,Q a s→Q' a s):wpAny M A t Q' E s:=wpAny_mono h hQ fun _ _ x=>x
section
variable {X:Cx}
theorem bin {a b:Expr}{ta tb:TE}(ha:PE X a ta) (hb:PE X b tb){pins:List (Addr×Obj)}{s:Shared}{σ:St}{H:Hp}{R:V→V→Hp→Prop}(I:Inv X pins σ H s) (h:ta σ H fun x H1=>tb σ H1 fun y H2=>R x y H2)
  {α:Type}{Q:α→Shared→Prop}{f:Value→Value→Sem α}
  (hf:∀ v u s2 x y H2,Inv X pins σ H2 s2→RelV x v→RelV y u→R x y H2→wpAny (model X.prog X.w) X.A (f v u) Q X.xe s2) :
  wpAny (model X.prog X.w) X.A (eval a X.env) (fun v s₁=>wpAny (model X.prog X.w) X.A (eval b X.env) (fun u s₂=>wpAny (model X.prog X.w) X.A (f v u) Q X.xe s₂) X.xe s₁) X.xe s:=by
 refine thn (ha pins s σ H _ I h) fun v s1 hq0=>?_
 obtain⟨x,H1,I1,r1,q1⟩:=hq0
 refine thn (hb pins s1 σ H1 _ I1 q1) fun u s2 hq0=>?_
 obtain⟨y,H2,I2,r2,q2⟩:=hq0
 exact hf v u s2 x y H2 I2 r1 r2 q2
def zbH (i:Nat):TE:=fun σ H Q=>∃ v,σ[i]?=some (some v)∧Q v H
def tC (v:V):TE:=fun _ H Q=>Q v H
theorem Ul {i:Nat}{x:Str}{pos:Pos}(hN:X.N[i]?=some x) (hv:Vis X.env.scope x) (hd:(x == ("__debug__" : Str))=false:=by decide) (hcd:(x == ("__classdict__" : Str))=false:=by decide):PE X (.Name x pos) (zbH i):=by
 intro pins s σ H Q I h
 obtain⟨v,e,h⟩:=h
 obtain⟨m,hn,hl⟩:=I.loc
 obtain⟨u,r,l⟩:=hl i x v hN e hv
 have fin:EP X pins σ Q u s:=⟨v,H,I,r,h⟩
 rcases l with⟨hk,hm⟩ | ⟨hk,c,hc,hcell⟩
 ·exact wpAny_Name (wpAny_loadName_local I.ok.kind hk hn hm fin) hd
 ·rcases hk with hk | hk
  ·exact wpAny_Name (wpAny_loadName_cell I.ok.kind hk hc hcell fin) hd
  ·exact wpAny_Name (wpAny_loadName_free I.ok.kind hk hc hcell fin hcd) hd
theorem yJ {i j pos}:PE X (.Constant (.int i) j pos) (tC (.int i)):=fun _ _ _ H _ I h=>wpAny_Constant_int ⟨.int i,H,I.tok _,⟨_,rfl⟩,h⟩
theorem xW {b j pos}:PE X (.Constant (.bool b) j pos) (tC (.bl b)):=fun _ _ _ H _ I h=>Constant_bool ⟨.bl b,H,I,rfl,h⟩
theorem Uq {j pos}:PE X (.Constant .none j pos) (tC .non):=fun _ _ _ H _ I h=>Constant_none ⟨.non,H,I,rfl,h⟩
def Gl (X:Cx) (x:Str):Prop:=X.env.kindOf x=some .globalImplicit
theorem ld_glob {E:Value→Shared→Prop}{pins:List (Addr×Obj)}{s:Shared}{σ:St}{H:Hp}{x:Str}{u:Value}{pos:Pos}{Q:Value→Shared→Prop}(I:Inv X pins σ H s) (hg:Gl X x) (hm:X.mg x=some u) (h:Q u s)
  (hd:(x == ("__debug__" : Str))=false:=by decide):wpAny (model X.prog X.w) X.A (eval (.Name x pos) X.env) Q E s :=
 Calls.Name_function_global I.ok.kind hg (Calls.loadGlobal_global (by rw[I.ok.glob];exact I.mod.glob.keeps I.bk) hm h) hd
theorem ld_blt {E:Value→Shared→Prop}{pins:List (Addr×Obj)}{s:Shared}{σ:St}{H:Hp}{x:Str}{u:Value}{pos:Pos}{Q:Value→Shared→Prop}(I:Inv X pins σ H s) (hg:Gl X x) (hm:X.mg x=none) (hv:bootBuiltins x=some u) (h:Q u s)
  (hn:x ≠ "__name__" := by decide) (hd:(x == ("__debug__" : Str))=false:=by decide):wpAny (model X.prog X.w) X.A (eval (.Name x pos) X.env) Q E s:=by
 obtain⟨mb,h1,h2⟩:=I.mod.blt
 exact Calls.Name_function_global I.ok.kind hg (Calls.loadGlobal_builtin (by rw[I.ok.glob];exact I.mod.glob.keeps I.bk) hm (by rw[I.ok.blt];exact h1.keeps I.bk) ((h2 x hn).trans hv) h) hd
theorem Z6 {x:Str}{v:V}{u:Value}{pos:Pos}(hg:Gl X x) (hm:X.mg x=some u) (r:RelV v u) (hd:(x == ("__debug__" : Str))=false:=by decide):PE X (.Name x pos) (tC v) :=
 fun _ _ _ H _ I h=>ld_glob I hg hm ⟨v,H,I,r,h⟩ hd
theorem Vd {x:Str}{v:V}{u:Value}{pos:Pos}(hg:Gl X x) (hm:X.mg x=none) (hv:bootBuiltins x=some u) (r:RelV v u) (hn:x ≠ "__name__" := by decide) (hd:(x == ("__debug__" : Str))=false:=by decide):PE X (.Name x pos) (tC v) :=
 fun _ _ _ H _ I h=>ld_blt I hg hm hv ⟨v,H,I,r,h⟩ hn hd
variable {a b:Expr}{ta tb:TE}{pos:Pos}
def PC (X:Cx) (op:CmpOp) (a b:Expr) (t:TE):Prop :=
 ∀ (pins:List (Addr×Obj)) (s:Shared) (σ:St) (H:Hp) (Q:VK),Inv X pins σ H s→t σ H Q →
  wpAny (model X.prog X.w) X.A (eval a X.env) (fun v s₁=>wpAny (model X.prog X.w) X.A (eval b X.env) (fun u s₂=>wpAny (model X.prog X.w) X.A (compareOp op v u) (EP X pins σ Q) X.xe s₂) X.xe s₁) X.xe s
def tB (t:TE):TT:=fun σ H Q=>t σ H fun x H1=>∃ c,x=.bl c∧Q c H1
theorem Us {op:CmpOp}{t:TE}(h:PC X op a b t) (h1:behindInMarks op b=false:=by first | exact nobehind _ (by decide) (by decide) | rfl):PE X (.Compare a [op] [b] pos) t:=fun pins s σ H Q I hw=>wpAny_Compare1 (h pins s σ H Q I hw) h1
theorem Wf {op:CmpOp}{t:TE}(h:PC X op a b t) (h1:behindInMarks op b=false:=by first | exact nobehind _ (by decide) (by decide) | rfl):PT X (.Compare a [op] [b] pos) (tB t):=by
 intro pins s σ H Q I hw
 refine wpAny_isTrue_Compare1 (thn (h pins s σ H _ I hw) fun v s1 h1=>thn h1 fun u s2 h2=>thn h2 fun c s3 hq0=>?_) h1
 obtain⟨x,H1,I1,r1,q1⟩:=hq0
 obtain⟨d,rfl,q⟩:=q1
 cases r1
 exact wpAny_truthy_bool ⟨H1,I1,q⟩
theorem yG {e:Expr}{t:TE}(h:PE X e t) (he:∀ whole,isTrue e X.env whole=(do let v ← whole;standAt e.pos;holding [v] (truthy v)):=by intro _;rfl):PT X e (tB t):=by
 intro pins s σ H Q I hw
 refine isTrue_plain (thn (h pins s σ H _ I hw) fun v s1 hq0=>?_) (he _)
 obtain⟨x,H1,I1,r1,q1⟩:=hq0
 obtain⟨d,rfl,q⟩:=q1
 cases r1
 exact wpAny_truthy_bool ⟨H1,I1,q⟩
variable {tA tB':TT}{rest:List Expr}
def zeI (t u:TT):TT:=fun σ H Q=>t σ H fun c H1=>if c=true then u σ H1 Q else Q false H1
def tOr (t u:TT):TT:=fun σ H Q=>t σ H fun c H1=>if c=true then Q true H1 else u σ H1 Q
def zeB (t:TT):TT:=fun σ H Q=>t σ H fun c H1=>Q (!c) H1
theorem WN (ha:PT X a tA):PW X (.BoolOp .And [a] pos) tA:=by
 intro wh pins s σ H Q I h
 refine isTrue_and (thn (ha pins s σ H Q I h) fun c s1 e=>?_)
 cases c with
 |true=>exact isTrue_and_nil e
 |false=>exact e
theorem wg (ha:PT X a tA):PW X (.BoolOp .Or [a] pos) tA:=by
 intro wh pins s σ H Q I h
 refine isTrue_or (thn (ha pins s σ H Q I h) fun c s1 e=>?_)
 cases c with
 |false=>exact isTrue_or_nil e
 |true=>exact e
theorem Ui (ha:PT X a tA) (hb:PW X (.BoolOp .And (b::rest) pos) tB'):PW X (.BoolOp .And (a::b::rest) pos) (zeI tA tB'):=by
 intro wh pins s σ H Q I h
 refine isTrue_and (thn (ha pins s σ H _ I h) fun c s1 hq0=>?_)
 obtain⟨H1,I1,q1⟩:=hq0
 cases c with
 |true=>exact hb wh pins s1 σ H1 Q I1 q1
 |false=>exact⟨H1,I1,q1⟩
theorem w4 (ha:PT X a tA) (hb:PW X (.BoolOp .Or (b::rest) pos) tB'):PW X (.BoolOp .Or (a::b::rest) pos) (tOr tA tB'):=by
 intro wh pins s σ H Q I h
 refine isTrue_or (thn (ha pins s σ H _ I h) fun c s1 hq0=>?_)
 obtain⟨H1,I1,q1⟩:=hq0
 cases c with
 |true=>exact⟨H1,I1,q1⟩
 |false=>exact hb wh pins s1 σ H1 Q I1 q1
theorem yH (ha:PT X a tA):PT X (.UnaryOp .Not a pos) (zeB tA):=by
 intro pins s σ H Q I h
 exact isTrue_not (ha pins s σ H (fun c H1=>Q (!c) H1) I h)
def tAndV (ta tb:TE):TE:=fun σ H Q=>ta σ H fun x H1=>∃ c,x=.bl c∧if c=true then tb σ H1 Q else Q (.bl false) H1
def zah (ta tb:TE):TE:=fun σ H Q=>ta σ H fun x H1=>∃ c,x=.bl c∧if c=true then Q (.bl true) H1 else tb σ H1 Q
def zbI (ta:TE):TE:=fun σ H Q=>ta σ H fun x H1=>∃ c,x=.bl c∧Q (.bl (!c)) H1
theorem Z4 {op}{t:TE}(h:PE X a t):PE X (.BoolOp op [a] pos) t:=fun pins s σ H Q I hw=>BoolOp_one (h pins s σ H Q I hw)
theorem uh (ha:PE X a ta) (hb:PE X (.BoolOp .And (b::rest) pos) tb):PE X (.BoolOp .And (a::b::rest) pos) (tAndV ta tb):=by
 intro pins s σ H Q I h
 refine BoolOp_and (thn (ha pins s σ H _ I h) fun v s1 hq0=>?_)
 obtain⟨x,H1,I1,r1,q1⟩:=hq0
 obtain⟨c,rfl,q1⟩:=q1
 cases r1
 refine wpAny_truthy_bool ?_
 cases c with
 |true=>exact hb pins s1 σ H1 Q I1 q1
 |false=>exact⟨.bl false,H1,I1,rfl,q1⟩
theorem zb6 (ha:PE X a ta) (hb:PE X (.BoolOp .Or (b::rest) pos) tb):PE X (.BoolOp .Or (a::b::rest) pos) (zah ta tb):=by
 intro pins s σ H Q I h
 refine BoolOp_or (thn (ha pins s σ H _ I h) fun v s1 hq0=>?_)
 obtain⟨x,H1,I1,r1,q1⟩:=hq0
 obtain⟨c,rfl,q1⟩:=q1
 cases r1
 refine wpAny_truthy_bool ?_
 cases c with
 |false=>exact hb pins s1 σ H1 Q I1 q1
 |true=>exact⟨.bl true,H1,I1,rfl,q1⟩
theorem Up (ha:PE X a ta):PE X (.UnaryOp .Not a pos) (zbI ta):=by
 intro pins s σ H Q I h
 refine UnaryOp_ (thn (ha pins s σ H _ I h) fun v s1 hq0=>?_)
 obtain⟨x,H1,I1,r1,q1⟩:=hq0
 obtain⟨c,rfl,q1⟩:=q1
 cases r1
 exact not_of (wpAny_truthy_bool ⟨.bl (!c),H1,I1,rfl,q1⟩)
end
def SqL (K:PySem.W.Frag) (H:Hp) (a:Addr) (xs:List V):Prop :=
 Rd H a (.lst xs) ∨
  ∃ (o:Obj) (its:Array Value) (n:Nat),K.lookup a=some o∧o.cls=.type "list" ∧ o.dict=none∧o.data=.seq its n∧its.size≤sizeLine∧Vals xs its.toList
def SqT (K:PySem.W.Frag) (H:Hp) (a:Addr) (xs:List V):Prop :=
 Rd H a (.tup xs) ∨
  ∃ (o:Obj) (its:Array Value) (n:Nat),K.lookup a=some o∧o.cls=.type "tuple" ∧ o.data=.seq its n∧its.size≤sizeLine∧Vals xs its.toList
noncomputable def ziZ:Value→Option V
 |.none=>some .non
 |.bool b=>some (.bl b)
 |.int i _=>some (.int i)
 |.str x _=>some (.str x)
 |.bytes b _=>some (.byt b)
 |.float b _=>some (.flt b)
 |.ref a=>some (.ref a)
 |.type n=>some (.ty n)
 |_=>none
theorem RelV.abs {x:V}{u:Value}(r:RelV x u):ziZ u=some x:=by
 cases x with
 |non=>cases r;rfl
 |bl _=>cases r;rfl
 |int _=>obtain⟨t,rfl⟩:=r;rfl
 |str _=>obtain⟨t,rfl⟩:=r;rfl
 |byt _=>obtain⟨t,rfl⟩:=r;rfl
 |flt _=>obtain⟨t,rfl⟩:=r;rfl
 |ref _=>cases r;rfl
 |ty _=>cases r;rfl
theorem RelV.inj {x y:V}{u:Value}(r:RelV x u) (q:RelV y u):x=y:=Option.some.inj (r.abs.symm.trans q.abs)
theorem Vals.inj:∀ {xs ys:List V}{us:List Value},Vals xs us→Vals ys us→xs=ys
 |_,_,_,.nil,.nil=>rfl
 |_,_,_,.cons r t,.cons r' t'=>by rw[r.inj r',Vals.inj t t']
section
variable {X:Cx}{pins:List (Addr×Obj)}{σ:St}{H:Hp}{s:Shared}{a:Addr}{xs ys:List V}
theorem SqL.of {K:PySem.W.Frag}(h:H a=some (.lst xs)):SqL K H a xs:=.inl (.inl h)
theorem SqT.of {K:PySem.W.Frag}(h:H a=some (.tup xs)):SqT K H a xs:=.inl (.inl h)
theorem Inv.list (I:Inv X pins σ H s) (h:SqL X.K H a xs):∃ its:List Value,Vals xs its∧PlainL s.heap a its.toArray∧xs.length≤sizeLine:=by
 rcases h with h | ⟨o,its,n,hk,hc,hd,hs,hz,r⟩
 ·obtain⟨z,its,n,r,e⟩:=h.ok I.hok
  exact⟨its,r,⟨_,n,e,rfl,rfl,rfl⟩,z⟩
 ·refine⟨its.toList,r,⟨o,n,I.kIn a o hk,hc,hd,by simpa using hs⟩,?_⟩
  have e:=r.length
  simp only[Array.length_toList] at e
  omega
theorem Inv.tuple (I:Inv X pins σ H s) (h:SqT X.K H a xs):∃ its:List Value,Vals xs its∧IsTup s.heap a its.toArray∧xs.length≤sizeLine:=by
 rcases h with h | ⟨o,its,n,hk,hc,hs,hz,r⟩
 ·obtain⟨z,its,r,p⟩:=h.ok I.hok
  exact⟨its,r,p,z⟩
 ·refine⟨its.toList,r,⟨o,I.kIn a o hk,hc,n,by simpa using hs⟩,?_⟩
  have e:=r.length
  simp only[Array.length_toList] at e
  omega
theorem Inv.list_inj (I:Inv X pins σ H s) (h:SqL X.K H a xs) (h':SqL X.K H a ys):xs=ys:=by
 obtain⟨its,r,⟨o,n,e,_,_,d⟩,_⟩:=I.list h
 obtain⟨its',r',⟨o',n',e',_,_,d'⟩,_⟩:=I.list h'
 rw[e] at e';cases e'
 rw[d] at d'
 injection d' with d1 _
 have:its=its':=by simpa using congrArg Array.toList d1
 subst this
 exact r.inj r'
theorem Inv.tuple_inj (I:Inv X pins σ H s) (h:SqT X.K H a xs) (h':SqT X.K H a ys):xs=ys:=by
 obtain⟨its,r,⟨o,e,_,n,d⟩,_⟩:=I.tuple h
 obtain⟨its',r',⟨o',e',_,n',d'⟩,_⟩:=I.tuple h'
 rw[e] at e';cases e'
 rw[d] at d'
 injection d' with d1 _
 have:its=its':=by simpa using congrArg Array.toList d1
 subst this
 exact r.inj r'
end
noncomputable abbrev Cx.wish (X:Cx) (E:Value→Shared→Prop):Cx:={ X with xe:=E }
noncomputable abbrev Cx.nox (X:Cx):Cx:=X.wish fun _ _=>False
theorem Cx.Ok.wish {X:Cx}(ok:X.Ok) (E:Value→Shared→Prop):(X.wish E).Ok :=
 ⟨ok.mod,ok.kind,ok.glob,ok.blt,ok.above,ok.inj,ok.has,ok.cab,ok.hd,ok.frames,ok.stk,ok.exf,ok.bs,ok.bsz,ok.noex,ok.exfs,ok.funs,ok.frf⟩
theorem Cx.Ok.unwish {X:Cx}{E:Value→Shared→Prop}(ok:(X.wish E).Ok):X.Ok :=
 ⟨ok.mod,ok.kind,ok.glob,ok.blt,ok.above,ok.inj,ok.has,ok.cab,ok.hd,ok.frames,ok.stk,ok.exf,ok.bs,ok.bsz,ok.noex,ok.exfs,ok.funs,ok.frf⟩
section
variable {X:Cx}{pins:List (Addr×Obj)}{σ:St}{H:Hp}{s:Shared}{E:Value→Shared→Prop}
theorem Inv.wish (I:Inv X pins σ H s) (E:Value→Shared→Prop):Inv (X.wish E) pins σ H s:=⟨I.ok.wish E,I.os,I.bare,I.base,I.loc,I.cell,I.free,I.freeC,I.pin,I.hok,I.len⟩
theorem Inv.unwish (I:Inv (X.wish E) pins σ H s):Inv X pins σ H s:=⟨I.ok.unwish,I.os,I.bare,I.base,I.loc,I.cell,I.free,I.freeC,I.pin,I.hok,I.len⟩
theorem SP.unwish {D:Ends}{f:Flow}{s':Shared}(h:SP (X.wish E) pins D f s'):SP X pins D f s':=by
 cases f with
 |next=>obtain⟨σ',H',I,q⟩:=h;exact⟨σ',H',I.unwish,q⟩
 |brk=>obtain⟨σ',H',I,q⟩:=h;exact⟨σ',H',I.unwish,q⟩
 |cont=>obtain⟨σ',H',I,q⟩:=h;exact⟨σ',H',I.unwish,q⟩
 |ret u=>obtain⟨v,σ',H',I,r,q⟩:=h;exact⟨v,σ',H',I.unwish,r,q⟩
theorem PSs.nox {st:List Stmt}{t:TS}(h:PSs X.nox st t):PSs X st t:=fun pins s σ H D I hw =>
 wpAny_mono (h pins s σ H D (I.wish _) hw) (fun _ _ q=>q.unwish) fun _ _ z=>False.elim z
end
section
variable {X:Cx}{st:Stmt}{rest:List Stmt}{t u:TS}{e:Expr}{te:TE}{pos:Pos}
def VZ:TS:=fun D σ H=>D.nx σ H
def zez (t u:TS):TS:=fun D σ H=>t { D with nx:=u D } σ H
theorem yn:PSs X [] VZ:=fun _ _ σ H _ I h=>wpAny_execs_nil ⟨σ,H,I,h⟩
theorem zw (h1:PS X st t) (h2:PSs X rest u):PSs X (st::rest) (zez t u):=by
 intro pins s σ H D I h
 refine wpAny_execs_cons (thn (h1 pins s σ H { D with nx:=u D } I h) fun f s1 q=>?_)
 cases f with
 |next =>
  obtain⟨σ',H',I',q⟩:=q
  exact h2 pins s1 σ' H' D I' q
 |ret v=>exact q
 |brk=>exact q
 |cont=>exact q
theorem zE (h1:PS X st t):PSs X [st] t:=by
 intro pins s σ H D I h
 refine wpAny_execs_cons (thn (h1 pins s σ H D I h) fun f s1 q=>?_)
 cases f with
 |next=>exact wpAny_execs_nil q
 |ret v=>exact q
 |brk=>exact q
 |cont=>exact q
theorem Inv.quiet {pins:List (Addr×Obj)}{σ:St}{H:Hp}{s:Shared}(I:Inv X pins σ H s):interactive X.env=false:=by simp[interactive,I.ok.kind]
def V2 (te:TE):TS:=fun D σ H=>te σ H fun _ H1=>D.nx σ H1
theorem vA (he:PE X e te) (hs:swapsWith e none pos.line X.env=pure false:=by rfl):PS X (.Expr e pos) (V2 te):=by
 intro pins s σ H D I h
 exact wpAny_Expr_any (thn (he pins s σ H _ I h) fun v s1 ⟨x,H1,I1,r1,q1⟩=>⟨σ,H1,I1,q1⟩) I.quiet hs
def zeA (te:TE):TS:=fun D σ H=>te σ H D.rt
theorem yq (he:PE X e te):PS X (.Return (some e) pos) (zeA te):=by
 intro pins s σ H D I h
 exact wpAny_Return_some (thn (he pins s σ H _ I h) fun v s1 ⟨x,H1,I1,r1,q1⟩=>⟨x,σ,H1,I1,r1,q1⟩)
def zeD (c:TT) (t u:TS):TS:=fun D σ H=>c σ H fun b H1=>if b=true then t D σ H1 else u D σ H1
theorem wF {c:Expr}{a b:List Stmt}{tc:TT}(hc:PT X c tc) (ha:PSs X a t) (hb:PSs X b u):PS X (.If c a b pos) (zeD tc t u):=by
 intro pins s σ H D I h
 refine wpAny_If (thn (hc pins s σ H _ I h) fun d s1 hq0=>?_)
 obtain⟨H1,I1,q1⟩:=hq0
 cases d with
 |true=>exact ha pins s1 σ H1 D I1 q1
 |false=>exact hb pins s1 σ H1 D I1 q1
def X6:TS:=fun _ _ _=>False
theorem wE:PS X st X6:=fun _ _ _ _ _ _ h=>h.elim
end
abbrev TG:=V→St→Hp→(St→Hp→Prop)→Prop
abbrev TGs:=List V→St→Hp→(St→Hp→Prop)→Prop
def PG (X:Cx) (target:Expr) (t:TG):Prop :=
 ∀ (pins:List (Addr×Obj)) (s:Shared) (σ:St) (H:Hp) (v:V) (u:Value) (Q:St→Hp→Prop),Inv X pins σ H s→RelV v u→t v σ H Q →
  wpAny (model X.prog X.w) X.A (assign target X.env u) (fun _ s'=>∃ σ' H',Inv X pins σ' H' s'∧Q σ' H') X.xe s
def PGs (X:Cx) (ts:List Expr) (t:TGs):Prop :=
 ∀ (pins:List (Addr×Obj)) (s:Shared) (σ:St) (H:Hp) (vs:List V) (us:List Value) (Q:St→Hp→Prop),Inv X pins σ H s→Vals vs us→t vs σ H Q →
  wpAny (model X.prog X.w) X.A (assignInOrder ((assignEach ts X.env).map (·.2)) us) (fun _ s'=>∃ σ' H',Inv X pins σ' H' s'∧Q σ' H') X.xe s
abbrev TIp:=V→V→Hp→VK→Prop
def PIp (X:Cx) (op:Operator) (t:TIp):Prop :=
 ∀ (pins:List (Addr×Obj)) (s:Shared) (σ:St) (H:Hp) (x y:V) (v u:Value) (Q:VK),Inv X pins σ H s→RelV x v→RelV y u→t x y H Q →
  wpAny (model X.prog X.w) X.A (inplaceOp op v u) (EP X pins σ Q) X.xe s
section
variable {X:Cx}{pos:Pos}
def vM (i:Nat):TG:=fun v σ H Q=>Q (σ.set i (some v)) H
theorem xk {i:Nat}{x:Str}(hN:X.N.Nodup) (hi:X.N[i]?=some x) (hx:Loc X.env.scope x) (hf:X.fn x=true∨X.env.scope.names.lookup x=some .local:=by first | exact .inl rfl | exact .inr rfl | assumption):PG X (.Name x pos) (vM i):=by
 intro pins s σ H v u Q I r h
 exact wpAny_assign_Name (store_ok I hN hi hx r (fun s' I'=>⟨_,H,I',h⟩) hf)
def gNil:TGs:=fun vs σ H Q=>vs=[]∧Q σ H
def U6 (t:TG) (u:TGs):TGs:=fun vs σ H Q=>∃ v r,vs=v::r∧t v σ H fun σ' H'=>u r σ' H' Q
theorem Z1:PGs X [] gNil:=by
 intro pins s σ H vs us Q I r h
 obtain⟨e,h⟩:=h
 subst e
 cases r
 exact assignInOrder_nil ⟨σ,H,I,h⟩
theorem wG {e:Expr}{es:List Expr}{t:TG}{u:TGs}(h1:PG X e t) (h2:PGs X es u)
  (hs:(assignEach (e::es) X.env).map (·.2)=assign e X.env::(assignEach es X.env).map (·.2):=by rfl):PGs X (e::es) (U6 t u):=by
 intro pins s σ H vs us Q I r h
 obtain⟨v,vr,e1,h⟩:=h
 subst e1
 cases r with
 |cons r rr =>
  rw[hs]
  refine assignInOrder_cons (thn (h1 pins s σ H _ _ _ I r h) fun _ s1 hq0=>?_)
  obtain⟨σ1,H1,I1,q1⟩:=hq0
  exact h2 pins s1 σ1 H1 _ _ Q I1 rr q1
def zhV (K:PySem.W.Frag) (n:Nat) (t:TGs):TG:=fun v σ H Q=>∃ a xs,v=.ref a∧SqT K H a xs∧xs.length=n∧t xs σ H Q
theorem Wg {es:List Expr}{k:Nat}{t:TGs}{n:Nat}(hc:X.calm=true) (h:PGs X es t)
  (hn:(assignEach es X.env).length=n:=by rfl) (hst:(assignEach es X.env).findIdx? (·.1)=none:=by rfl):PG X (.Tuple es k pos) (zhV X.K n t):=by
 intro pins s σ H v u Q I r hw
 obtain⟨a,xs,e1,hq,hl,hw⟩:=hw
 subst e1
 cases r
 obtain⟨its,rv,ht,hz⟩:=I.tuple hq
 refine assign_Tuple_tuple (I.ok.hd hc) ht (by simp[hn,← hl,rv.length]) hst fun h' hx=>?_
 have I1:Inv X pins σ H { s with heap:=h' }:=I.kept (t':=s.toks) fun b o e=>hx b o (Nat.ne_of_lt (Heap.lt_size e)) e
 exact h pins _ σ H xs _ Q I1 (by simpa using rv) hw
def zaj (te:TE) (g:TG):TS:=fun D σ H=>te σ H fun x H1=>g x σ H1 D.nx
theorem w6 {i:Nat}{x:Str}{e:Expr}{te:TE}{pos':Pos}(hN:X.N.Nodup) (hi:X.N[i]?=some x) (hx:Loc X.env.scope x) (he:PE X e te) (hs:swapsWith e (some (.Name x pos')) pos.line X.env=pure false:=by rfl) (hf:X.fn x=true∨X.env.scope.names.lookup x=some .local:=by first | exact .inl rfl | exact .inr rfl | assumption) :
  PS X (.Assign [.Name x pos'] e pos) (zaj te (vM i)):=by
 intro pins s σ H D I h
 refine wpAny_Assign_Name (thn (he pins s σ H _ I h) fun v s1 hq0=>?_) hs
 obtain⟨y,H1,I1,r1,q1⟩:=hq0
 exact store_ok I1 hN hi hx r1 (fun s2 I2=>⟨_,H1,I2,q1⟩) hf
def zeH (i:Nat) (te:TE) (ti:TIp):TS:=fun D σ H=>∃ x,σ[i]?=some (some x)∧te σ H fun y H1=>ti x y H1 fun z H2=>D.nx (σ.set i (some z)) H2
theorem Uj {i:Nat}{x:Str}{e:Expr}{te:TE}{op:Operator}{ti:TIp}{pos':Pos}(hN:X.N.Nodup) (hi:X.N[i]?=some x) (hx:Loc X.env.scope x) (he:PE X e te) (ho:PIp X op ti) (hf:X.fn x=true∨X.env.scope.names.lookup x=some .local:=by first | exact .inl rfl | exact .inr rfl | assumption) :
  PS X (.AugAssign (.Name x pos') op e pos) (zeH i te ti):=by
 intro pins s σ H D I h
 obtain⟨v,e1,h⟩:=h
 obtain⟨m,hn,hl⟩:=I.loc
 have vis:Vis X.env.scope x:=by rcases hx with k | k;exact .inl k;exact .inr (.inl k)
 obtain⟨u,r,l⟩:=hl i x v hi e1 vis
 refine wpAny_AugAssign_Name ?_
 have go:wpAny (model X.prog X.w) X.A (eval e X.env) (fun w s₂=>wpAny (model X.prog X.w) X.A (inplaceOp op u w) (fun r s₃=>wpAny (model X.prog X.w) X.A (storeName X.env x r) (fun _=>SP X pins D .next) X.xe s₃) X.xe s₂) X.xe s:=by
  refine thn (he pins s σ H _ I h) fun w s1 hq0=>?_
  obtain⟨y,H1,I1,r1,q1⟩:=hq0
  refine thn (ho pins s1 σ H1 v y u w _ I1 r r1 q1) fun z s2 hq0=>?_
  obtain⟨zv,H2,I2,r2,q2⟩:=hq0
  exact store_ok I2 hN hi hx r2 (fun s3 I3=>⟨_,H2,I3,q2⟩) hf
 rcases l with⟨hk,hm⟩ | ⟨hk,c,hc,hcell⟩
 ·exact wpAny_loadName_local I.ok.kind hk hn hm go
 ·rcases hk with hk | hk
  ·exact wpAny_loadName_cell I.ok.kind hk hc hcell go
  ·rcases hx with k | k
   ·have:X.env.scope.names.lookup x=some .free:=hk
    rw[k] at this;cases this
   ·have:X.env.scope.names.lookup x=some .free:=hk
    rw[k] at this;cases this
def ipI (f:Int→Int→Int):TIp:=fun x y H Q=>∃ i j,x=.int i∧y=.int j∧Q (.int (f i j)) H
theorem U2:PIp X .Add (ipI fun i j=>i+j):=by
 intro pins s σ H x y v u Q I r1 r2 h
 obtain⟨i,j,e1,e2,q⟩:=h
 subst e1;subst e2
 obtain⟨t,rfl⟩:=r1
 obtain⟨t',rfl⟩:=r2
 exact iadd_int ⟨.int _,H,I.tok _,⟨_,rfl⟩,q⟩
def X1 (c:TT) (tb:TS):TS:=fun D σ H=>∃ W:Nat→St→Hp→Prop,(∃ m,W m σ H)∧∀ m σ H,W m σ H →
 c σ H fun b H1=>if b=true then ∃ N:St→Hp→Prop,(∀ σ' H',N σ' H'→∃ m',m'<m∧W m' σ' H')∧tb { D with nx:=N,ct:=N,bk:=D.nx } σ H1 else D.nx σ H1
theorem Xc {c:Expr}{body:List Stmt}{tc:TT}{tb:TS}(hp:PassesOwn (model X.prog X.w) X.A X.env X.xe) (hc:PT X c tc) (hb:PSs X body tb):PS X (.While c body [] pos) (X1 tc tb):=by
 intro pins s σ H D I h
 obtain⟨W,⟨m0,w0⟩,turn⟩:=h
 refine wpAny_While (codeAny_whileLoop (fun n s'=>∃ σ' H',Inv X pins σ' H' s'∧W n σ' H') ?_ m0 ⟨σ,H,I,w0⟩)
 rintro n s1 ⟨σ1,H1,I1,w1⟩
 refine wpAny_passesOwn hp (thn (hc pins s1 σ1 H1 _ I1 (turn n σ1 H1 w1)) fun b s2 hq0=>?_)
 obtain⟨H2,I2,q2⟩:=hq0
 cases b with
 |true =>
  obtain⟨N,hN,q2⟩:=q2
  rw[if_pos rfl]
  refine wpAny_passesOwn hp (thn (hb pins s2 σ1 H2 _ I2 q2) fun f s3 q3=>?_)
  cases f with
  |next =>
   obtain⟨σ3,H3,I3,n3⟩:=q3
   obtain⟨m',hm,w3⟩:=hN σ3 H3 n3
   exact⟨m',hm,σ3,H3,I3,w3⟩
  |cont =>
   obtain⟨σ3,H3,I3,n3⟩:=q3
   obtain⟨m',hm,w3⟩:=hN σ3 H3 n3
   exact⟨m',hm,σ3,H3,I3,w3⟩
  |brk=>exact q3
  |ret v=>exact q3
 |false =>
  rw[if_neg Bool.false_ne_true]
  exact wpAny_execs_nil ⟨σ1,H2,I2,q2⟩
end
structure It where
 go:Nat→Hp→Prop
 yld:Nat→Hp→V→Hp→Prop
 stop:Nat→Hp→Prop
def FpOk (X:Cx) (pins:List (Addr×Obj)) (H:Hp) (b:Addr):Prop :=
 H b=none∧b≠X.env.locals∧b∉X.fs∧(b∈X.ex∨X.s₀.heap.objs.size≤b)∧(∀ x c,X.env.cells.lookup x=some c→c≠b)∧∀ p∈X.pn++pins,p.1≠b
theorem Inv.fpOk {X:Cx}{pins:List (Addr×Obj)}{σ:St}{H H':Hp}{s:Shared}{b:Addr}(I:Inv X pins σ H s) (hb:s.heap.objs.size≤b) (hn:H' b=none):FpOk X pins H' b:=by
 refine⟨hn,Nat.ne_of_gt (Nat.lt_of_lt_of_le I.lt hb),I.nofs hb,.inr (Nat.le_trans I.sz hb),fun x c e z=>?_,fun p hp z=>?_⟩
 ·obtain⟨v,q⟩:=I.cell x c e
  exact absurd (Nat.lt_of_lt_of_le q.lt (by rw[z];exact hb)) (Nat.lt_irrefl _)
 ·exact absurd (Nat.lt_of_lt_of_le (Heap.lt_size (I.pin p hp).1) (by rw[z];exact hb)) (Nat.lt_irrefl _)
structure Turn (P:Program) (w:World) (K:PySem.W.Frag) (tg:Expr) (J:It) (fp:List Addr) (it:Addr) (tn:Nat→Heap→Prop):Prop where
 mem:it∈fp
 obj:∀ i h,tn i h→∀ b∈fp,∃ o,h.get? b=some o∧∀ v,o.data≠.cell v
 keep:∀ i h h',tn i h→(∀ b∈fp,∀ o,h.get? b=some o→h'.get? b=some o)→tn i h'
 item:∀ (X:Cx),X.prog=P→X.w=w→X.K=K→X.calm=true→∀ (i:Nat) (pins:List (Addr×Obj)) (s:Shared) (σ:St) (H:Hp) (E:Value→Shared→Prop),Inv X pins σ H s→(∀ b∈fp,FpOk X pins H b)→tn i s.heap→J.go i H →
  wpAny (model P w) X.A (pyNext (.ref it)) (fun r s1=>∃ u,r=some u ∧
   wpAny (model P w) X.A (letOwnedTupleGo tg (.ref it) u) (fun _ s2=>∃ x H',Inv X pins σ H' s2∧RelV x u∧J.yld i H x H'∧tn (i+1) s2.heap∧∀ b∈fp,H' b=none) E s1) E s
 done:∀ (X:Cx),X.prog=P→X.w=w→X.K=K→X.calm=true→∀ (i:Nat) (pins:List (Addr×Obj)) (s:Shared) (σ:St) (H:Hp) (E:Value→Shared→Prop),Inv X pins σ H s→(∀ b∈fp,FpOk X pins H b)→tn i s.heap→J.stop i H →
  wpAny (model P w) X.A (pyNext (.ref it)) (fun r s1=>r=none∧Inv X pins σ H s1) E s
 self:∀ (A:Around) (i:Nat) (s:Shared) (Q:Value→Shared→Prop) (E:Value→Shared→Prop),tn i s.heap→Q (.ref it) s→wpAny (model P w) A (pyIter (.ref it)) Q E s
abbrev TI:=St→Hp→(It→Hp→Prop)→Prop
def PIE (X:Cx) (pins:List (Addr×Obj)) (σ:St) (tg:Expr) (R:It→Hp→Prop) (itv:Value) (s2:Shared):Prop :=
 ∃ (it:Addr) (fp:List Addr) (tn:Nat→Heap→Prop) (J:It) (H':Hp),itv=.ref it∧Inv X pins σ H' s2∧Turn X.prog X.w X.K tg J fp it tn∧tn 0 s2.heap∧(∀ b∈fp,FpOk X pins H' b)∧R J H'
def PI (X:Cx) (tg iter:Expr) (wi:TI):Prop :=
 ∀ (pins:List (Addr×Obj)) (s:Shared) (σ:St) (H:Hp) (R:It→Hp→Prop),Inv X pins σ H s→wi σ H R →
  wpAny (model X.prog X.w) X.A (eval iter X.env) (fun v s1=>wpAny (model X.prog X.w) X.A (pyIter v) (PIE X pins σ tg R) X.xe s1) X.xe s
theorem XE {M:Model}{A:Around}{E:Value→Shared→Prop}{s:Shared}{tg:Expr}{it:Addr}{u:Value}{o:Obj}{n:String}{vs:Array Value}{Q:Unit→Shared→Prop}(ho:s.heap.get? it=some o) (hc:o.cls=.type n) (hd:o.data=.fields vs)
  (hn:["enumerate", "zip", "dict_itemiterator", "dict_reverseitemiterator", "odict_iterator", "itertools.zip_longest", "itertools.pairwise"].contains n=false) (hQ:Q () s):wpAny M A (letOwnedTupleGo tg (.ref it) u) Q E s:=by
 unfold letOwnedTupleGo
 cases tg<;>first
  |exact wpAny_pure hQ
  |(cases u<;>first
    |exact wpAny_pure hQ
    |(refine wpAny_bind (wpAny_load ho ?_)
      rw[hc,hd]
      show wpAny M A (if (["enumerate", "zip", "dict_itemiterator", "dict_reverseitemiterator", "odict_iterator", "itertools.zip_longest", "itertools.pairwise"].contains n&&vs[0]? == some (rawInt _))=true then _ else _) Q E s
      rw[if_neg (by intro h;rw[hn,Bool.false_and] at h;cases h)]
      exact wpAny_pure hQ))
noncomputable def Itl (K:PySem.W.Frag) (a:Addr):It :=
 ⟨fun i H=>∃ xs x,SqL K H a xs∧xs[i]?=some x,fun i H x H'=>H'=H∧∀ xs,SqL K H a xs→xs[i]?=some x,fun i H=>∃ xs,SqL K H a xs∧xs.length≤i⟩
noncomputable def Itt (K:PySem.W.Frag) (a:Addr):It :=
 ⟨fun i H=>∃ xs x,SqT K H a xs∧xs[i]?=some x,fun i H x H'=>H'=H∧∀ xs,SqT K H a xs→xs[i]?=some x,fun i H=>∃ xs,SqT K H a xs∧xs.length≤i⟩
noncomputable def Itr (lo:Int) (n:Nat):It:=⟨fun i _=>i<n,fun i H x H'=>H'=H∧x=.int (lo+i),fun i _=>n≤i⟩
theorem Zc {P:Program}{w:World}{K:PySem.W.Frag}{tg:Expr} (a it:Addr):Turn P w K tg (Itl K a) [it] it (fun i h=>h.IsListIter it a i) where
 mem:=by simp
 obj:=fun i h st b hb=>by
  have e:b=it:=by simpa using hb
  subst e
  obtain⟨o,e,c,d⟩:=st
  exact⟨o,e,fun v z=>by rw[d] at z;cases z⟩
 keep:=fun i h h' st k=>st.at fun o e=>k it (by simp) o e
 item:=by
  intro X hP hw hK hc i pins s σ H E I hf st hg
  subst hP hw hK
  obtain⟨xs,x,hq,hx⟩:=hg
  obtain⟨its,rv,p,hz⟩:=I.list hq
  obtain⟨u,hu,ru⟩:=rv.get hx
  obtain⟨f0,f1,f2,f3,f4,f5⟩:=hf it (by simp)
  refine wpAny_pyNext_list_item st p.isList (x:=u) (by simpa using hu) fun h' st' sb=>?_
  have I1:Inv X pins σ H { s with heap:=h' }:=I.turned (t':=s.toks) (fun b o hb e=>(sb.2 b hb).trans e) f0 f1 f3 f4 f5
  obtain⟨o,e,c,d⟩:=id st'
  exact⟨u,rfl,XE (s:={ s with heap:=h' }) e c d (by decide) ⟨x,H,I1,ru,⟨rfl,fun ys hy=>by rw[I.list_inj hy hq];exact hx⟩,st',fun b hb=>(hf b hb).1⟩⟩
 done:=by
  intro X hP hw hK hc i pins s σ H E I hf st hg
  subst hP hw hK
  obtain⟨xs,hq,hx⟩:=hg
  obtain⟨its,rv,p,hz⟩:=I.list hq
  obtain⟨f0,f1,f2,f3,f4,f5⟩:=hf it (by simp)
  have hl:=rv.length
  exact wpAny_pyNext_list_end (I.ok.hd hc) st p.isList (by simp;omega) fun h' eb=>⟨rfl,I.turned (t':=s.toks) (fun b o hb e=>eb b o hb e) f0 f1 f3 f4 f5⟩
 self:=fun _ _ _ _ _ st h=>wpAny_pyIter_listiter st h
theorem uA {P:Program}{w:World}{K:PySem.W.Frag}{tg:Expr} (a it:Addr):Turn P w K tg (Itt K a) [it] it (fun i h=>h.IsTupleIter it a i) where
 mem:=by simp
 obj:=fun i h st b hb=>by
  have e:b=it:=by simpa using hb
  subst e
  obtain⟨o,e,c,d⟩:=st
  exact⟨o,e,fun v z=>by rw[d] at z;cases z⟩
 keep:=fun i h h' st k=>st.at fun o e=>k it (by simp) o e
 item:=by
  intro X hP hw hK hc i pins s σ H E I hf st hg
  subst hP hw hK
  obtain⟨xs,x,hq,hx⟩:=hg
  obtain⟨its,rv,p,hz⟩:=I.tuple hq
  obtain⟨u,hu,ru⟩:=rv.get hx
  obtain⟨f0,f1,f2,f3,f4,f5⟩:=hf it (by simp)
  refine wpAny_pyNext_tuple_item st (show s.heap.IsTuple a its.toArray from p) (x:=u) (by simpa using hu) fun h' st' sb=>?_
  have I1:Inv X pins σ H { s with heap:=h' }:=I.turned (t':=s.toks) (fun b o hb e=>(sb.2 b hb).trans e) f0 f1 f3 f4 f5
  obtain⟨o,e,c,d⟩:=id st'
  exact⟨u,rfl,XE (s:={ s with heap:=h' }) e c d (by decide) ⟨x,H,I1,ru,⟨rfl,fun ys hy=>by rw[I.tuple_inj hy hq];exact hx⟩,st',fun b hb=>(hf b hb).1⟩⟩
 done:=by
  intro X hP hw hK hc i pins s σ H E I hf st hg
  subst hP hw hK
  obtain⟨xs,hq,hx⟩:=hg
  obtain⟨its,rv,p,hz⟩:=I.tuple hq
  obtain⟨f0,f1,f2,f3,f4,f5⟩:=hf it (by simp)
  have hl:=rv.length
  exact wpAny_pyNext_tuple_end (I.ok.hd hc) st (show s.heap.IsTuple a its.toArray from p) (by simp;omega) fun h' eb=>⟨rfl,I.turned (t':=s.toks) (fun b o hb e=>eb b o hb e) f0 f1 f3 f4 f5⟩
 self:=fun _ _ _ _ _ st h=>wpAny_pyIter_tupleiter st h
theorem uB {P:Program}{w:World}{K:PySem.W.Frag}{tg:Expr}(it:Addr) (lo:Int) (n:Nat):Turn P w K tg (Itr lo n) [it] it (fun i h=>IsRangeIter h it (lo+(i:Nat)*1) ((n:Int)-(i:Nat)) 1) where
 mem:=by simp
 obj:=fun i h st b hb=>by
  have e:b=it:=by simpa using hb
  subst e
  exact⟨_,st,fun v z=>by
   have z':Data.fields _=Data.cell v:=z
   cases z'⟩
 keep:=fun i h h' st k=>k it (by simp) _ st
 item:=by
  intro X hP hw hK hc i pins s σ H E I hf st hg
  subst hP hw hK
  obtain⟨f0,f1,f2,f3,f4,f5⟩:=hf it (by simp)
  have W:=Walks.range (prog:=X.prog) (w:=X.w) (I.ok.hd hc) it lo 1 n
  refine W.item i s _ _ hg st fun v h' tk hv st' kk=>?_
  obtain⟨t,rfl⟩:=hv
  have I1:Inv X pins σ H { s with heap:=h',toks:=tk }:=I.turned (fun b o hb e=>kk b o (by simpa using hb) e) f0 f1 f3 f4 f5
  refine⟨_,rfl,XE (s:={ s with heap:=h',toks:=tk }) (n := "range_iterator") st' rfl rfl (by decide) ⟨.int (lo+i),H,I1,⟨t,?_⟩,⟨rfl,rfl⟩,st',fun b hb=>(hf b hb).1⟩⟩
  rw[Int.mul_one]
 done:=by
  intro X hP hw hK hc i pins s σ H E I hf st hg
  subst hP hw hK
  obtain⟨f0,f1,f2,f3,f4,f5⟩:=hf it (by simp)
  exact wpAny_pyNext_range_end (I.ok.hd hc) st (by have:n≤i:=hg;omega) fun h' eb=>⟨rfl,I.turned (t':=s.toks) (fun b o hb e=>eb b o hb e) f0 f1 f3 f4 f5⟩
 self:=fun _ _ _ _ _ st h=>wpAny_pyIter_rangeiter st h
section
variable {X:Cx}{tg:Expr}
def U4 (K:PySem.W.Frag) (tl:TE):TI:=fun σ H R=>tl σ H fun x H1=>∃ a,x=.ref a∧(∃ xs,SqL K H1 a xs)∧R (Itl K a) H1
def zhU (K:PySem.W.Frag) (tl:TE):TI:=fun σ H R=>tl σ H fun x H1=>∃ a,x=.ref a∧(∃ xs,SqT K H1 a xs)∧R (Itt K a) H1
theorem xM {l:Expr}{tl:TE}(hl:PE X l tl):PI X tg l (U4 X.K tl):=by
 intro pins s σ H R I h
 refine thn (hl pins s σ H _ I h) fun v s1 hq0=>?_
 obtain⟨x,H1,I1,r1,q1⟩:=hq0
 obtain⟨a,e,⟨xs,hq⟩,q⟩:=q1
 subst e
 cases r1
 obtain⟨its,rv,p,hz⟩:=I1.list hq
 refine wpAny_pyIter_list p.isList ?_
 refine⟨s1.heap.objs.size,[s1.heap.objs.size],_,_,H1,rfl,I1.kept (t':=s1.toks) fun b o e=>Heap.get?_push_of_some _ e,Zc a _,⟨_,Heap.get?_push_size _ rfl,rfl,rfl⟩,fun b hb=>?_,q⟩
 have e:b=s1.heap.objs.size:=by simpa using hb
 subst e
 exact I1.fpOk (Nat.le_refl _) (I1.hok.fresh (Nat.le_refl _))
theorem Uk {l:Expr}{tl:TE}(hl:PE X l tl):PI X tg l (zhU X.K tl):=by
 intro pins s σ H R I h
 refine thn (hl pins s σ H _ I h) fun v s1 hq0=>?_
 obtain⟨x,H1,I1,r1,q1⟩:=hq0
 obtain⟨a,e,⟨xs,hq⟩,q⟩:=q1
 subst e
 cases r1
 obtain⟨its,rv,p,hz⟩:=I1.tuple hq
 refine wpAny_pyIter_tuple (show s1.heap.IsTuple a its.toArray from p) ?_
 refine⟨s1.heap.objs.size,[s1.heap.objs.size],_,_,H1,rfl,I1.kept (t':=s1.toks) fun b o e=>Heap.get?_push_of_some _ e,uA a _,⟨_,Heap.get?_push_size _ rfl,rfl,rfl⟩,fun b hb=>?_,q⟩
 have e:b=s1.heap.objs.size:=by simpa using hb
 subst e
 exact I1.fpOk (Nat.le_refl _) (I1.hok.fresh (Nat.le_refl _))
theorem Xa {pins:List (Addr×Obj)}{σ:St}{H:Hp}{s:Shared}{R:It→Hp→Prop}{E:Value→Shared→Prop}{lo hi:Int}{t u v:Tok}{tk:Nat}(I:Inv X pins σ H s) (h1 : -(2 ^ 62)≤lo) (h2:lo<2 ^ 62) (h3 : -(2 ^ 62)≤hi) (h4:hi<2 ^ 62)
  (q:R (Itr lo (hi-lo).toNat) H):wpAny (model X.prog X.w) X.A (pyIter (.ref s.heap.objs.size)) (PIE X pins σ tg R) E { s with heap:=s.heap.push { cls:=.type "range",data:=.fields #[.int lo t,.int hi u,.int 1 v] },toks:=tk }:=by
 refine wpAny_pyIter_range (IsRange.new ..) (small_one h1 h2 h3 h4) ?_
 have I1:Inv X pins σ H { s with heap:=s.heap.push { cls:=.type "range",data:=.fields #[.int lo t,.int hi u,.int 1 v] },toks:=tk }:=I.kept fun b o e=>Heap.get?_push_of_some _ e
 refine⟨(s.heap.push { cls:=.type "range",data:=.fields #[.int lo t,.int hi u,.int 1 v] }).objs.size,[(s.heap.push { cls:=.type "range",data:=.fields #[.int lo t,.int hi u,.int 1 v] }).objs.size],_,_,H,rfl,
  I1.kept (t':=tk) fun b o e=>Heap.get?_push_of_some _ e,uB _ lo (hi-lo).toNat,?_,fun b hb=>?_,q⟩
 ·have e1:lo+((0:Nat):Int)*1=lo:=by simp
  have e2:(((hi-lo).toNat:Nat):Int)-((0:Nat):Int)=Builtin.Range.rangeSize lo hi 1:=by rw[rangeSize_one];split<;>omega
  show IsRangeIter _ _ (lo+((0:Nat):Int)*1) ((((hi-lo).toNat:Nat):Int)-((0:Nat):Int)) 1
  rw[e1,e2]
  exact Heap.get?_push_size _ rfl
 ·have e:b=(s.heap.push { cls:=.type "range",data:=.fields #[.int lo t,.int hi u,.int 1 v] }).objs.size:=by simpa using hb
  subst e
  exact I1.fpOk (Nat.le_refl _) (I1.hok.fresh (Nat.le_refl _))
def U3 (ta:TA):TI:=fun σ H R=>ta σ H fun vs H1=>∃ j:Int,vs=[.int j]∧-(2 ^ 62)≤j∧j<2 ^ 62∧R (Itr 0 j.toNat) H1
theorem ZZ {a:Expr}{ta:TA}{p pos:Pos}(hg:Gl X "range") (hm:X.mg "range" = none) (ha:PA X [a] ta) (hs:starEach [a] X.env=[(false,eval a X.env)]:=by rfl):PI X tg (.Call (.Name "range" p) [a] [] pos) (U3 ta):=by
 intro pins s σ H R I h
 refine Call_ (ld_blt I hg hm boot_range (PyProof.Rows.callWith_type1 (thn (ha pos pins s σ H _ I h) fun us s1 hq0=>?_) hs rfl))
 obtain⟨vs,H1,I1,r1,q1⟩:=hq0
 obtain⟨j,e,q1,q2,q⟩:=q1
 subst e
 cases r1 with
 |cons r rr =>
  cases rr
  obtain⟨t,rfl⟩:=r
  exact call_range_1 (Xa I1 (by omega) (by omega) q1 q2 (by simpa using q))
def zeE (wi:TI) (g:TG) (tb:TS):TS:=fun D σ H=>wi σ H fun J H1=>∃ W:Nat→Nat→St→Hp→Prop,(∃ m,W 0 m σ H1)∧∀ i m σ H,W i m σ H →
 (J.stop i H∧D.nx σ H)∨(J.go i H∧∃ N:St→Hp→Prop,(∀ σ' H',N σ' H'→∃ m',m'<m∧W (i+1) m' σ' H')∧∀ x H',J.yld i H x H'→g x σ H' fun σ2 H2=>tb { D with nx:=N,ct:=N,bk:=D.nx } σ2 H2)
noncomputable def va (fp:List Addr) (h:Heap):List (Addr×Obj):=fp.filterMap fun b=>(h.get? b).map fun o=>(b,o)
theorem yE {fp:List Addr}{h:Heap}{b:Addr}{o:Obj}(hb:b∈fp) (e:h.get? b=some o):(b,o)∈va fp h:=List.mem_filterMap.mpr ⟨b,hb,by rw[e];rfl⟩
theorem Yd {fp:List Addr}{h:Heap}{p:Addr×Obj}(hp:p∈va fp h):p.1∈fp∧h.get? p.1=some p.2:=by
 obtain⟨b,hb,e⟩:=List.mem_filterMap.mp hp
 cases q:h.get? b with
 |none=>rw[q] at e;cases e
 |some o =>
  rw[q] at e
  have e':(b,o)=p:=Option.some.inj e
  subst e'
  exact⟨hb,q⟩
theorem Inv.pinned {pins:List (Addr×Obj)}{σ:St}{H:Hp}{s:Shared}{fp:List Addr}(I:Inv X pins σ H s) (hf:∀ b∈fp,FpOk X pins H b) (ho:∀ b∈fp,∃ o,s.heap.get? b=some o∧∀ v,o.data≠.cell v):Inv X (pins++va fp s.heap) σ H s :=
 I.pins_of fun p hp=>(List.mem_append.mp hp).elim (fun z=>I.pin p (List.mem_append_right _ z)) fun z=>by
  obtain⟨hb,e⟩:=Yd z
  obtain⟨f0,f1,f2,_⟩:=hf p.1 hb
  obtain⟨o,e',d⟩:=ho p.1 hb
  rw[e] at e';cases e'
  exact⟨e,f0,f1,f2,d⟩
theorem Inv.unpinned {pins pl:List (Addr×Obj)}{σ:St}{H:Hp}{s:Shared}(I:Inv X (pins++pl) σ H s):Inv X pins σ H s:=I.pins_of fun p hp=>I.pin p (List.mem_append_right _ (List.mem_append_left _ hp))
theorem w8 {iter:Expr}{body:List Stmt}{wi:TI}{g:TG}{tb:TS}{pos:Pos}(hp:PassesOwn (model X.prog X.w) X.A X.env X.xe) (hc:X.calm=true) (hi:PI X tg iter wi) (hg:PG X tg g) (hb:PSs X body tb)
  (hs:∀ x,foldedSetIterable iter X.env x=pure x:=by intro _;rfl):PS X (.For tg iter body [] pos) (zeE wi g tb):=by
 intro pins s σ H D I h
 refine wpAny_For (thn (hi pins s σ H _ I h) fun v s1 h1=>thn h1 fun itv s2 h2=>?_) hs
 obtain⟨it,fp,tn,J,H2,e,I2,T,st2,f2,W,⟨m0,w0⟩,turn⟩:=h2
 subst e
 -- what stays true of the iterator's objects through the loop
 have stat:∀ {H':Hp},(∀ b∈fp,H' b=none)→∀ b∈fp,FpOk X pins H' b:=fun hn b hb=>⟨hn b hb,(f2 b hb).2⟩
 refine codeAny_forLoop_any (fun n s'=>∃ i σ' H',Inv X pins σ' H' s'∧tn i s'.heap∧(∀ b∈fp,H' b=none)∧W i n σ' H') ?_ m0 ⟨0,σ,H2,I2,st2,fun b hb=>(f2 b hb).1,w0⟩
 rintro n s3 ⟨i,σ3,H3,I3,st3,fr3,w3⟩
 rcases turn i n σ3 H3 w3 with⟨stop,qn⟩ | ⟨go,N,hN,step⟩
 ·refine wpAny_passesOwn hp (thn (T.done X rfl rfl rfl hc i pins s3 σ3 H3 X.xe I3 (stat fr3) st3 stop) fun r s4 ⟨hr,I4⟩=>?_)
  subst hr
  exact wpAny_execs_nil ⟨σ3,H3,I4,qn⟩
 ·refine wpAny_passesOwn hp (thn (T.item X rfl rfl rfl hc i pins s3 σ3 H3 X.xe I3 (stat fr3) st3 go) fun r s4 ⟨u,hr,h4⟩=>?_)
  subst hr
  refine wpAny_passesOwn hp (thn h4 fun _ s5 hq0=>?_)
  obtain⟨x,H5,I5,r5,y5,st5,fr5⟩:=hq0
  have I5':=I5.pinned (stat fr5) (T.obj _ _ st5)
  refine wpAny_passesOwn hp (thn (hg _ s5 σ3 H5 x u _ I5' r5 (step x H5 y5)) fun _ s6 hq0=>?_)
  obtain⟨σ6,H6,I6,q6⟩:=hq0
  refine wpAny_passesOwn hp (thn (hb _ s6 σ6 H6 _ I6 q6) fun f s7 q7=>?_)
  have again:∀ {σ7:St}{H7:Hp},Inv X (pins++va fp s5.heap) σ7 H7 s7→N σ7 H7→∃ m,m<n∧∃ i σ' H',Inv X pins σ' H' s7∧tn i s7.heap∧(∀ b∈fp,H' b=none)∧W i m σ' H':=fun {σ7 H7} I7 n7=>by
   obtain⟨m',hm,w7⟩:=hN σ7 H7 n7
   refine⟨m',hm,i+1,σ7,H7,I7.unpinned,T.keep _ _ _ st5 fun b hb o e=>(I7.pin (b,o) (List.mem_append_right _ (List.mem_append_right _ (yE hb e)))).1,fun b hb=>?_,w7⟩
   obtain⟨o,e,d⟩:=T.obj _ _ st5 b hb
   exact(I7.pin (b,o) (List.mem_append_right _ (List.mem_append_right _ (yE hb e)))).2.1
  cases f with
  |next=>obtain⟨σ7,H7,I7,n7⟩:=q7;exact again I7 n7
  |cont=>obtain⟨σ7,H7,I7,n7⟩:=q7;exact again I7 n7
  |brk=>obtain⟨σ7,H7,I7,q7⟩:=q7;exact⟨σ7,H7,I7.unpinned,q7⟩
  |ret v=>obtain⟨x7,σ7,H7,I7,r7,q7⟩:=q7;exact⟨x7,σ7,H7,I7.unpinned,r7,q7⟩
end
theorem for_list {K:PySem.W.Frag}{a:Addr}{xs:List V}{g:TG}{tb:TS}{D:Ends}{σ:St}{H:Hp}(Pv:Nat→St→Hp→Prop) (h0:Pv 0 σ H) (hl:∀ i σ H,i≤xs.length→Pv i σ H→SqL K H a xs)
  (hs:∀ i x σ H,xs[i]?=some x→Pv i σ H→g x σ H fun σ2 H2=>tb { D with nx:=Pv (i+1),ct:=Pv (i+1),bk:=D.nx } σ2 H2) (hd:∀ σ H,Pv xs.length σ H→D.nx σ H) :
  ∃ W:Nat→Nat→St→Hp→Prop,(∃ m,W 0 m σ H)∧∀ i m σ H,W i m σ H →
   ((Itl K a).stop i H∧D.nx σ H)∨((Itl K a).go i H∧∃ N:St→Hp→Prop,(∀ σ' H',N σ' H'→∃ m',m'<m∧W (i+1) m' σ' H')∧∀ x H',(Itl K a).yld i H x H'→g x σ H' fun σ2 H2=>tb { D with nx:=N,ct:=N,bk:=D.nx } σ2 H2):=by
 refine⟨fun i m σ H=>m=xs.length-i∧i≤xs.length∧Pv i σ H,⟨xs.length,by simp,Nat.zero_le _,h0⟩,?_⟩
 rintro i m σ H ⟨rfl,hi,p⟩
 have q:=hl i σ H hi p
 by_cases hlt:i<xs.length
 ·refine .inr ⟨⟨xs,xs[i],q,by simp[hlt]⟩,Pv (i+1),fun σ' H' p'=>⟨xs.length-(i+1),by omega,rfl,hlt,p'⟩,fun x H' y=>?_⟩
  obtain⟨e,y⟩:=y
  subst e
  exact hs i x σ _ (y xs q) p
 ·have e:i=xs.length:=by omega
  subst e
  exact .inl ⟨⟨xs,q,Nat.le_refl _⟩,hd σ H p⟩
theorem for_range {lo:Int}{n:Nat}{g:TG}{tb:TS}{D:Ends}{σ:St}{H:Hp}(Pv:Nat→St→Hp→Prop) (h0:Pv 0 σ H)
  (hs:∀ i σ H,i<n→Pv i σ H→g (.int (lo+i)) σ H fun σ2 H2=>tb { D with nx:=Pv (i+1),ct:=Pv (i+1),bk:=D.nx } σ2 H2) (hd:∀ σ H,Pv n σ H→D.nx σ H) :
  ∃ W:Nat→Nat→St→Hp→Prop,(∃ m,W 0 m σ H)∧∀ i m σ H,W i m σ H →
   ((Itr lo n).stop i H∧D.nx σ H)∨((Itr lo n).go i H∧∃ N:St→Hp→Prop,(∀ σ' H',N σ' H'→∃ m',m'<m∧W (i+1) m' σ' H')∧∀ x H',(Itr lo n).yld i H x H'→g x σ H' fun σ2 H2=>tb { D with nx:=N,ct:=N,bk:=D.nx } σ2 H2):=by
 refine⟨fun i m σ H=>m=n-i∧i≤n∧Pv i σ H,⟨n,by simp,Nat.zero_le _,h0⟩,?_⟩
 rintro i m σ H ⟨rfl,hi,p⟩
 by_cases hlt:i<n
 ·refine .inr ⟨hlt,Pv (i+1),fun σ' H' p'=>⟨n-(i+1),by omega,rfl,hlt,p'⟩,fun x H' y=>?_⟩
  obtain⟨e,y⟩:=y
  subst e y
  exact hs i σ _ hlt p
 ·have e:i=n:=by omega
  subst e
  exact .inl ⟨Nat.le_refl _,hd σ H p⟩
abbrev R2:=V→V→Hp→VK→Prop
def OpR (X:Cx) (f:Value→Value→Sem Value) (r:R2):Prop :=
 ∀ (pins:List (Addr×Obj)) (s:Shared) (σ:St) (H:Hp) (x y:V) (v u:Value) (Q:VK),Inv X pins σ H s→RelV x v→RelV y u→r x y H Q →
  wpAny (model X.prog X.w) X.A (f v u) (EP X pins σ Q) X.xe s
def UnR (X:Cx) (f:Value→Sem Value) (r:V→Hp→VK→Prop):Prop :=
 ∀ (pins:List (Addr×Obj)) (s:Shared) (σ:St) (H:Hp) (x:V) (v:Value) (Q:VK),Inv X pins σ H s→RelV x v→r x H Q →
  wpAny (model X.prog X.w) X.A (f v) (EP X pins σ Q) X.xe s
def xb (X:Cx) (f:Value) (r:List V→Hp→VK→Prop):Prop :=
 ∀ (pins:List (Addr×Obj)) (s:Shared) (σ:St) (H:Hp) (xs:List V) (us:List Value) (Q:VK),Inv X pins σ H s→Vals xs us→r xs H Q →
  wpAny (model X.prog X.w) X.A (call f us) (EP X pins σ Q) X.xe s
def zi0 (X:Cx) (r:V→Hp→(Bool→Hp→Prop)→Prop):Prop :=
 ∀ (pins:List (Addr×Obj)) (s:Shared) (σ:St) (H:Hp) (x:V) (v:Value) (Q:Bool→Hp→Prop),Inv X pins σ H s→RelV x v→r x H Q →
  wpAny (model X.prog X.w) X.A (truthy v) (TP X pins σ Q) X.xe s
def tOp (r:R2) (ta tb:TE):TE:=fun σ H Q=>ta σ H fun x H1=>tb σ H1 fun y H2=>r x y H2 Q
def tUn (r:V→Hp→VK→Prop) (ta:TE):TE:=fun σ H Q=>ta σ H fun x H1=>r x H1 Q
def rI (C:Int→Int→Prop) (g:Int→Int→V):R2:=fun x y H Q=>∃ i j,x=.int i∧y=.int j∧C i j∧Q (g i j) H
def rI0 (g:Int→Int→V):R2:=fun x y H Q=>∃ i j,x=.int i∧y=.int j∧Q (g i j) H
def rU (g:Int→V):V→Hp→VK→Prop:=fun x H Q=>∃ i,x=.int i∧Q (g i) H
section
variable {X:Cx}{a b c:Expr}{ta tb tc:TE}{pos:Pos}
theorem binT (ha:PE X a ta) (hb:PE X b tb){pins:List (Addr×Obj)}{s:Shared}{σ:St}{H:Hp}{R:V→V→Hp→Prop}(I:Inv X pins σ H s)
  (h:ta σ H fun x H1=>tb σ H1 fun y H2=>R x y H2){Q:Value→Shared→Prop}{f:Value→Value→Sem Value}
  (hf:∀ v u s2 x y H2,Inv X pins σ H2 s2→RelV x v→RelV y u→R x y H2→wpAny (model X.prog X.w) X.A (f v u) Q X.xe s2) :
  wpAny (model X.prog X.w) X.A (eval a X.env) (fun v s₁=>wpAny (model X.prog X.w) X.A (eval b X.env) (fun u s₂=>wpAny (model X.prog X.w) X.A (f v u) Q X.xe s₂) X.xe s₁) X.xe s:=by
 refine thn (ha pins s σ H _ I h) fun v s1 hq0=>?_
 obtain⟨x,H1,I1,r1,q1⟩:=hq0
 refine thn (hb pins s1 σ H1 _ I1 q1) fun u s2 hq0=>?_
 obtain⟨y,H2,I2,r2,q2⟩:=hq0
 exact hf v u s2 x y H2 I2 r1 r2 q2
theorem zb7 {op:Operator}{r:R2}(ho:OpR X (binaryOp op) r) (ha:PE X a ta) (hb:PE X b tb):PE X (.BinOp a op b pos) (tOp r ta tb):=by
 intro pins s σ H Q I h
 exact wpAny_BinOp (binT ha hb I h fun v u s2 x y H2 I2 rx ry q=>ho pins s2 σ H2 x y v u Q I2 rx ry q)
theorem Um {op:UnaryOp}{r:V→Hp→VK→Prop}(ho:UnR X (unaryOp op) r) (ha:PE X a ta):PE X (.UnaryOp op a pos) (tUn r ta):=by
 intro pins s σ H Q I h
 exact UnaryOp_ (thn (ha pins s σ H _ I h) fun v s1 ⟨x,H1,I1,r1,q1⟩=>ho pins s1 σ H1 x v Q I1 r1 q1)
theorem opI {f:Value→Value→Sem Value}{C:Int→Int→Prop}{g:Int→Int→Int}
  (rule:∀ (i j:Int) (t u:Tok) (s:Shared) (Q:Value→Shared→Prop) (E:Value→Shared→Prop),C i j→Q (.int (g i j) s.toks) { s with toks:=s.toks+1 }→wpAny (model X.prog X.w) X.A (f (.int i t) (.int j u)) Q E s) :
  OpR X f (rI C fun i j=>.int (g i j)):=by
 intro pins s σ H x y v u Q I rx ry h
 obtain⟨i,j,rfl,rfl,hc,q⟩:=h
 obtain⟨t,rfl⟩:=rx
 obtain⟨t',rfl⟩:=ry
 exact rule i j t t' s _ _ hc ⟨.int (g i j),H,I.tok _,⟨_,rfl⟩,q⟩
theorem zhe {f:Value→Value→Sem Value}{g:Int→Int→Int}
  (rule:∀ (i j:Int) (t u:Tok) (s:Shared) (Q:Value→Shared→Prop) (E:Value→Shared→Prop),Q (.int (g i j) s.toks) { s with toks:=s.toks+1 }→wpAny (model X.prog X.w) X.A (f (.int i t) (.int j u)) Q E s) :
  OpR X f (rI0 fun i j=>.int (g i j)):=by
 intro pins s σ H x y v u Q I rx ry h
 obtain⟨i,j,rfl,rfl,q⟩:=h
 obtain⟨t,rfl⟩:=rx
 obtain⟨t',rfl⟩:=ry
 exact rule i j t t' s _ _ ⟨.int (g i j),H,I.tok _,⟨_,rfl⟩,q⟩
theorem zan {f:Value→Value→Sem Value}{g:Int→Int→Bool}
  (rule:∀ (i j:Int) (t u:Tok) (s:Shared) (Q:Value→Shared→Prop) (E:Value→Shared→Prop),Q (.bool (g i j)) s→wpAny (model X.prog X.w) X.A (f (.int i t) (.int j u)) Q E s) :
  OpR X f (rI0 fun i j=>.bl (g i j)):=by
 intro pins s σ H x y v u Q I rx ry h
 obtain⟨i,j,rfl,rfl,q⟩:=h
 obtain⟨t,rfl⟩:=rx
 obtain⟨t',rfl⟩:=ry
 exact rule i j t t' s _ _ ⟨.bl (g i j),H,I,rfl,q⟩
def zi2 (i j:Int):Prop:=0≤j∧j≤1000000∧i.natAbs<2 ^ 64
def CMul (i j:Int):Prop:=(-(2 ^ 64)<i∧i<2 ^ 64)∨(-(2 ^ 64)<j∧j<2 ^ 64)
theorem CMul.ok {i j:Int}(h:CMul i j):IntMulOk i j:=by
 rcases h with⟨h1,h2⟩ | ⟨h1,h2⟩
 ·exact .of_left (intBits_le_64 h1 h2)
 ·exact .of_right (intBits_le_64 h1 h2)
theorem yL:OpR X (binaryOp .Add) (rI0 fun i j=>.int (i+j)):=zhe fun _ _ _ _ _ _ _ q=>add_int q
theorem wk:OpR X (binaryOp .Sub) (rI0 fun i j=>.int (i-j)):=zhe fun _ _ _ _ _ _ _ q=>sub_int q
theorem vf:OpR X (binaryOp .Mult) (rI CMul fun i j=>.int (i*j)):=opI fun _ _ _ _ _ _ _ hc q=>mul_int q hc.ok
theorem xp:OpR X (binaryOp .Mod) (rI (fun _ j=>0<j) fun i j=>.int (i%j)):=opI fun i j _ _ _ _ _ hc q=>by
 have h1:(0:Int)<j:=hc
 exact mod_int' (by omega) (by rw[Int.fmod_eq_emod_of_nonneg i (by omega)];exact q)
theorem vc:OpR X (binaryOp .Pow) (rI zi2 fun i j=>.int (i ^ j.toNat)):=opI fun _ _ _ _ _ _ _ hc q=>pow_int_small hc.1 hc.2.1 hc.2.2 q
theorem unI {f:Value→Sem Value}{g:Int→Int}
  (rule:∀ (i:Int) (t:Tok) (s:Shared) (Q:Value→Shared→Prop) (E:Value→Shared→Prop),Q (.int (g i) s.toks) { s with toks:=s.toks+1 }→wpAny (model X.prog X.w) X.A (f (.int i t)) Q E s) :
  UnR X f (rU fun i=>.int (g i)):=by
 intro pins s σ H x v Q I rx h
 obtain⟨i,rfl,q⟩:=h
 obtain⟨t,rfl⟩:=rx
 exact rule i t s _ _ ⟨.int (g i),H,I.tok _,⟨_,rfl⟩,q⟩
theorem Zb:UnR X (unaryOp .USub) (rU fun i=>.int (-i)):=unI fun _ _ _ _ _ q=>neg_int q
end
noncomputable def zha:V→V→Bool
 |.non,.non=>true | .non,.int _=>true | .int _,.non=>true | .non,.bl _=>true | .bl _,.non=>true | .non,.str _=>true | .str _,.non=>true
 |.int _,.int _=>true | .bl _,.bl _=>true | .str _,.str _=>true | .byt _,.byt _=>true
 |.int _,.str _=>true | .str _,.int _=>true | .bl _,.str _=>true | .str _,.bl _=>true
 |_,_=>false
def rEq:R2:=fun x y H Q=>zha x y=true∧Q (.bl (decide (x=y))) H
def rNe:R2:=fun x y H Q=>zha x y=true∧Q (.bl (!decide (x=y))) H
theorem YD {i j:Int}:decide (V.int i=V.int j)=(i == j):=by
 rw[Bool.eq_iff_iff]
 simp
theorem Wt {i j:Bool}:decide (V.bl i=V.bl j)=(i == j):=by
 rw[Bool.eq_iff_iff]
 simp
theorem YC {i j:Str}:decide (V.str i=V.str j)=(i == j):=by
 rw[Bool.eq_iff_iff]
 simp
theorem YE {i j:Array UInt8}:decide (V.byt i=V.byt j)=(i.toList == j.toList):=by
 rw[Bool.eq_iff_iff]
 cases i
 cases j
 simp
section
variable {X:Cx}{a b c:Expr}{ta tb tc:TE}{pos:Pos}
theorem zy {pins:List (Addr×Obj)}{σ:St}{H:Hp}{s:Shared}{Q:VK}{k k':Bool}(I:Inv X pins σ H s) (q:Q (.bl k) H) (e:k=k'):EP X pins σ Q (.bool k') s:=by
 subst e
 exact⟨.bl k,H,I,rfl,q⟩
theorem vE:OpR X (compareOp .Eq) rEq:=by
 intro pins s σ H x y v u Q I rx ry h
 obtain⟨hs,q⟩:=h
 cases x with
 |non =>
  cases rx
  cases y with
  |non=>cases ry;exact PySem.EqNone.eq_none_none (zy I q (by simp))
  |bl j=>cases ry;exact PySem.EqNone.eq_none_bool (zy I q (by simp))
  |int j=>obtain⟨t',rfl⟩:=ry;exact PySem.EqNone.eq_none_int (zy I q (by simp))
  |str j=>obtain⟨t',rfl⟩:=ry;exact PySem.EqNone.eq_none_str (zy I q (by simp))
  |_=>exact absurd (show false=true from hs) Bool.false_ne_true
 |bl i =>
  cases rx
  cases y with
  |non=>cases ry;exact PySem.EqNone.eq_bool_none (zy I q (by simp))
  |bl j=>cases ry;exact eq_bool (zy I q Wt)
  |str j=>obtain⟨t',rfl⟩:=ry;exact PySem.EqMixed.eq_bool_str (zy I q (by simp))
  |_=>exact absurd (show false=true from hs) Bool.false_ne_true
 |int i =>
  obtain⟨t,rfl⟩:=rx
  cases y with
  |non=>cases ry;exact PySem.EqNone.eq_int_none (zy I q (by simp))
  |int j=>obtain⟨t',rfl⟩:=ry;exact eq_int (zy I q YD)
  |str j=>obtain⟨t',rfl⟩:=ry;exact PySem.EqMixed.eq_int_str (zy I q (by simp))
  |_=>exact absurd (show false=true from hs) Bool.false_ne_true
 |str i =>
  obtain⟨t,rfl⟩:=rx
  cases y with
  |non=>cases ry;exact PySem.EqNone.eq_str_none (zy I q (by simp))
  |bl j=>cases ry;exact PySem.EqMixed.eq_str_bool (zy I q (by simp))
  |int j=>obtain⟨t',rfl⟩:=ry;exact PySem.EqMixed.eq_str_int (zy I q (by simp))
  |str j=>obtain⟨t',rfl⟩:=ry;exact eq_str (zy I q YC)
  |_=>exact absurd (show false=true from hs) Bool.false_ne_true
 |byt i =>
  obtain⟨t,rfl⟩:=rx
  cases y with
  |byt j=>obtain⟨t',rfl⟩:=ry;exact PySem.W.eq_bytes (zy I q YE)
  |_=>exact absurd (show false=true from hs) Bool.false_ne_true
 |_=>cases y<;>exact absurd (show false=true from hs) Bool.false_ne_true
theorem Vf:OpR X (compareOp .NotEq) rNe:=by
 intro pins s σ H x y v u Q I rx ry h
 obtain⟨hs,q⟩:=h
 cases x with
 |non =>
  cases rx
  cases y with
  |non=>cases ry;exact PySem.EqNone.ne_none_none (zy I q (by simp))
  |bl j=>cases ry;exact PySem.EqNone.ne_none_bool (zy I q (by simp))
  |int j=>obtain⟨t',rfl⟩:=ry;exact PySem.EqNone.ne_none_int (zy I q (by simp))
  |str j=>obtain⟨t',rfl⟩:=ry;exact PySem.EqNone.ne_none_str (zy I q (by simp))
  |_=>exact absurd (show false=true from hs) Bool.false_ne_true
 |bl i =>
  cases rx
  cases y with
  |non=>cases ry;exact PySem.EqNone.ne_bool_none (zy I q (by simp))
  |bl j=>cases ry;exact ne_bool (zy I q (congrArg not Wt))
  |str j=>obtain⟨t',rfl⟩:=ry;exact PySem.EqMixed.ne_bool_str (zy I q (by simp))
  |_=>exact absurd (show false=true from hs) Bool.false_ne_true
 |int i =>
  obtain⟨t,rfl⟩:=rx
  cases y with
  |non=>cases ry;exact PySem.EqNone.ne_int_none (zy I q (by simp))
  |int j=>obtain⟨t',rfl⟩:=ry;exact ne_int (zy I q (congrArg not YD))
  |str j=>obtain⟨t',rfl⟩:=ry;exact PySem.EqMixed.ne_int_str (zy I q (by simp))
  |_=>exact absurd (show false=true from hs) Bool.false_ne_true
 |str i =>
  obtain⟨t,rfl⟩:=rx
  cases y with
  |non=>cases ry;exact PySem.EqNone.ne_str_none (zy I q (by simp))
  |bl j=>cases ry;exact PySem.EqMixed.ne_str_bool (zy I q (by simp))
  |int j=>obtain⟨t',rfl⟩:=ry;exact PySem.EqMixed.ne_str_int (zy I q (by simp))
  |str j=>obtain⟨t',rfl⟩:=ry;exact ne_str (zy I q (congrArg not YC))
  |_=>exact absurd (show false=true from hs) Bool.false_ne_true
 |byt i =>
  obtain⟨t,rfl⟩:=rx
  cases y with
  |byt j=>obtain⟨t',rfl⟩:=ry;exact PySem.W.ne_bytes (zy I q (congrArg not YE))
  |_=>exact absurd (show false=true from hs) Bool.false_ne_true
 |_=>cases y<;>exact absurd (show false=true from hs) Bool.false_ne_true
theorem xX:OpR X (compareOp .Lt) (rI0 fun i j=>.bl (decide (i<j))):=zan fun _ _ _ _ _ _ _ q=>lt_int q
theorem zb8:OpR X (compareOp .LtE) (rI0 fun i j=>.bl (decide (i≤j))):=zan fun _ _ _ _ _ _ _ q=>le_int q
theorem Vg:OpR X (compareOp .Gt) (rI0 fun i j=>.bl (decide (j<i))):=zan fun _ _ _ _ _ _ _ q=>gt_int q
theorem zb9:OpR X (compareOp .GtE) (rI0 fun i j=>.bl (decide (j≤i))):=zan fun _ _ _ _ _ _ _ q=>ge_int q
theorem Ve:OpR X (compareOp .IsNot) (fun x y H Q=>y=.non∧Q (.bl (!decide (x=.non))) H):=by
 intro pins s σ H x y v u Q I rx ry h
 obtain⟨rfl,q⟩:=h
 cases ry
 refine isnot_none_gen (zy I q ?_)
 cases x<;>first
  |(cases rx;rfl)
  |(obtain⟨t,rfl⟩:=rx;rfl)
theorem zr (b:Expr){op:CmpOp}(h:op≠.In:=by decide) (h2:op≠.NotIn:=by decide):behindInMarks op b=false:=by
 have e1:(op == CmpOp.In)=false:=by cases op<;>first | rfl | exact absurd rfl h
 have e2:(op == CmpOp.NotIn)=false:=by cases op<;>first | rfl | exact absurd rfl h2
 cases b<;>simp[behindInMarks,e1,e2]
theorem wH {op:CmpOp}{r:R2}(ho:OpR X (compareOp op) r) (ha:PE X a ta) (hb:PE X b tb) (hm:behindInMarks op b=false):PE X (.Compare a [op] [b] pos) (tOp r ta tb):=by
 intro pins s σ H Q I h
 exact wpAny_Compare1 (binT ha hb I h fun v u s2 x y H2 I2 rx ry q=>ho pins s2 σ H2 x y v u Q I2 rx ry q) hm
def VW (t:TE):TT:=fun σ H Q=>t σ H fun x H'=>∃ k,x=.bl k∧Q k H'
theorem xj {op:CmpOp}{r:R2}(ho:OpR X (compareOp op) r) (ha:PE X a ta) (hb:PE X b tb) (hm:behindInMarks op b=false):PT X (.Compare a [op] [b] pos) (VW (tOp r ta tb)):=by
 intro pins s σ H Q I h
 refine wpAny_isTrue_Compare1 (thn (ha pins s σ H _ I h) fun v s1 ⟨x,H1,I1,r1,q1⟩=>thn (hb pins s1 σ H1 _ I1 q1) fun u s2 ⟨y,H2,I2,r2,q2⟩ =>
  thn (ho pins s2 σ H2 x y v u _ I2 r1 r2 q2) fun c s3 ⟨z,H3,I3,r3,k,e,q3⟩=>?_) hm
 subst e
 cases r3
 exact wpAny_truthy_bool ⟨H3,I3,q3⟩
def zes (K:PySem.W.Frag) (x:V) (H:Hp) (k:Bool):Prop :=
 match x with
 |.non=>k=false
 |.bl b=>k=b
 |.int i=>k=(i != 0)
 |.str y=>y.length≤sizeLine∧k=((y.length:Int) != 0)
 |.byt y=>y.size≤sizeLine∧k=((y.size:Int) != 0)
 |.ref p=>(∃ xs,SqL K H p xs∧k=!xs.isEmpty)∨(∃ xs,SqT K H p xs∧k=!xs.isEmpty)∨∃ kvs,H p=some (.dK kvs)∧k=!kvs.isEmpty
 |_=>False
theorem uN {κ:Type}{kvs:List (κ×V)}{vs:List (κ×Value)}(r:KV kvs vs):(!vs.isEmpty)=!kvs.isEmpty:=by
 cases r<;>rfl
theorem wn {xs:List V}{its:List Value}(r:Vals xs its):(!its.toArray.isEmpty)=!xs.isEmpty:=by
 cases r<;>simp
theorem uo:(sizeLine:Nat)<2 ^ 63:=by rw[sizeLine_eq];decide
theorem tru_ok:zi0 X (fun x H Q=>∃ k,zes X.K x H k∧Q k H):=by
 intro pins s σ H x v Q I rx h
 obtain⟨k,e,q⟩:=h
 have hl:=uo
 have hs:sizeLine=16777216:=sizeLine_eq
 cases x with
 |non =>
  cases rx
  have e':k=false:=e
  subst e'
  exact truthy_none ⟨H,I,q⟩
 |bl b =>
  cases rx
  have e':k=b:=e
  subst e'
  exact wpAny_truthy_bool ⟨H,I,q⟩
 |int i =>
  obtain⟨t,rfl⟩:=rx
  have e':k=(i != 0):=e
  subst e'
  exact PySem.P.truthy_int ⟨H,I,q⟩
 |str y =>
  obtain⟨t,rfl⟩:=rx
  obtain⟨hy,e'⟩:y.length≤sizeLine∧k=((y.length:Int) != 0):=e
  subst e'
  exact PySem.P.truthy_str (by omega) ⟨H,I.tok _,q⟩
 |byt y =>
  obtain⟨t,rfl⟩:=rx
  obtain⟨hy,e'⟩:y.size≤sizeLine∧k=((y.size:Int) != 0):=e
  subst e'
  exact PySem.W.truthy_bytes (by omega) ⟨H,I.tok _,q⟩
 |ref p =>
  cases rx
  have e':(∃ xs,SqL X.K H p xs∧k=!xs.isEmpty)∨(∃ xs,SqT X.K H p xs∧k=!xs.isEmpty)∨∃ kvs,H p=some (.dK kvs)∧k=!kvs.isEmpty:=e
  rcases e' with⟨xs,hx,e'⟩ | ⟨xs,hx,e'⟩ | ⟨kvs,hx,e'⟩
  ·subst e'
   obtain⟨its,r,pl,hz⟩:=I.list hx
   have hlen:=r.length
   exact wpAny_truthy_list pl.isList (by simp only[List.size_toArray];omega) ⟨H,I.tok _,by rw[wn r];exact q⟩
  ·subst e'
   obtain⟨its,r,pl,hz⟩:=I.tuple hx
   have hlen:=r.length
   exact truthy_tuple pl (by simp only[List.size_toArray];omega) ⟨H,I.tok _,by rw[wn r];exact q⟩
  ·subst e'
   obtain⟨hz,hS,vs,r,m⟩:kvs.length≤sizeLine∧(p == sysModules)=false∧∃ vs,KV kvs vs∧s.heap.DictOf (zm X.prog X.w) p vs:=I.hok p _ hx
   have hlen:kvs.length=vs.length:=Paired.length r
   exact wpAny_truthy_dict hS m (by omega) ⟨H,I.tok _,by rw[uN r];exact q⟩
 |_=>exact(show False from e).elim
theorem Xb (ha:PE X a ta) (he:∀ whole,isTrue a X.env whole=(do let v ← whole;standAt a.pos;holding [v] (truthy v))) :
  PT X a (fun σ H Q=>ta σ H fun x H'=>∃ k,zes X.K x H' k∧Q k H'):=by
 intro pins s σ H Q I h
 exact isTrue_plain (thn (ha pins s σ H _ I h) fun v s1 ⟨x,H1,I1,r1,q1⟩=>tru_ok pins s1 σ H1 x v Q I1 r1 q1) (he _)
theorem WB {x:V}{us:List Value}(r:Vals [x] us):∃ u,us=[u]∧RelV x u:=by
 cases r with
 |cons r1 r2=>cases r2;exact⟨_,rfl,r1⟩
theorem VQ {x y:V}{us:List Value}(r:Vals [x,y] us):∃ u w',us=[u,w']∧RelV x u∧RelV y w':=by
 cases r with
 |cons r1 r2 =>
  cases r2 with
  |cons r3 r4=>cases r4;exact⟨_,_,rfl,r1,r3⟩
theorem YK (hc:X.calm=true):xb X (.builtin "max") (fun xs H Q=>∃ i j,xs=[.int i,.int j]∧Q (.int (if j>i then j else i)) H):=by
 intro pins s σ H xs us Q I r h
 obtain⟨i,j,rfl,q⟩:=h
 obtain⟨u,w',rfl,⟨t,rfl⟩,⟨t',rfl⟩⟩:=VQ r
 refine max_two_ints (I.ok.hd hc) fun h' tk k=>⟨_,H,I.kept k,?_,q⟩
 by_cases hj:j>i
 ·rw[if_pos hj,if_pos hj];exact⟨_,rfl⟩
 ·rw[if_neg hj,if_neg hj];exact⟨_,rfl⟩
theorem YJ (hc:X.calm=true):xb X (.builtin "min") (fun xs H Q=>∃ i j,xs=[.int i,.int j]∧Q (.int (if j<i then j else i)) H):=by
 intro pins s σ H xs us Q I r h
 obtain⟨i,j,rfl,q⟩:=h
 obtain⟨u,w',rfl,⟨t,rfl⟩,⟨t',rfl⟩⟩:=VQ r
 refine min_two_ints (I.ok.hd hc) fun h' tk k=>⟨_,H,I.kept k,?_,q⟩
 by_cases hj:j<i
 ·rw[if_pos hj,if_pos hj];exact⟨_,rfl⟩
 ·rw[if_neg hj,if_neg hj];exact⟨_,rfl⟩
end
structure ObjM (h:Heap) (x dx C:Addr) (mA:Str→Option Value):Prop where
 obj:h.get? x=some (PySem.W.instObj C dx)
 ns:h.Ns1 dx mA
 ne:dx≠x
theorem Yi {h:Heap}{dx:Addr}{mA:Str→Option Value}(n:h.Ns1 dx mA):∃ od,h.get? dx=some od∧∀ name,PySem.W.lookIn name od=some (mA name):=by
 obtain⟨o,es,ep,ho,hd,hk,_,hm⟩:=n
 refine⟨o,ho,fun name=>?_⟩
 have e:=hm name
 unfold nsFind findBy at e
 rw[← Array.find?_toList] at e
 unfold PySem.W.lookIn
 rw[hd]
 dsimp only
 split
 ·rename_i y q
  rw[q] at e
  exact congrArg some e
 ·rename_i q
  rw[q] at e
  have a:es.toList.any (·.refKey)=false:=by
   rw[List.any_eq_false]
   intro y hy
   obtain⟨z,t,hkey⟩:=hk y (Array.mem_toList_iff.mp hy)
   simp[DictEntry.refKey,hkey]
  have a':¬ es.toList.any (·.refKey)=true:=by rw[a];exact Bool.false_ne_true
  rw[if_neg a']
  exact congrArg some e
theorem ObjM.look {h:Heap}{x dx C:Addr}{mA:Str→Option Value}(I:ObjM h x dx C mA):∃ od,PySem.W.InstAt h x (PySem.W.instObj C dx) C (some od)∧∀ name,PySem.W.lookIn name od=some (mA name) :=
 let ⟨od,ho,hl⟩:=Yi I.ns
 ⟨od,⟨I.obj,rfl,rfl,ho⟩,hl⟩
section
variable {prog:Program}{w:World}{A:Around}{E:Value→Shared→Prop}{s:Shared}{K:PySem.W.Frag}{x dx C f:Addr}{mA:Str→Option Value}{name:Str}{v:Value}
theorem Vz {expr:Bool}{Q:Value→Shared→Prop}(X:K.In s.heap) (I:ObjM s.heap x dx C mA) (hg:PySem.W.plainGet K C name=true) (hh:PySem.W.hasDictIn K C=true)
  (ha:PySem.W.findIn K (.ref C) name=some none) (hv:mA name=some v) (hv':PySem.W.handedIn v=true) (h:Q v { s with toks:=s.toks+1 }) :
  wpAny (model prog w) A (getAttr (.ref x) name expr) Q E s:=by
 obtain⟨od,J,hl⟩:=I.look
 exact PySem.W.get_value X J (PySem.W.plainGet_of hg).1 (PySem.W.findObj_own hh ha rfl (by rw[hl,hv])) hv' h
theorem XG {pl:Sem Bool}{Q:Value×List Value→Shared→Prop}(X:K.In s.heap) (I:ObjM s.heap x dx C mA) (hg:PySem.W.plainGet K C name=true)
  (hf:PySem.W.findIn K (.ref C) name=some (some (.ref f))) (ht:PySem.W.isFn K (.ref f)=true) (hv:mA name=none) (h:Q (.ref f,[.ref x]) s) :
  wpAny (model prog w) A (getMethod (.ref x) name pl) Q E s:=by
 obtain⟨od,J,hl⟩:=I.look
 exact PySem.W.method_fn X J (PySem.W.plainGet_of hg).1 (PySem.W.plainGet_of hg).2 hf (beq_iff_eq.mp ht) (by show(PySem.W.lookIn name od).map (·.isSome)=some false;rw[hl,hv];rfl) h
theorem WI {ns:List Str}{Q:Unit→Shared→Prop}(X:K.In s.heap) (I:ObjM s.heap x dx C mA)
  (hs:PySem.W.findIn K (.ref C) "__setattr__" = some (some (.builtin "object.__setattr__"))) (hp:PySem.W.plainOver K C=true) (ht:PySem.W.takerIn K C name=some none) (hh:PySem.W.hasDictIn K C=true)
  (hw:PySem.Within mA ns) (hsz:ns.length≤sizeLine)
  (h:∀ h',ObjM h' x dx C (fun y=>if y=name then some v else mA y)→Heap.SameBut dx s.heap h'→Q () { s with heap:=h',toks:=s.toks+2 }) :
  wpAny (model prog w) A (setAttr (.ref x) name v) Q E s:=by
 obtain⟨od,J,hl⟩:=I.look
 refine PySem.W.set_plain X J hs (PySem.W.osa_open (s:={ s with toks:=s.toks+1 }) (r:=none) X J hp ht fun b=>?_)
 obtain⟨cd,hc,hd'⟩:=PySem.W.any_some hh
 have hx:s.heap.get? x=some ⟨.ref C,some dx,.plain,#[]⟩:=I.obj
 refine wpAny_bind (wpAny_pure (wpAny_bind (wpAny_bind (wpAny_loadPart hx (wpAny_bind (PySem.W.Looks.here (s:={ s with toks:=s.toks+1 }) (PySem.W.looks_clsIn X hc) ?_))))))
 rw[hd']
 refine wpAny_pure (a:=some dx) (wpAny_bind (wpAny_pure (wpAny_bind ?_)))
 refine wpAny_nsSet1 (s:={ s with toks:=s.toks+1 }) I.ns fun h' hn2 hs2=>?_
 obtain⟨oD,esD,epD,hoD,hdD,hcD⟩:=hn2.count (PySem.Within.cons name v hw)
 refine wpAny_bind (wpAny_lookBehind hoD (by rw[hdD];exact pastItsLine_dict (Nat.le_trans hcD (by rw[List.length_cons];omega))) ?_)
 exact wpAny_pure (h _ ⟨(hs2.2 _ (Ne.symm I.ne)).trans I.obj,hn2,I.ne⟩ hs2)
theorem Xx {R:Result→Shared→Prop}{vs:List Value}{kw:List (Str×Value)}(X:K.In s.heap) (hm:PySem.W.makesIn K C=true)
  (hi:PySem.W.findIn K (.ref C) "__init__" = some (some (.ref f))) (hf:PySem.W.typeIn K (.ref f)=some (.type "function"))
  (h:codeAny (model prog w) (A.under (.builtin "type.__call__" ⟨.ref C::vs,kw⟩)) (.call (.ref f) ⟨.ref (s.heap.objs.size+1)::vs,kw⟩) (PySem.W.InitBack (s.heap.objs.size+1) R)
   { s with heap:=(s.heap.push PySem.W.emptyDict).push (PySem.W.instObj C s.heap.objs.size) }) :
  codeAny (model prog w) A (.call (.ref C) ⟨vs,kw⟩) R s:=by
 obtain⟨hh,g,d,t,os⟩:=s
 exact PySem.W.make_core (PySem.W.makes_of X hm) (PySem.W.looks_findIn X hi) (fun self=>PySem.W.bind_fn X self hf) (.inl rfl) h
end
noncomputable def vq (f:Str) (v:V):List (Str×V)→List (Str×V)
 |[]=>[(f,v)]
 |(g,x)::r=>if g=f then(g,v)::r else(g,x)::vq f v r
theorem xN (f g:Str) (v:V):∀ fs:List (Str×V),(vq f v fs).lookup g=if g=f then some v else fs.lookup g
 |[]=>by
  show List.lookup g [(f,v)]=_
  by_cases h:g=f
  ·have hb:(g == f)=true:=beq_iff_eq.mpr h
   simp only[List.lookup,hb,if_pos h]
  ·have hb:(g == f)=false:=beq_eq_false_iff_ne.mpr h
   simp only[List.lookup,hb,if_neg h]
 |(k,x)::r=>by
  have ih:=xN f g v r
  rw[show vq f v ((k,x)::r)=(if k=f then(k,v)::r else(k,x)::vq f v r) from rfl]
  by_cases hk:k=f
  ·rw[if_pos hk]
   by_cases h:g=k
   ·have hb:(g == k)=true:=beq_iff_eq.mpr h
    simp only[List.lookup,hb,if_pos (h.trans hk)]
   ·have hb:(g == k)=false:=beq_eq_false_iff_ne.mpr h
    simp only[List.lookup,hb,if_neg (fun e:g=f=>h (e.trans hk.symm))]
  ·rw[if_neg hk]
   by_cases h:g=k
   ·have hb:(g == k)=true:=beq_iff_eq.mpr h
    simp only[List.lookup,hb,if_neg (fun e:g=f=>hk (h.symm.trans e))]
   ·have hb:(g == k)=false:=beq_eq_false_iff_ne.mpr h
    simp only[List.lookup,hb]
    exact ih
theorem xP (f:Str) (v:V):∀ fs:List (Str×V),f∈(vq f v fs).map (·.1)∧∀ g,g∈fs.map (·.1)→g∈(vq f v fs).map (·.1)
 |[]=>⟨by simp[vq],fun g h=>by simp at h⟩
 |(k,x)::r=>by
  obtain⟨i1,i2⟩:=xP f v r
  rw[show vq f v ((k,x)::r)=(if k=f then(k,v)::r else(k,x)::vq f v r) from rfl]
  by_cases hk:k=f
  ·rw[if_pos hk]
   subst hk
   exact⟨by simp,fun g h=>by simpa using h⟩
  ·rw[if_neg hk]
   refine⟨?_,fun g h=>?_⟩
   ·rw[List.map_cons]
    exact List.mem_cons_of_mem _ i1
   ·rw[List.map_cons] at h ⊢
    rcases List.mem_cons.mp h with e | e
    ·exact List.mem_cons.mpr (.inl e)
    ·exact List.mem_cons_of_mem _ (i2 g e)
theorem xO (f:Str) (v:V):∀ fs:List (Str×V),(vq f v fs).length≤fs.length+1
 |[]=>by simp[vq]
 |(k,x)::r=>by
  have ih:=xO f v r
  rw[show vq f v ((k,x)::r)=(if k=f then(k,v)::r else(k,x)::vq f v r) from rfl]
  by_cases hk:k=f
  ·rw[if_pos hk,List.length_cons,List.length_cons];omega
  ·rw[if_neg hk,List.length_cons,List.length_cons];omega
theorem RelO.some_of {v:V}{o:Option Value}(r:RelO (some v) o):∃ u,o=some u∧RelV v u:=by
 cases o with
 |none=>exact(show False from r).elim
 |some u=>exact⟨u,rfl,r⟩
theorem RelO.none_of {o:Option Value}(r:RelO none o):o=none:=by
 cases o with
 |none=>rfl
 |some u=>exact(show False from r).elim
theorem Yw {v:V}{u:Value}(r:RelV v u):PySem.W.handedIn u=true:=by
 cases v with
 |non=>cases (show u=Value.none from r);rfl
 |bl b=>cases (show u=Value.bool b from r);rfl
 |int i=>obtain⟨t,e⟩:=(show ∃ t,u=Value.int i t from r);cases e;rfl
 |str x=>obtain⟨t,e⟩:=(show ∃ t,u=Value.str x t from r);cases e;rfl
 |byt b=>obtain⟨t,e⟩:=(show ∃ t,u=Value.bytes b t from r);cases e;rfl
 |flt b=>obtain⟨t,e⟩:=(show ∃ t,u=Value.float b t from r);cases e;rfl
 |ref a=>cases (show u=Value.ref a from r);rfl
 |ty n=>cases (show u=Value.type n from r);rfl
section
variable {P:Program}{w:World}{H H':Hp}{h h':Heap}{a C dx:Addr}{fs fs':List (Str×V)}
theorem wL (hok:HOk P w H h) (e:H a=some (.ins C dx fs)):∃ mA,ObjM h a dx C mA∧(∀ f,RelO (fs.lookup f) (mA f))∧PySem.Within mA (fs.map (·.1))∧fs.length≤1000∧H dx=some (.own a):=by
 obtain⟨d,z,ne,ob,mA,n,r,q⟩:=(show ObjOk P w H h a (.ins C dx fs) from hok a _ e)
 exact⟨mA,⟨ob,n,ne⟩,r,q,z,d⟩
end
structure Cls (K:PySem.W.Frag) (C:Addr):Prop where
 pg:PySem.W.plainGet K C Str.empty=true
 hd:PySem.W.hasDictIn K C=true
 po:PySem.W.plainOver K C=true
 sa:PySem.W.findIn K (.ref C) "__setattr__" = some (some (.builtin "object.__setattr__"))
theorem Cls.get {K:PySem.W.Frag}{C:Addr}(c:Cls K C) (f:Str):PySem.W.plainGet K C f=true:=c.pg
def NoAttr (K:PySem.W.Frag) (C:Addr) (f:Str):Prop:=PySem.W.findIn K (.ref C) f=some none
theorem NoAttr.taker {K:PySem.W.Frag}{C:Addr}{f:Str}(n:NoAttr K C f):PySem.W.takerIn K C f=some none:=by
 unfold PySem.W.takerIn
 rw[show PySem.W.findIn K (.ref C) f=some none from n]
 rfl
structure Meth (K:PySem.W.Frag) (C:Addr) (m:Str) (f:Addr):Prop where
 at_:PySem.W.findIn K (.ref C) m=some (some (.ref f))
 fn:PySem.W.isFn K (.ref f)=true
 kp:PySem.W.keepIn K (.ref f)=true
section
variable {X:Cx}{pins:List (Addr×Obj)}{σ:St}{H:Hp}{s:Shared}{a C dx:Addr}{fs:List (Str×V)}{f:Str}{v:V}{A:Around}{E:Value→Shared→Prop}
theorem uP {b:Bool}{Q:Value→Shared→Prop}(I:Inv X pins σ H s) (e:H a=some (.ins C dx fs)) (c:Cls X.K C) (n:NoAttr X.K C f) (l:fs.lookup f=some v)
  (h:∀ u s',Inv X pins σ H s'→RelV v u→Q u s'):wpAny (model X.prog X.w) A (getAttr (.ref a) f b) Q E s:=by
 obtain⟨mA,O,r,_,_,_⟩:=wL I.hok e
 obtain⟨u,hu,ru⟩:=RelO.some_of (v:=v) (o:=mA f) (by rw[← l];exact r f)
 exact Vz I.kIn O (c.get f) c.hd n hu (Yw ru) (h u _ (I.tok _) ru)
theorem yF {m:Str}{g:Addr}{pl:Sem Bool}{Q:Value×List Value→Shared→Prop}(I:Inv X pins σ H s) (e:H a=some (.ins C dx fs)) (c:Cls X.K C) (k:Meth X.K C m g) (l:fs.lookup m=none)
  (h:Q (.ref g,[.ref a]) s):wpAny (model X.prog X.w) A (getMethod (.ref a) m pl) Q E s:=by
 obtain⟨mA,O,r,_,_,_⟩:=wL I.hok e
 have hn:mA m=none:=RelO.none_of (by rw[← l];exact r m)
 exact XG I.kIn O (c.get m) k.at_ k.fn hn h
theorem uH {y:V}{u:Value}{Q:Unit→Shared→Prop}(I:Inv X pins σ H s) (e:H a=some (.ins C dx fs)) (c:Cls X.K C) (n:NoAttr X.K C f) (hl:fs.length<1000) (ry:RelV y u)
  (h:∀ s',Inv X pins σ (upd H a (.ins C dx (vq f y fs))) s'→Q () s'):wpAny (model X.prog X.w) A (setAttr (.ref a) f u) Q E s:=by
 obtain⟨mA,O,r,wi,_,ho⟩:=wL I.hok e
 have hz:(fs.map (·.1)).length≤sizeLine:=by rw[List.length_map,sizeLine_eq];omega
 refine WI I.kIn O c.sa c.po n.taker c.hd wi hz fun h' O' sb=>h _ ?_
 have hd:∃ o,h'.get? dx=some o:=let ⟨o,_,_,e',_⟩:=O'.ns;⟨o,e'⟩
 refine I.write (x:=a) (e:=dx) (by rw[e];exact True.intro) (.inr ho) (fun b q hb z=>(sb.2 b hb).trans z) hd ?_
 refine⟨by rw[upd_ne O.ne];exact ho,?_,O.ne,O'.obj,_,O'.ns,fun g=>?_,fun g hg=>?_⟩
 ·have:=xO f y fs;omega
 ·show RelO ((vq f y fs).lookup g) (if g=f then some u else mA g)
  rw[xN]
  by_cases q:g=f
  ·rw[if_pos q,if_pos q];exact ry
  ·rw[if_neg q,if_neg q];exact r g
 ·by_cases q:g=f
  ·rw[q];exact(xP f y fs).1
  ·refine(xP f y fs).2 g (wi g fun z=>hg ?_)
   show(if g=f then some u else mA g)=none
   rw[if_neg q];exact z
theorem Inv.made (I:Inv X pins σ H s):Inv X pins σ (upd (upd H s.heap.objs.size (.own (s.heap.objs.size+1))) (s.heap.objs.size+1) (.ins C s.heap.objs.size []))
  { s with heap:=(s.heap.push PySem.W.emptyDict).push (PySem.W.instObj C s.heap.objs.size) }:=by
 have e1:(s.heap.push PySem.W.emptyDict).get? s.heap.objs.size=some PySem.W.emptyDict:=Heap.get?_push_size s.heap rfl
 have e2:((s.heap.push PySem.W.emptyDict).push (PySem.W.instObj C s.heap.objs.size)).get? (s.heap.objs.size+1)=some (PySem.W.instObj C s.heap.objs.size):=by
  have:=Heap.get?_push_size (s.heap.push PySem.W.emptyDict) (o:=PySem.W.instObj C s.heap.objs.size) rfl
  rwa [Heap.size_push] at this
 have e3:(s.heap.push PySem.W.emptyDict).Ns s.heap.objs.size (fun _=>none):=⟨PySem.W.emptyDict,#[],_,e1,rfl,(fun e he=>absurd he (by simp)),fun _=>rfl⟩
 have I1:=I.laid (a:=s.heap.objs.size) (o:=.own (s.heap.objs.size+1)) (h':=s.heap.push PySem.W.emptyDict) (t':=s.toks) (fun b u q=>Heap.get?_push_of_some _ q) (Nat.le_refl _) ⟨_,e1⟩
 refine I1.laid (a:=s.heap.objs.size+1) (o:=.ins C s.heap.objs.size []) (t':=s.toks) (fun b u q=>Heap.get?_push_of_some _ q) (Nat.le_of_eq (Heap.size_push _ _)) ?_
 have ne:s.heap.objs.size≠s.heap.objs.size+1:=Nat.ne_of_lt (Nat.lt_succ_self _)
 refine⟨by rw[upd_ne ne,upd_same],Nat.zero_le _,ne,e2,fun _=>none,(Heap.Ns1.of_empty e3).at fun o q=>Heap.get?_push_of_some _ q,fun _=>True.intro,fun y hy=>absurd rfl hy⟩
theorem attr_of {prog:Program}{w:World}{env:Env}{e:Expr}{f:Str}{pos:Pos}{s:Shared}{Q:Value→Shared→Prop}(hb:attributeBase e f env (eval e env)=eval e env)
  (h:wpAny (model prog w) A (eval e env) (fun o s₁=>wpAny (model prog w) A (getAttr o f true) Q E s₁) E s):wpAny (model prog w) A (eval (.Attribute e f pos) env) Q E s :=
 Attribute_any_ h (by rw[arm_eval_Attribute,hb])
end
def zeF (K:PySem.W.Frag) (ta:TE) (f:Str):TE:=fun σ H Q=>ta σ H fun x H1=>∃ a C dx fs v,x=.ref a∧H1 a=some (.ins C dx fs)∧Cls K C∧NoAttr K C f∧fs.lookup f=some v∧Q v H1
def zhb (K:PySem.W.Frag) (ta tv:TE) (f:Str):TS:=fun D σ H=>tv σ H fun y H1=>ta σ H1 fun x H2=>∃ a C dx fs,x=.ref a∧H2 a=some (.ins C dx fs)∧Cls K C∧NoAttr K C f∧fs.length<1000 ∧
 D.nx σ (upd H2 a (.ins C dx (vq f y fs)))
section
variable {X:Cx}{o e value:Expr}{f:Str}{pos pos' tpos:Pos}{ta tv:TE}
theorem Ur (he:PE X e ta) (hb:attributeBase e f X.env (eval e X.env)=eval e X.env):PE X (.Attribute e f pos) (zeF X.K ta f):=by
 intro pins s σ H Q I h
 refine attr_of hb (thn (he pins s σ H _ I h) fun u s1 hq0=>?_)
 obtain⟨x,H1,I1,rx,a,C,dx,fs,v,ex,ea,c,n,l,q⟩:=hq0
 subst ex
 obtain rfl:u=Value.ref a:=rx
 exact uP I1 ea c n l fun u' s2 I2 ru=>⟨v,H1,I2,ru,q⟩
theorem ue (ha:PE X o ta) (hv:PE X value tv) (hs:swapsWith value (some (.Attribute o f pos')) pos.line X.env=pure false):PS X (.Assign [.Attribute o f pos'] value pos) (zhb X.K ta tv f):=by
 intro pins s σ H D I h
 refine plainObj_wpAny_Assign_Attribute (thn (hv pins s σ H _ I h) fun u s1 ⟨y,H1,I1,ry,q⟩=>thn (ha pins s1 σ H1 _ I1 q) fun ov s2 hq0=>?_) hs
 obtain⟨x,H2,I2,rx,a,C,dx,fs,ex,ea,c,n,l,q2⟩:=hq0
 subst ex
 obtain rfl:ov=Value.ref a:=rx
 exact uH I2 ea c n l ry fun s3 I3=>⟨σ,_,I3,q2⟩
theorem Vs {pl:Sem Bool}{m:Str}{apos:Pos}{args:List Expr}{pins:List (Addr×Obj)}{s:Shared}{σ:St}{H:Hp}{Q:Value→Shared→Prop}{te:TE}(he:PE X e te) (I:Inv X pins σ H s)
  (h:te σ H fun x H1=>∃ a C dx fs g,x=.ref a∧H1 a=some (.ins C dx fs)∧Cls X.K C∧Meth X.K C m g∧fs.lookup m=none ∧
   ∀ s1,Inv X pins σ H1 s1→wpAny (model X.prog X.w) X.A (callWith pos (.ref g) [.ref a] (backTo pos (starEach args X.env)) (backToKw pos (keywordEach [] X.env))) Q X.xe s1)
  (ht:eval (.Call (.Attribute e m apos) args [] pos) X.env=(do
   let ov ← eval e X.env
   standAt apos.atName
   let (f,first) ← holding [ov] (getMethod ov m pl)
   callWith pos f first (backTo pos (starEach args X.env)) (backToKw pos (keywordEach [] X.env)))) :
  wpAny (model X.prog X.w) X.A (eval (.Call (.Attribute e m apos) args [] pos) X.env) Q X.xe s:=by
 refine PySem.W.methodCall_KW (pl:=pl) (thn (he pins s σ H _ I h) fun u s1 hq0=>?_) ht
 obtain⟨x,H1,I1,rx,a,C,dx,fs,g,ex,ea,c,k,l,q⟩:=hq0
 subst ex
 obtain rfl:u=Value.ref a:=rx
 exact yF I1 ea c k l (q s1 I1)
end
section
variable {X:Cx}{pins:List (Addr×Obj)}{σ:St}{H:Hp}{s:Shared}{A:Around}{E:Value→Shared→Prop}{Q:Value→Shared→Prop}{c:Value}{b:Bool}
inductive TyOf (K:PySem.W.Frag) (H:Hp):V→Value→Prop where
 |non:TyOf K H .non (.type "NoneType")
 |bl (x:Bool):TyOf K H (.bl x) (.type "bool")
 |int (i:Int):TyOf K H (.int i) (.type "int")
 |str (x:Str):TyOf K H (.str x) (.type "str")
 |flt (x:UInt64):TyOf K H (.flt x) (.type "float")
 |lst {a:Addr}{xs:List V}(e:H a=some (.lst xs)):TyOf K H (.ref a) (.type "list")
 |frz {a:Addr}{o:Obj}{xs:List V}(e:H a=some (.frz o (.lst xs))):TyOf K H (.ref a) (.type "list")
 |tup {a:Addr}{xs:List V}(e:H a=some (.tup xs)):TyOf K H (.ref a) (.type "tuple")
 |dK {a:Addr}{kvs:List (Key×V)}(e:H a=some (.dK kvs)):TyOf K H (.ref a) (.type "dict")
 |dT {a:Addr}{kvs:List (List Key×V)}(e:H a=some (.dT kvs)):TyOf K H (.ref a) (.type "dict")
 |ins {a C dx:Addr}{fs:List (Str×V)}(e:H a=some (.ins C dx fs)) (cl:Cls K C) (ha:PySem.W.findIn K (.ref C) "__class__" = some (some (.builtin "object.__class__")))
   (hn:PySem.W.specialIn K (.builtin "object.__class__") "__get__" = some (some (.builtin "getset_descriptor.__get__"))) (htk:PySem.W.takesIn K (.builtin "object.__class__")=some true)
   (hm:PySem.W.mroIn K C (.type "object")=some true):TyOf K H (.ref a) (.ref C)
theorem Yq {x:V}{u t:Value}(I:Inv X pins σ H s) (rx:RelV x u) (ty:TyOf X.K H x t) (e:PySem.W.kitOne X.K t c=some b) (h:∀ tk,Q (.bool b) { s with toks:=tk }) :
  wpAny (model X.prog X.w) A (call (.builtin "isinstance") [u,c]) Q E s:=by
 cases ty with
 |non=>cases (show u=Value.none from rx);exact PySem.W.kia_one PySem.W.kitx_none I.kIn True.intro e (fun z=>nomatch z) h
 |bl y=>cases (show u=Value.bool y from rx);exact PySem.W.kia_one PySem.W.kitx_bool I.kIn True.intro e (fun z=>nomatch z) h
 |int i=>obtain⟨t,q⟩:=(show ∃ t,u=Value.int i t from rx);cases q;exact PySem.W.kia_one PySem.W.kitx_int I.kIn True.intro e (fun z=>nomatch z) h
 |str y=>obtain⟨t,q⟩:=(show ∃ t,u=Value.str y t from rx);cases q;exact PySem.W.kia_one PySem.W.kitx_str I.kIn True.intro e (fun z=>nomatch z) h
 |flt y=>obtain⟨t,q⟩:=(show ∃ t,u=Value.float y t from rx);cases q;exact PySem.W.kia_one PySem.W.kitx_float I.kIn True.intro e (fun z=>nomatch z) h
 | @lst a xs ea =>
  cases (show u=Value.ref a from rx)
  obtain⟨_,_,n,_,h1⟩:=(show ObjOk X.prog X.w H s.heap a (.lst xs) from I.hok a _ ea)
  exact PySem.W.kia_one PySem.W.kitx_list I.kIn ⟨_,h1,rfl⟩ e (fun z=>nomatch z) h
 | @frz a ob xs ea =>
  cases (show u=Value.ref a from rx)
  obtain⟨_,_,_,n,_,h1⟩:=(show ObjOk X.prog X.w H s.heap a (.frz ob (.lst xs)) from I.hok a _ ea)
  exact PySem.W.kia_one PySem.W.kitx_list I.kIn ⟨_,h1,rfl⟩ e (fun z=>nomatch z) h
 | @tup a xs ea =>
  cases (show u=Value.ref a from rx)
  obtain⟨_,_,_,p⟩:=(show ObjOk X.prog X.w H s.heap a (.tup xs) from I.hok a _ ea)
  obtain⟨o,h1,h2,_⟩:=p
  exact PySem.W.kia_one PySem.W.kitx_tuple I.kIn ⟨o,h1,h2⟩ e (fun z=>nomatch z) h
 | @dK a kvs ea =>
  cases (show u=Value.ref a from rx)
  obtain⟨_,_,vs,_,p⟩:=(show ObjOk X.prog X.w H s.heap a (.dK kvs) from I.hok a _ ea)
  obtain⟨o,es,ep,h1,h2,_⟩:=p
  exact PySem.W.kia_one PySem.W.kitx_dict I.kIn ⟨o,h1,h2.1⟩ e (fun z=>nomatch z) h
 | @dT a kvs ea =>
  cases (show u=Value.ref a from rx)
  obtain⟨_,_,xs,_,o,es,ep,h1,h2,_⟩:=(show ObjOk X.prog X.w H s.heap a (.dT kvs) from I.hok a _ ea)
  exact PySem.W.kia_one PySem.W.kitx_dict I.kIn ⟨o,h1,h2.1⟩ e (fun z=>nomatch z) h
 | @ins a C dx fs ea cl ha hn htk hm =>
  cases (show u=Value.ref a from rx)
  obtain⟨mA,O,_⟩:=wL I.hok ea
  obtain⟨od,J,_⟩:=O.look
  exact PySem.W.kia_one (PySem.W.kitx_own (cl.get _) cl.hd ha hn htk hm) I.kIn J e (fun z=>nomatch z) h
end
structure Room (k:Nat) (A:Around):Prop where
 hd:A.handled=none
 dp:A.depth+3*k+5<recursionLimit
 un:A.units+16*k+200<cLine
theorem Room.mono {j k:Nat}{A:Around}(r:Room k A) (h:j≤k):Room j A:=⟨r.hd,by have:=r.dp;omega,by have:=r.un;omega⟩
theorem Room.deeper {k:Nat}{A:Around}(r:Room (k+1) A) (env:Env):Room k (A.deeper env) :=
 ⟨r.hd,by have:=r.dp;show A.depth+1+3*k+5<_;omega,by have:=r.un;show A.units+3+16*k+200<_;omega⟩
theorem uM {A:Around}{C:Addr}{us:List Value}{kw:List (Str×Value)}:(A.under (.builtin "type.__call__" ⟨.ref C::us,kw⟩)).depth=A.depth+1:=by
 first | rfl | simp[Around.under,Code.weight,Code.isCreation,Code.isGuard,Code.isCaller,Code.frames,Code.isFrame,guardIds]
theorem uL {A:Around}{C:Addr}{us:List Value}{kw:List (Str×Value)}:(A.under (.builtin "type.__call__" ⟨.ref C::us,kw⟩)).units=A.units+1:=by
 first | rfl | simp[Around.under,Code.cUnits,Code.frames,Code.isFrame]
theorem Room.make {k:Nat}{A:Around}(r:Room (k+1) A) (C:Addr) (us:List Value) (kw:List (Str×Value)):Room k (A.under (.builtin "type.__call__" ⟨.ref C::us,kw⟩)) :=
 ⟨r.hd,by have:=r.dp;rw[uM];omega,by have:=r.un;rw[uL];omega⟩
theorem Room.depth {k:Nat}{A:Around}(r:Room k A):A.depth<recursionLimit:=by have:=r.dp;omega
theorem Room.units {k:Nat}{A:Around}(r:Room k A):A.units+64<cLine:=by have:=r.un;omega
def zai:TA:=fun _ H Q=>Q [] H
def xq (ta:TE) (tr:TA):TA:=fun σ H Q=>ta σ H fun x H1=>tr σ H1 fun xs H2=>Q (x::xs) H2
section
variable {X:Cx}{e:Expr}{es:List Expr}{te:TE}{t:TA}{pos:Pos}
theorem zK:PA X [] zai:=fun _ _ _ _ H Q I h=>Calls.spliced_nil ⟨[],H,I,.nil,h⟩
theorem yx (ha:PE X e te) (hr:PA X es t) (hs:starEach (e::es) X.env=(false,eval e X.env)::starEach es X.env:=by rfl):PA X (e::es) (xq te t):=by
 intro pos pins s σ H Q I h
 rw[hs]
 show wpAny _ _ (spliced ((false,eval e X.env)::backTo pos (starEach es X.env))) _ _ s
 refine Calls.spliced_cons (thn (ha pins s σ H _ I h) fun u s1 hq0=>?_)
 obtain⟨x,H1,I1,r1,q1⟩:=hq0
 exact thn (hr pos pins s1 σ H1 _ I1 q1) fun us s2 ⟨xs,H2,I2,r2,q2⟩=>⟨x::xs,H2,I2,.cons r1 r2,q2⟩
def zew (t:TA):TE:=fun σ H Q=>t σ H fun xs H1=>xs.length≤sizeLine∧∀ p,H1 p=none→Q (.ref p) (upd H1 p (.tup xs))
def zeC (t:TA):TE:=fun σ H Q=>t σ H fun xs H1=>xs.length≤sizeLine∧∀ p,H1 p=none→Q (.ref p) (upd H1 p (.lst xs))
theorem Uo {x1}(h:PA X es t):PE X (.Tuple es x1 pos) (zew t):=by
 intro pins s σ H Q I hq
 refine wpAny_Tuple_spliced (thn (h pos pins s σ H _ I hq) fun us s1 ⟨xs,H1,I1,r,z,q⟩=>⟨by rw[← r.length];exact z,?_⟩)
 have hf:H1 s1.heap.objs.size=none:=I1.hok.fresh (Nat.le_refl _)
 refine⟨.ref s1.heap.objs.size,upd H1 s1.heap.objs.size (.tup xs),I1.laid (t':=s1.toks) (fun b u e=>Heap.get?_push_of_some _ e) (Nat.le_refl _) ?_,rfl,q _ hf⟩
 exact⟨z,us,r,⟨_,Heap.get?_push_size _ rfl,rfl,_,rfl⟩⟩
theorem Wh (h:PA X es t):PE X (.List es pos) (zeC t):=by
 intro pins s σ H Q I hq
 refine wpAny_List_spliced (thn (h pos pins s σ H _ I hq) fun us s1 ⟨xs,H1,I1,r,z,q⟩=>⟨by rw[← r.length];exact z,?_⟩)
 have hf:H1 s1.heap.objs.size=none:=I1.hok.fresh (Nat.le_refl _)
 refine⟨.ref s1.heap.objs.size,upd H1 s1.heap.objs.size (.lst xs),I1.laid (t':=s1.toks) (fun b u e=>Heap.get?_push_of_some _ e) (Nat.le_refl _) ?_,rfl,q _ hf⟩
 exact⟨z,us,0,r,Heap.get?_push_size _ rfl⟩
end
abbrev Sp:=List V→Hp→VK→XK→Prop
abbrev CXT:=List Env→Hp→Shared→XK→Value→Shared→Prop
structure Env0 (P:Program) (w:World) (K:PySem.W.Frag) (mg:Str→Option Value) (base:Heap) (A:Around) (outer:List Env) (s:Shared) (H:Hp):Prop where
 frames:A.frames=some outer
 mod:Mod K mg base
 bs:∀ b o,base.get? b=some o→s.heap.get? b=some o∧H b=none
 bsz:base.objs.size≤s.heap.objs.size
 funs:s.heap.FunFrames base outer
 frf:∀ b∈frs outer,H b=none
 hok:HOk P w H s.heap
 bare:AllBare s.gens
def CE (outer:List Env) (P:Program) (w:World) (H:Hp) (s:Shared) (Q:VK) (u:Value) (s':Shared):Prop :=
 ∃ v H',s'.os=s.os∧AllBare s'.gens∧Un (frs outer) [] H H' s.heap s'.heap∧HOk P w H' s'.heap∧RelV v u∧Q v H'
def CR (CX:CXT) (outer:List Env) (P:Program) (w:World) (H:Hp) (s:Shared) (Q:VK) (E:XK) (r:Result) (s':Shared):Prop :=
 match r with
 |.ok (.ret u)=>CE outer P w H s Q u s'
 |.ok _=>False
 |.error e=>CX outer H s E e s'
structure FnOk (P:Program) (w:World) (K:PySem.W.Frag) (mg:Str→Option Value) (base:Heap) (CX:CXT) (k:Nat) (f:Addr) (fd:FuncData) (ps:List Str) (sp:Sp):Prop where
 len:∀ vs H Q E,sp vs H Q E→vs.length=ps.length
 run:∀ (A:Around) (outer:List Env) (s:Shared) (H:Hp) (args:Args) (us:List Value) (vs:List V) (Q:VK) (E:XK),Room k A→Env0 P w K mg base A outer s H→BindsTo s fd args (ps.zip us)→Vals vs us→sp vs H Q E →
  codeAny (model P w) A (.call (.ref f) args) (CR CX outer P w H s Q E) s
theorem Env0.make {P:Program}{w:World}{K:PySem.W.Frag}{mg:Str→Option Value}{base:Heap}{A:Around}{outer:List Env}{s:Shared}{H:Hp}(e:Env0 P w K mg base A outer s H) (C:Addr) (us:List Value) (kw:List (Str×Value)) :
  Env0 P w K mg base (A.under (.builtin "type.__call__" ⟨.ref C::us,kw⟩)) outer s H:=⟨by first | exact e.frames | (simpa[Around.under,Code.envs,Code.isFrame,pushEnvs] using e.frames),e.mod,e.bs,e.bsz,e.funs,e.frf,e.hok,e.bare⟩
section
variable {X:Cx}{pins:List (Addr×Obj)}{σ:St}{H:Hp}{s s':Shared}
theorem Inv.env0 (I:Inv X pins σ H s):Env0 X.prog X.w X.K X.mg X.base X.A X.stack s H :=
 ⟨I.ok.frames,I.ok.mod,I.bs,Nat.le_trans I.ok.bsz I.sz,I.stack,I.stkFree,I.hok,I.bare⟩
theorem Inv.after {Q:VK}{u:Value}(I:Inv X pins σ H s) (h:CE X.stack X.prog X.w H s Q u s'):EP X pins σ Q u s':=by
 obtain⟨v,H',os,bare,un,hok,r,q⟩:=h
 obtain⟨hh,g,d,t,os'⟩:=s'
 obtain rfl:os'=s.os:=os
 exact⟨v,H',I.call (h':=hh) (g':=g) (d':=d) (t':=t) (ch:=[]) un hok bare (fun b z=>absurd z (by simp)),r,q⟩
end
def WH (sp:Sp) (dvs:List V) (E:XK) (t:TA):TE:=fun σ H Q=>t σ H fun vs H1=>sp (vs++dvs) H1 Q E
def V1 (C:Addr) (m:Str) (sp:Sp) (dvs:List V) (E:XK) (ta:TE) (t:TA):TE:=fun σ H Q=>ta σ H fun x H1=>∃ a dx fs,x=.ref a∧H1 a=some (.ins C dx fs)∧fs.lookup m=none ∧
 t σ H1 fun vs H2=>sp (x::(vs++dvs)) H2 Q E
def WF (C:Addr) (sp:Sp) (dvs:List V) (E:XK) (t:TA):TE:=fun σ H Q=>t σ H fun vs H1=>∀ x dx,H1 x=none→H1 dx=none→dx≠x →
 sp (.ref x::(vs++dvs)) (upd (upd H1 dx (.own x)) x (.ins C dx [])) (fun v H2=>v=.non∧Q (.ref x) H2) E
def Binds (K:PySem.W.Frag) (fd:FuncData) (ps:List Str) (ds:List Value):Prop :=
 ∀ (s:Shared) (us:List Value),K.In s.heap→(us++ds).length=ps.length→BindsTo s fd ⟨us,[]⟩ (ps.zip (us++ds))
theorem Binds.all {K:PySem.W.Frag}{fd:FuncData}{ps:List Str}(h:∀ us:List Value,us.length=ps.length→bindArgs fd ⟨us,[]⟩=pure (ps.zip us)):Binds K fd ps []:=fun s us _ hl=>by
 rw[List.append_nil] at hl ⊢
 exact .of_eq (h us hl)
def xV (CX:CXT) (X:Cx) (E:XK):Prop:=∀ (pins:List (Addr×Obj)) (σ:St) (H:Hp) (s:Shared) (e:Value) (s':Shared),Inv X pins σ H s→CX X.stack H s E e s'→X.xe e s'
section
variable {X:Cx}{CX:CXT}{k:Nat}{f C:Addr}{fd:FuncData}{ps:List Str}{sp:Sp}{dvs:List V}{ds:List Value}{E:XK}{x m:Str}{p pos apos:Pos}{e o:Expr}{es:List Expr}{ta:TE}{t:TA}
theorem ud {pins:List (Addr×Obj)}{σ:St}{H:Hp}{s:Shared}{Q:VK}{us:List Value}{vs:List V}(F:FnOk X.prog X.w X.K X.mg X.base CX k f fd ps sp) (hr:Room k X.A) (hb:Binds X.K fd ps ds) (hd:Vals dvs ds) (hx:xV CX X E)
  (I:Inv X pins σ H s) (r:Vals vs us) (h:sp (vs++dvs) H Q E):wpAny (model X.prog X.w) X.A (call (.ref f) us) (EP X pins σ Q) X.xe s:=by
 have r2:Vals (vs++dvs) (us++ds):=r.append hd
 have hl:(us++ds).length=ps.length:=by rw[← r2.length];exact F.len _ _ _ _ h
 refine wpAny_call (codeAny_mono (F.run X.A X.stack s H ⟨us,[]⟩ (us++ds) (vs++dvs) Q E hr I.env0 (hb s us I.kIn hl) r2 h) fun r s' hq=>?_)
 cases r with
 |error e=>exact hx pins σ H s e s' I hq
 |ok fl =>
  cases fl with
  |ret u=>exact I.after hq
  |next=>exact False.elim hq
  |brk=>exact False.elim hq
  |cont=>exact False.elim hq
theorem Vb (F:FnOk X.prog X.w X.K X.mg X.base CX k f fd ps sp) (hr:Room k X.A) (hg:Gl X x) (hm:X.mg x=some (.ref f)) (hk:PySem.W.keepIn X.K (.ref f)=true) (hb:Binds X.K fd ps ds) (hd:Vals dvs ds) (hx:xV CX X E)
  (ha:PA X (e::es) t) (hdb:(x == ("__debug__" : Str))=false:=by decide) (he:starEach (e::es) X.env=(false,eval e X.env)::starEach es X.env:=by rfl) (hpl:(backTo pos (starEach es X.env)).any (·.1)=false:=by rfl) :
  PE X (.Call (.Name x p) (e::es) [] pos) (WH sp dvs E t):=by
 intro pins s σ H Q I h
 refine wpAny_Call_Name_kw (ld_glob I hg hm ?_ hdb)
 refine PySem.W.callWith_K (h₀:=X.base) I.ok.mod.kin hk (thn (ha pos pins s σ H _ I h) fun us s1 ⟨vs,H1,I1,r,q⟩=>⟨I1.kIn,?_⟩) he hpl
 exact ud F hr hb hd hx I1 r q
theorem WZ {pl:Sem Bool}(he:PE X o ta) (c:Cls X.K C) (hm:Meth X.K C m f) (F:FnOk X.prog X.w X.K X.mg X.base CX k f fd ps sp) (hr:Room k X.A) (hb:Binds X.K fd ps ds) (hd:Vals dvs ds) (hx:xV CX X E) (ha:PA X (e::es) t)
  (hst:starEach (e::es) X.env=(false,eval e X.env)::starEach es X.env:=by rfl) (hpl:(backTo pos (starEach es X.env)).any (·.1)=false:=by rfl)
  (ht:eval (.Call (.Attribute o m apos) (e::es) [] pos) X.env=(do
   let ov ← eval o X.env
   standAt apos.atName
   let (f,first) ← holding [ov] (getMethod ov m pl)
   callWith pos f first (backTo pos (starEach (e::es) X.env)) (backToKw pos (keywordEach [] X.env))):=by rfl) :
  PE X (.Call (.Attribute o m apos) (e::es) [] pos) (V1 C m sp dvs E ta t):=by
 intro pins s σ H Q I h
 refine PySem.W.methodCall_KW (pl:=pl) (thn (he pins s σ H _ I h) fun u s1 hq0=>?_) ht
 obtain⟨x,H1,I1,rx,a,dx,fs,ex,ea,l,q⟩:=hq0
 subst ex
 obtain rfl:u=Value.ref a:=rx
 refine yF I1 ea c hm l ?_
 refine PySem.W.callWith_K (first:=[.ref a]) (h₀:=X.base) I.ok.mod.kin hm.kp (thn (ha pos pins s1 σ H1 _ I1 q) fun us s2 ⟨vs,H2,I2,r,q2⟩=>⟨I2.kIn,?_⟩) hst hpl
 exact ud (us:=.ref a::us) (vs:=.ref a::vs) F hr hb hd hx I2 (.cons rfl r) q2
structure Mk (K:PySem.W.Frag) (C f:Addr):Prop where
 makes:PySem.W.makesIn K C=true
 init:PySem.W.findIn K (.ref C) "__init__" = some (some (.ref f))
 fn:PySem.W.isFn K (.ref f)=true
 kp:PySem.W.keepIn K (.ref C)=true
theorem Y9 {pins:List (Addr×Obj)}{σ:St}{H:Hp}{s:Shared}{Q:VK}{us:List Value}{vs:List V}(M:Mk X.K C f) (F:FnOk X.prog X.w X.K X.mg X.base CX k f fd ps sp) (hr:Room (k+1) X.A) (hb:Binds X.K fd ps ds) (hd:Vals dvs ds)
  (hx:xV CX X E) (I:Inv X pins σ H s) (r:Vals vs us)
  (h:∀ x dx,H x=none→H dx=none→dx≠x→sp (.ref x::(vs++dvs)) (upd (upd H dx (.own x)) x (.ins C dx [])) (fun v H2=>v=.non∧Q (.ref x) H2) E) :
  wpAny (model X.prog X.w) X.A (call (.ref C) us) (EP X pins σ Q) X.xe s:=by
 have hq:=h (s.heap.objs.size+1) s.heap.objs.size (I.hok.fresh (Nat.le_succ _)) (I.hok.fresh (Nat.le_refl _)) (Nat.ne_of_lt (Nat.lt_succ_self _))
 have I2:=Inv.made (C:=C) I
 have r2:Vals (V.ref (s.heap.objs.size+1)::(vs++dvs)) (Value.ref (s.heap.objs.size+1)::(us++ds)):=.cons rfl (r.append hd)
 have hl:(Value.ref (s.heap.objs.size+1)::us++ds).length=ps.length:=by
  have e:=r2.length
  rw[F.len _ _ _ _ hq] at e
  exact e.symm
 refine wpAny_call (Xx (f:=f) I.kIn M.makes M.init (beq_iff_eq.mp M.fn) (codeAny_mono (F.run _ X.stack _ _ ⟨Value.ref (s.heap.objs.size+1)::us,[]⟩ (Value.ref (s.heap.objs.size+1)::(us++ds)) _ _ E (hr.make C us [])
  (I2.env0.make C us []) (hb _ (Value.ref (s.heap.objs.size+1)::us) I2.kIn hl) r2 hq) fun r s' hq'=>?_))
 cases r with
 |error e=>exact hx pins σ _ _ e s' I2 hq'
 |ok fl =>
  cases fl with
  |ret u =>
   obtain⟨v,H',I3,rv,ev,q3⟩:=I2.after hq'
   subst ev
   exact⟨rv,⟨V.ref (s.heap.objs.size+1),H',I3,rfl,q3⟩⟩
  |next=>exact False.elim hq'
  |brk=>exact False.elim hq'
  |cont=>exact False.elim hq'
theorem W0 (M:Mk X.K C f) (F:FnOk X.prog X.w X.K X.mg X.base CX k f fd ps sp) (hr:Room (k+1) X.A) (hg:Gl X x) (hm:X.mg x=some (.ref C)) (hb:Binds X.K fd ps ds) (hd:Vals dvs ds) (hx:xV CX X E)
  (ha:PA X (e::es) t) (hdb:(x == ("__debug__" : Str))=false:=by decide) (he:starEach (e::es) X.env=(false,eval e X.env)::starEach es X.env:=by rfl) (hpl:(backTo pos (starEach es X.env)).any (·.1)=false:=by rfl) :
  PE X (.Call (.Name x p) (e::es) [] pos) (WF C sp dvs E t):=by
 intro pins s σ H Q I h
 refine wpAny_Call_Name_kw (ld_glob I hg hm ?_ hdb)
 refine PySem.W.callWith_K (h₀:=X.base) I.ok.mod.kin M.kp (thn (ha pos pins s σ H _ I h) fun us s1 ⟨vs,H1,I1,r,q⟩=>⟨I1.kIn,?_⟩) he hpl
 exact Y9 M F hr hb hd hx I1 r q
end
structure FnScope (N P:List Str) (sc:Scope):Prop where
 kind:sc.kind=.function
 co:sc.isCoroutine=false
 gen:sc.isGenerator=false
 nd:N.Nodup
 pre:N.take P.length=P
 par:∀ x∈P,sc.names.lookup x=some .local∨sc.names.lookup x=some .cell
 nofree:∀ y∈sc.names,y.2≠.free
theorem vo {kindOf:Str→Option NameKind}{x:Str}:∀ {binds:List (Str×Value)}{m:Str→Option Value},(∀ v,(x,v)∉binds)→bindL kindOf binds m x=m x
 |[],_,_=>rfl
 |(n,v)::r,m,h=>by
  unfold bindL
  rw[vo fun w hw=>h w (List.mem_cons_of_mem _ hw)]
  split
  ·have:x≠n:=by rintro rfl;exact h v List.mem_cons_self
   simp[this]
  ·rfl
theorem bindC_out {kindOf:Str→Option NameKind}{x:Str}:∀ {binds:List (Str×Value)}{m:Str→Option Value},(∀ v,(x,v)∉binds)→bindC kindOf binds m x=m x
 |[],_,_=>rfl
 |(n,v)::r,m,h=>by
  unfold bindC
  rw[bindC_out fun w hw=>h w (List.mem_cons_of_mem _ hw)]
  split
  ·rfl
  ·have:x≠n:=by rintro rfl;exact h v List.mem_cons_self
   simp[this]
theorem bindL_get {kindOf:Str→Option NameKind}{x:Str}{v:Value}:∀ {P:List Str}{vs:List Value}{i:Nat}{m:Str→Option Value},P.Nodup→P[i]?=some x→vs[i]?=some v→kindOf x=some .local →
  bindL kindOf (P.zip vs) m x=some v
 |[],_,_,_,_,h,_,_=>by simp at h
 |_::_,[],_,_,_,_,h,_=>by simp at h
 |p::P,w::vs,0,m,nd,h1,h2,hk=>by
  simp at h1 h2;subst h1;subst h2
  show bindL kindOf ((p,w)::P.zip vs) m p=_
  unfold bindL
  rw[vo fun v hv=>(List.nodup_cons.mp nd).1 (List.of_mem_zip hv).1,if_pos hk]
  simp
 |p::P,w::vs,i+1,m,nd,h1,h2,hk=>by
  show bindL kindOf ((p,w)::P.zip vs) m x=_
  unfold bindL
  exact bindL_get (i:=i) (List.nodup_cons.mp nd).2 (by simpa using h1) (by simpa using h2) hk
theorem vp {kindOf:Str→Option NameKind}{x:Str}{v:Value}:∀ {P:List Str}{vs:List Value}{i:Nat}{m:Str→Option Value},P.Nodup→P[i]?=some x→vs[i]?=some v→kindOf x≠some .local →
  bindC kindOf (P.zip vs) m x=some v
 |[],_,_,_,_,h,_,_=>by simp at h
 |_::_,[],_,_,_,_,h,_=>by simp at h
 |p::P,w::vs,0,m,nd,h1,h2,hk=>by
  simp at h1 h2;subst h1;subst h2
  show bindC kindOf ((p,w)::P.zip vs) m p=_
  unfold bindC
  rw[bindC_out fun v hv=>(List.nodup_cons.mp nd).1 (List.of_mem_zip hv).1,if_neg hk]
  simp
 |p::P,w::vs,i+1,m,nd,h1,h2,hk=>by
  show bindC kindOf ((p,w)::P.zip vs) m x=_
  unfold bindC
  exact vp (i:=i) (List.nodup_cons.mp nd).2 (by simpa using h1) (by simpa using h2) hk
noncomputable def start (N:List Str) (vs:List V):St:=vs.map some++List.replicate (N.length-vs.length) none
noncomputable def VJ (CX:CXT) (P:Program) (w:World) (K:PySem.W.Frag) (mg:Str→Option Value) (base:Heap) (N:List Str) (qual:Str) (scope:Scope) (f:Addr) (cd:Value) (A:Around) (outer:List Env) (s:Shared) (H:Hp) (E:XK):Cx where
 prog:=P
 w:=w
 K:=K
 mg:=mg
 base:=base
 A:=A.deeper (envOfC qual scope s.heap.objs.size f cd)
 N:=N
 s₀:=s
 H₀:=H
 env:=envOfC qual scope s.heap.objs.size f cd
 outer:=outer
 stack:=envOfC qual scope s.heap.objs.size f cd::outer
 ex:=[]
 calm:=true
 fn:=fun _=>true
 pn:=[]
 xe:=fun e s'=>wpAny (model P w) (A.deeper (envOfC qual scope s.heap.objs.size f cd)) (leaving (envOfC qual scope s.heap.objs.size f cd) e) (fun _ s''=>CX outer H s E e s'') (fun e' s''=>CX outer H s E e' s'') s'
theorem ut {sc:Scope}{n:Nat}{x:Str}(h:sc.names.lookup x=some .cell):∃ c,(cellsFrom n sc.names []).lookup x=some c:=by
 have q:=PySem.W.cellsFrom_some sc.names n [] (.inl h)
 exact Option.isSome_iff_exists.mp q
theorem Ys {CX:CXT}{P:Program}{w:World}{K:PySem.W.Frag}{mg:Str→Option Value}{base:Heap}{N ps:List Str}{qual:Str}{scope:Scope}{f:Addr}{cd:Value}{A:Around}{outer:List Env}{s s1:Shared}{H:Hp}{E:XK}{us:List Value}{vs:List V}
  (S:FnScope N ps scope) (hd:A.handled=none) (e0:Env0 P w K mg base A outer s H) (hl:vs.length=ps.length) (r:Vals vs us)
  (x:InCallC s s.heap.objs.size (bindL (envOfC qual scope s.heap.objs.size f cd).kindOf (ps.zip us) fun _=>none) (cellsFrom (s.heap.objs.size+1) scope.names []) (bindC (envOfC qual scope s.heap.objs.size f cd).kindOf (ps.zip us) fun _=>none) s1) :
  Inv (VJ CX P w K mg base N qual scope f cd A outer s H E) [] (start N vs) H s1:=by
 have hpl:ps.length≤N.length:=by have:=congrArg List.length S.pre;rw[List.length_take] at this;omega
 obtain⟨h1,tk,rfl,hk⟩:=x.done
 have noA:∀ b:Addr,b∉(VJ CX P w K mg base N qual scope f cd A outer s H E).ex:=fun b z=>absurd (show b∈([]:List Addr) from z) (by simp)
 refine⟨⟨e0.mod,S.kind,rfl,rfl,Nat.le_refl _,fun y z c h1 h2=>?_,fun y hy=>?_,fun y c _ h=>?_,fun _=>hd,Around.frames_deeper e0.frames,.inr ⟨rfl,rfl⟩,fun b z=>absurd z (noA b),e0.bs,e0.bsz,fun b _ _=>noA b,fun b z=>absurd z (noA b),e0.funs,e0.frf⟩,
  rfl,e0.bare,Un.kept hk,⟨_,x.toInCall.ns,fun i y v h1 h2 h3=>?_⟩,fun y c h=>⟨_,x.cell y c h⟩,e0.hok.fresh (Nat.le_refl _),fun y c h=>?_,fun p hp=>absurd (show p∈([]:List (Addr×Obj)) from hp) (by simp),e0.hok.kept hk,?_⟩
 ·exact name_of_addr x.apart (PySem.mem_of_lookup h1) (PySem.mem_of_lookup h2)
 ·have hy:scope.names.lookup y=some .cell∨scope.names.lookup y=some .free:=hy
  rcases hy with hy | hy
  ·exact ut hy
  ·exact absurd rfl (S.nofree _ (PySem.mem_of_lookup hy))
 ·exact Nat.le_of_lt (x.above y c (PySem.mem_of_lookup h))
 ·have hi:i<vs.length:=by
   unfold start at h2
   by_cases hi:i<vs.length
   ·exact hi
   ·rw[List.getElem?_append_right (by simpa using hi)] at h2
    rw[List.getElem?_replicate] at h2
    split at h2<;>cases h2
  have ha:vs[i]?=some v:=by
   unfold start at h2
   rw[List.getElem?_append_left (by simpa using hi),List.getElem?_map] at h2
   cases e:vs[i]? with
   |none=>rw[e] at h2;cases h2
   |some a=>rw[e] at h2;cases h2;rfl
  obtain⟨u,hu,rv⟩:=r.get ha
  have hp:ps[i]?=some y:=by
   rw[← S.pre,List.getElem?_take_of_lt (by omega)];exact h1
  have ndP:ps.Nodup:=by rw[← S.pre];exact S.nd.sublist (List.take_sublist _ _)
  refine⟨u,rv,?_⟩
  rcases S.par y (List.mem_of_getElem? hp) with k | k
  ·exact .inl ⟨k,bindL_get ndP hp hu k⟩
  ·obtain⟨c,e⟩:=ut (n:=s.heap.objs.size+1) k
   refine .inr ⟨.inl k,c,e,?_⟩
   have q:=x.cell y c e
   rw[vp ndP hp hu (by show scope.names.lookup y≠_;rw[k];decide)] at q
   exact q
 ·exact e0.hok.fresh (Nat.le_of_lt (x.above y c (PySem.mem_of_lookup h)))
 ·unfold start
  show _=N.length
  rw[List.length_append,List.length_map,List.length_replicate]
  omega
theorem zeo {CX:CXT}{P:Program}{w:World}{K:PySem.W.Frag}{mg:Str→Option Value}{base:Heap}{k:Nat}{f:Addr}{name qual:Str}{params:Arguments}{body:List Stmt}{scope:Scope}{dV kV doc pm cdv ct oc:Value}{an od:Option Addr}
  {osl:Array (Option Value)}{N ps:List Str}{sp:Sp}(lk:K.lookup f=some ⟨oc,od,.func (PySem.W.fnOf name qual params body scope dV kV doc pm an cdv ct),osl⟩) (hcd:PySem.W.codeIn K cdv qual=true) (S:FnScope N ps scope)
  (len:∀ vs H Q E,sp vs H Q E→vs.length=ps.length)
  (hbody:∀ (A:Around) (outer:List Env) (s:Shared) (H:Hp) (vs:List V) (Q:VK) (E:XK),Room k (A.deeper (envOfC qual scope s.heap.objs.size f cdv))→sp vs H Q E →
   ∃ t,PSs (VJ CX P w K mg base N qual scope f cdv A outer s H E) body t∧t { nx:=fun _ H'=>Q .non H',rt:=Q } (start N vs) H) :
  FnOk P w K mg base CX (k+1) f (PySem.W.fnOf name qual params body scope dV kV doc pm an cdv ct) ps sp:=by
 refine⟨len,fun A outer s H args us vs Q E hr e0 hb r hsp=>?_⟩
 have hl:=len _ _ _ _ hsp
 have KX:K.In s.heap:=e0.mod.kin.keeps fun b o e=>(e0.bs b o e).1
 have lim:s.heap.NoLimit:=e0.mod.nolimit.keeps fun b o e=>(e0.bs b o e).1
 have hkind:∀ y∈ps.zip us,scope.names.lookup y.1=some .local∨(scope.names.lookup y.1=some .cell∧((cellsFrom (s.heap.objs.size+1) scope.names []).lookup y.1).isSome=true):=fun⟨n,v⟩ hy=>by
  rcases S.par n (List.of_mem_zip hy).1 with q | q
  ·exact .inl q
  ·exact .inr ⟨q,PySem.W.cellsFrom_some _ _ _ (.inl q)⟩
 refine codeAny_call_function hr.depth (KX _ _ lk) rfl S.co S.gen rfl (PySem.W.codeRec_of KX hcd) (hb _ _ _ _ ?_)
 refine wpAny_newFunctionEnv_cells S.kind hkind fun env he s1 x=>?_
 subst he
 refine⟨lim.keeps x.toInCall.keep,codeAny_func ?_⟩
 obtain⟨t,ht,hq⟩:=hbody A outer s H vs Q E (hr.deeper _) hsp
 have I:Inv (VJ CX P w K mg base N qual scope f cdv A outer s H E) [] (start N vs) H s1:=Ys S hr.hd e0 hl r x
 refine wpAny_mono (ht [] s1 (start N vs) H _ I hq) (fun fl s' hs=>?_) fun e s' hs=>hs
 have fin:∀ {σ':St}{H':Hp}{v:V}{u:Value},Inv (VJ CX P w K mg base N qual scope f cdv A outer s H E) [] σ' H' s'→RelV v u→Q v H'→CE outer P w H s Q u s' :=
  fun {σ' H' v u} J rv q=>⟨v,H',J.os,J.bare,J.base,J.hok,rv,q⟩
 cases fl with
 |ret u =>
  obtain⟨v,σ',H',J,rv,q⟩:=hs
  exact fin J rv q
 |next =>
  obtain⟨σ',H',J,q⟩:=hs
  exact fin (v:=V.non) (u:=Value.none) J rfl q
 |brk =>
  obtain⟨_,_,_,q⟩:=hs
  exact False.elim q
 |cont =>
  obtain⟨_,_,_,q⟩:=hs
  exact False.elim q
section
variable {X:Cx}{x:Str}{p pos:Pos}{e:Expr}{es:List Expr}{t:TA}{id T:String}{r:List V→Hp→VK→Prop}
def tCB (r:List V→Hp→VK→Prop) (t:TA):TE:=fun σ H Q=>t σ H fun vs H1=>r vs H1 Q
theorem zW (hc:xb X (.builtin id) r) (hg:Gl X x) (hm:X.mg x=none) (hv:bootBuiltins x=some (.builtin id)) (ha:PA X (e::es) t) (hn:x ≠ "__name__" := by decide) (hdb:(x == ("__debug__" : Str))=false:=by decide)
  (he:starEach (e::es) X.env=(false,eval e X.env)::starEach es X.env:=by rfl) (hpl:(backTo pos (starEach es X.env)).any (·.1)=false:=by rfl):PE X (.Call (.Name x p) (e::es) [] pos) (tCB r t):=by
 intro pins s σ H Q I h
 refine wpAny_Call_Name_kw (ld_blt I hg hm hv ?_ hn hdb)
 exact PyProof.Rows.callWith_builtin1 (thn (ha pos pins s σ H _ I h) fun us s1 ⟨vs,H1,I1,r1,q1⟩=>hc pins s1 σ H1 vs us Q I1 r1 q1) he hpl
theorem vb (hc:xb X (.type T) r) (hg:Gl X x) (hm:X.mg x=none) (hv:bootBuiltins x=some (.type T)) (ha:PA X (e::es) t) (hn:x ≠ "__name__" := by decide) (hdb:(x == ("__debug__" : Str))=false:=by decide)
  (he:starEach (e::es) X.env=(false,eval e X.env)::starEach es X.env:=by rfl) (hpl:(backTo pos (starEach es X.env)).any (·.1)=false:=by rfl):PE X (.Call (.Name x p) (e::es) [] pos) (tCB r t):=by
 intro pins s σ H Q I h
 refine wpAny_Call_Name_kw (ld_blt I hg hm hv ?_ hn hdb)
 exact PyProof.Rows.callWith_type1 (thn (ha pos pins s σ H _ I h) fun us s1 ⟨vs,H1,I1,r1,q1⟩=>hc pins s1 σ H1 vs us Q I1 r1 q1) he hpl
end
end L2
namespace HT
open PySem PyProof.Rows
section
variable {prog:Program}{w:World}{A:Around}{E:Value→Shared→Prop}{s:Shared}
noncomputable def sIx (n d:Nat):Option Int→Nat
 |none=>d
 |some v=>if v<0 then(v+(n:Int)).toNat else min v.toNat n
end
end HT
namespace L2
open PySem PySem.Spec PyProof.Rows
abbrev TO:=St→Hp→(Option Int→Hp→Prop)→Prop
def PO (X:Cx) (e:Option Expr) (t:TO):Prop :=
 ∀ (pins:List (Addr×Obj)) (s:Shared) (σ:St) (H:Hp) (Q:Option Int→Hp→Prop),Inv X pins σ H s→t σ H Q →
  wpAny (model X.prog X.w) X.A (evalPart e X.env) (fun u s'=>∃ o H',Inv X pins σ H' s'∧IsPart u o∧Q o H') X.xe s
def Zj:TO:=fun _ H Q=>Q none H
def VY (t:TE):TO:=fun σ H Q=>t σ H fun x H1=>∃ i,x=.int i∧Q (some i) H1
section
variable {X:Cx}{e:Expr}{te:TE}{lo hi:Option Expr}{tl th:TO}{pos p2:Pos}
theorem WW:PO X none Zj:=by
 intro pins s σ H Q I h
 rw[evalPart_none]
 exact wpAny_pure ⟨none,H,I,.none,h⟩
theorem po_some (h:PE X e te):PO X (some e) (VY te):=by
 intro pins s σ H Q I hw
 rw[evalPart_some]
 refine thn (h pins s σ H _ I hw) fun u s1 hq0=>?_
 obtain⟨x,H1,I1,r1,q1⟩:=hq0
 obtain⟨i,rfl,q⟩:=q1
 obtain⟨t,rfl⟩:=r1
 exact⟨some i,H1,I1,.int i t,q⟩
def SlR (X:Cx) (r:V→Option Int→Option Int→Hp→VK→Prop):Prop :=
 ∀ (pins:List (Addr×Obj)) (s:Shared) (σ:St) (H:Hp) (x:V) (v vl vu:Value) (lo hi:Option Int) (sl:Addr) (Q:VK),Inv X pins σ H s→RelV x v→s.heap.IsSliceOf sl vl vu .none→IsPart vl lo→IsPart vu hi→r x lo hi H Q →
  ∃ T id,typeLookup (.type T) "__getitem__" = pure (some (.builtin id))∧s.TypeIs v T∧wpAny (model X.prog X.w) X.A (getItem v (.ref sl)) (EP X pins σ Q) X.xe s
def tSl (r:V→Option Int→Option Int→Hp→VK→Prop) (te:TE) (tl th:TO):TE:=fun σ H Q=>te σ H fun x H1=>tl σ H1 fun l H2=>th σ H2 fun u H3=>r x l u H3 Q
theorem Xf {r:V→Option Int→Option Int→Hp→VK→Prop}(hr:SlR X r) (he:PE X e te) (hl:PO X lo tl) (hu:PO X hi th):PE X (.Subscript e (.Slice lo hi none p2) pos) (tSl r te tl th):=by
 intro pins s σ H Q I h
 refine Subscript_ (thn (he pins s σ H _ I h) fun v s1 hq0=>?_)
 obtain⟨x,H1,I1,r1,q1⟩:=hq0
 refine wpAny_Slice (thn (hl pins s1 σ H1 _ I1 q1) fun vl s2 ⟨l,H2,I2,pl,q2⟩=>thn (hu pins s2 σ H2 _ I2 q2) fun vu s3 hq0=>?_)
 obtain⟨u,H3,I3,pu,q3⟩:=hq0
 rw[evalPart_none]
 refine wpAny_pure ?_
 have I4:Inv X pins σ H3 { s3 with heap:=s3.heap.push { cls:=.type "slice",data:=.fields #[vl,vu,.none] } }:=I3.kept (t':=s3.toks) fun b ob q=>Heap.get?_push_of_some _ q
 obtain⟨T,id,hT,ht,hg⟩:=hr pins { s3 with heap:=s3.heap.push { cls:=.type "slice",data:=.fields #[vl,vu,.none] } } σ H3 x v vl vu l u s3.heap.objs.size Q I4 r1 (Heap.IsSliceOf.new ..) pl pu q3
 show wpAny (model X.prog X.w) X.A (subscriptTail e (.Slice lo hi none p2) v (.ref s3.heap.objs.size)) (EP X pins σ Q) X.xe { s3 with heap:=s3.heap.push { cls:=.type "slice",data:=.fields #[vl,vu,.none] } }
 exact tail_any (ops:=[.ref s3.heap.objs.size,v]) ht hT hg (by with_unfolding_all rfl)
def wN (xs:List V) (lo hi:Option Int):List V:=(xs.drop (HT.sIx xs.length 0 lo)).take (HT.sIx xs.length xs.length hi-HT.sIx xs.length 0 lo)
theorem yp (xs:List V) (lo hi:Option Int):(wN xs lo hi).length≤xs.length:=by
 unfold wN
 rw[List.length_take,List.length_drop]
 omega
end
noncomputable def ixN (n:Nat) (i:Int):Option Nat:=if 0≤i then(if i<n then some i.toNat else none) else if -(n:Int)≤i then some (i+n).toNat else none
def atI {α:Type}(xs:List α) (i:Int):Option α:=(ixN xs.length i).bind fun j=>xs[j]?
theorem Vx {n:Nat}{i:Int}{j:Nat}(h:ixN n i=some j):seqIndex? i n=some j∧j<n∧-(n:Int)≤i∧i<n:=by
 unfold ixN at h
 by_cases h0:0≤i
 ·rw[if_pos h0] at h
  by_cases h1:i<n
  ·rw[if_pos h1] at h
   have e:i.toNat=j:=Option.some.inj h
   exact⟨by rw[seqIndex_of h0 h1,e],by omega,by omega,h1⟩
  ·rw[if_neg h1] at h;cases h
 ·rw[if_neg h0] at h
  by_cases h1 : -(n:Int)≤i
  ·rw[if_pos h1] at h
   have e:(i+n).toNat=j:=Option.some.inj h
   exact⟨by rw[seqIndex_neg (by omega) h1,e],by omega,h1,by omega⟩
  ·rw[if_neg h1] at h;cases h
theorem YQ {α:Type}{xs:List α}{i:Int}{v:α}(h:atI xs i=some v):∃ j,seqIndex? i xs.length=some j∧xs[j]?=some v∧j<xs.length∧-(xs.length:Int)≤i∧i<xs.length:=by
 unfold atI at h
 cases e:ixN xs.length i with
 |none=>rw[e] at h;cases h
 |some j =>
  rw[e] at h
  obtain⟨h1,h2,h3,h4⟩:=Vx e
  exact⟨j,h1,h,h2,h3,h4⟩
theorem vW {α:Type}{xs:List α}{j:Nat}{v:α}(h:xs[j]?=some v):atI xs (j:Int)=some v:=by
 have hj:j<xs.length:=(List.getElem?_eq_some_iff.mp h).1
 have e:ixN xs.length (j:Int)=some j:=by
  unfold ixN
  rw[if_pos (by omega),if_pos (by omega)];simp
 unfold atI;rw[e];exact h
def YU (b:Expr):Prop:=∀ o i,subscripted b false o i=operate [o,i] (getItem o i)
def IxR (X:Cx) (r:R2):Prop :=
 ∀ (value slice:Expr) (pins:List (Addr×Obj)) (s:Shared) (σ:St) (H:Hp) (x y:V) (v u:Value) (Q:VK),Inv X pins σ H s→RelV x v→RelV y u→r x y H Q →
  subscripted slice false v u=operate [v,u] (getItem v u)→wpAny (model X.prog X.w) X.A (subscriptTail value slice v u) (EP X pins σ Q) X.xe s
def MtR (X:Cx) (id:String) (r:V→List V→Hp→VK→Prop):Prop :=
 ∀ (pins:List (Addr×Obj)) (s:Shared) (σ:St) (H:Hp) (x:V) (xs:List V) (v:Value) (us:List Value) (Q:VK),Inv X pins σ H s→RelV x v→Vals xs us→r x xs H Q →
  wpAny (model X.prog X.w) X.A (call (.builtin id) (v::us)) (EP X pins σ Q) X.xe s
section
variable {X:Cx}{a b:Expr}{ta tb:TE}{pos:Pos}
theorem vC {r:R2}(hr:IxR X r) (ha:PE X a ta) (hb:PE X b tb) (hs:YU b):PE X (.Subscript a b pos) (tOp r ta tb):=by
 intro pins s σ H Q I h
 exact Subscript_ (binT ha hb I h fun v u s2 x y H2 I2 rx ry q=>hr a b pins s2 σ H2 x y v u Q I2 rx ry q (hs _ _))
def ziJ (K:PySem.W.Frag):R2:=fun x y H Q=>∃ p xs i v,x=.ref p∧y=.int i∧SqL K H p xs∧atI xs i=some v∧Q v H
def ziI (K:PySem.W.Frag):R2:=fun x y H Q=>∃ p xs i v,x=.ref p∧y=.int i∧SqT K H p xs∧atI xs i=some v∧Q v H
theorem z8:IxR X (ziJ X.K):=by
 intro value slice pins s σ H x y v u Q I rx ry h hs
 obtain⟨p,xs,i,z,rfl,rfl,hq,he,q⟩:=h
 cases rx
 obtain⟨t,rfl⟩:=ry
 obtain⟨its,r,pl,hz⟩:=I.list hq
 obtain⟨j,h1,h2,h3,h4,h5⟩:=YQ he
 obtain⟨w,ew,rw'⟩:=r.get h2
 have hl:=r.length
 have hn:=uo
 have fin:EP X pins σ Q w s:=⟨z,H,I,rw',q⟩
 by_cases h0:0≤i
 ·have hj:i.toNat=j:=by
   rw[seqIndex_of h0 h5] at h1
   exact Option.some.inj h1
  exact item_listR pl.isList h0 (by omega) (by rw[hj];simpa using ew) fin hs
 ·have hj:(i+(its.toArray.size:Int)).toNat=j:=by
   rw[seqIndex_neg (by omega) h4] at h1
   rw[List.size_toArray,← hl]
   exact Option.some.inj h1
  exact subscriptTail_builtinR (x:=w) pl.isList.typeIs slot_list_getitem.lookup
   (wpAny_getItem_list_neg (Q:=fun r s'=>r=w∧EP X pins σ Q r s') pl.isList (by omega) (by rw[List.size_toArray]<;>omega) (by omega) (by rw[hj];simpa using ew) ⟨rfl,fin⟩) hs
theorem yy:IxR X (ziI X.K):=by
 intro value slice pins s σ H x y v u Q I rx ry h hs
 obtain⟨p,xs,i,z,rfl,rfl,hq,he,q⟩:=h
 cases rx
 obtain⟨t,rfl⟩:=ry
 obtain⟨its,r,pl,hz⟩:=I.tuple hq
 obtain⟨j,h1,h2,h3,h4,h5⟩:=YQ he
 obtain⟨w,ew,rw'⟩:=r.get h2
 have hl:=r.length
 have hn:=uo
 have fin:EP X pins σ Q w s:=⟨z,H,I,rw',q⟩
 exact subscriptTail_builtinR (x:=w) pl.typeIs slot_tuple_getitem.lookup
  (getItem_tuple (j:=j) (Q:=fun r s'=>r=w∧EP X pins σ Q r s') pl (by omega) (by omega) (by rw[List.size_toArray,← hl];exact h1) (by simpa using ew) ⟨rfl,fin⟩) hs
theorem wZ (lo hi:Option Int) (n:Nat):(sliceBounds lo hi none n).1=((HT.sIx n 0 lo:Nat):Int)∧(sliceBounds lo hi none n).2.1=((HT.sIx n n hi:Nat):Int)∧(sliceBounds lo hi none n).2.2=1:=by
 refine⟨?_,?_,rfl⟩
 ·cases lo with
  |none=>simp[sliceBounds,HT.sIx]
  |some i =>
   simp only[sliceBounds,HT.sIx,Option.getD_none,show(1:Int)>0 by decide,if_true]
   by_cases h:i<0
   ·simp only[h,if_true]<;>omega
   ·simp only[h,if_false]<;>omega
 ·cases hi with
  |none=>simp[sliceBounds,HT.sIx]
  |some i =>
   simp only[sliceBounds,HT.sIx,Option.getD_none,show(1:Int)>0 by decide,if_true]
   by_cases h:i<0
   ·simp only[h,if_true]<;>omega
   ·simp only[h,if_false]<;>omega
theorem wD (its:List Value) (lo hi:Option Int):slicePick its.toArray lo hi none=((its.drop (HT.sIx its.length 0 lo)).take (HT.sIx its.length its.length hi-HT.sIx its.length 0 lo)).toArray:=by
 obtain⟨h1,h2,h3⟩:=wZ lo hi its.toArray.size
 unfold slicePick
 rw[h1,h2,h3]
 simp only[sliceRange_one,pick_run,List.size_toArray]<;>rfl
def ziG (K:PySem.W.Frag):V→Option Int→Option Int→Hp→VK→Prop:=fun x lo hi H Q=>∃ a xs,x=.ref a∧SqL K H a xs∧∀ p,H p=none→Q (.ref p) (upd H p (.lst (wN xs lo hi)))
theorem vz:SlR X (ziG X.K):=by
 intro pins s σ H x v vl vu lo hi sl Q I rx hs pl pu h
 obtain⟨a,xs,rfl,hx,q⟩:=h
 cases rx
 obtain⟨its,r,ht,hz⟩:=I.list hx
 have hlen:=r.length
 refine⟨"list",_,slot_list_getitem.lookup,ht.isList.typeIs,?_⟩
 refine wpAny_getItem_list_slice ht.isList hs pl pu .none (by simp) ?_ (by rw[List.size_toArray]<;>omega)
 rw[wD,← hlen]
 refine⟨.ref s.heap.objs.size,_,I.laid (t':=s.toks) (o:=.lst (wN xs lo hi)) (fun b ob q=>Heap.get?_push_of_some _ q) (Nat.le_refl _) ?_,rfl,q _ (I.hok.fresh (Nat.le_refl _))⟩
 exact⟨Nat.le_trans (yp xs lo hi) hz,_,0,(r.drop (HT.sIx xs.length 0 lo)).take (HT.sIx xs.length xs.length hi-HT.sIx xs.length 0 lo),Heap.get?_push_size _ rfl⟩
noncomputable def xT:V→Bool
 |.non=>true
 |.bl _=>true
 |.int _=>true
 |.str _=>true
 |_=>false
noncomputable def eqV:V→V→Bool
 |.non,.non=>true
 |.bl a,.bl b=>a == b
 |.bl a,.int b=>(if a then 1 else 0) == b
 |.int a,.bl b=>a == (if b then 1 else 0)
 |.int a,.int b=>a == b
 |.str a,.str b=>a == b
 |_,_=>false
theorem eqAt_V {A:Around}{s:Shared}{y x:V}{u v:Value}(ry:RelV y u) (rx:RelV x v) (fy:xT y=true) (fx:xT x=true):SeqAt.EqAt A s u v (eqV y x):=by
 cases y with
 |non =>
  cases ry
  cases x with
  |non=>cases rx;exact SeqAt.EqAt.same _
  |bl b=>cases rx;exact SeqAt.EqAt.none_bool b
  |int b=>obtain⟨t,rfl⟩:=rx;exact SeqAt.EqAt.none_int b t
  |str b=>obtain⟨t,rfl⟩:=rx;exact SeqAt.EqAt.none_str b t
  |_=>exact absurd (show false=true from fx) Bool.false_ne_true
 |bl a =>
  cases ry
  cases x with
  |non=>cases rx;exact SeqAt.EqAt.bool_none a
  |bl b=>cases rx;exact SeqAt.EqAt.bool_bool a b
  |int b=>obtain⟨t,rfl⟩:=rx;exact SeqAt.EqAt.bool_int a b t
  |str b=>obtain⟨t,rfl⟩:=rx;exact SeqAt.EqAt.bool_str a b t
  |_=>exact absurd (show false=true from fx) Bool.false_ne_true
 |int a =>
  obtain⟨t',rfl⟩:=ry
  cases x with
  |non=>cases rx;exact SeqAt.EqAt.int_none a t'
  |bl b=>cases rx;exact SeqAt.EqAt.int_bool a t' b
  |int b=>obtain⟨t,rfl⟩:=rx;exact SeqAt.EqAt.int_int a t' b t
  |str b=>obtain⟨t,rfl⟩:=rx;exact SeqAt.EqAt.int_str a t' b t
  |_=>exact absurd (show false=true from fx) Bool.false_ne_true
 |str a =>
  obtain⟨t',rfl⟩:=ry
  cases x with
  |non=>cases rx;exact SeqAt.EqAt.str_none a t'
  |bl b=>cases rx;exact SeqAt.EqAt.str_bool a t' b
  |int b=>obtain⟨t,rfl⟩:=rx;exact SeqAt.EqAt.str_int a t' b t
  |str b=>obtain⟨t,rfl⟩:=rx;exact SeqAt.EqAt.str_str a t' b t
  |_=>exact absurd (show false=true from fx) Bool.false_ne_true
 |_=>exact absurd (show false=true from fy) Bool.false_ne_true
def eqU (x:V) (u:Value):Bool:=match u with
 |.none=>eqV .non x
 |.bool b=>eqV (.bl b) x
 |.int i _=>eqV (.int i) x
 |.str z _=>eqV (.str z) x
 |_=>false
theorem Wr {x y:V}{u:Value}(r:RelV y u) (f:xT y=true):eqU x u=eqV y x:=by
 cases y with
 |non=>cases r;rfl
 |bl b=>cases r;rfl
 |int i=>obtain⟨t,rfl⟩:=r;rfl
 |str z=>obtain⟨t,rfl⟩:=r;rfl
 |_=>exact absurd (show false=true from f) Bool.false_ne_true
theorem xU {x:V}:∀ {xs:List V}{us:List Value},Vals xs us→xs.all xT=true→us.any (eqU x)=xs.any fun y=>eqV y x
 |_,_,.nil,_=>rfl
 |y::xs,u::us,.cons r t,f=>by
  rw[List.all_cons,Bool.and_eq_true] at f
  rw[List.any_cons,List.any_cons,Wr r f.1,xU t f.2]
theorem yZ {A:Around}{s:Shared}{x:V}{v:Value}(rx:RelV x v) (fx:xT x=true):∀ {xs:List V}{us:List Value},Vals xs us→xs.all xT=true→∀ u∈us,SeqAt.EqAt A s u v (eqU x u)
 |_,_,.nil,_=>fun u hu=>by cases hu
 |y::xs,u::us,.cons r t,f=>fun u' hu=>by
  rw[List.all_cons,Bool.and_eq_true] at f
  rcases List.mem_cons.mp hu with rfl | hu
  ·rw[Wr r f.1];exact eqAt_V r rx f.1 fx
  ·exact yZ rx fx t f.2 u' hu
def inV (x:V) (xs:List V):Bool:=xs.any fun y=>eqV y x
def rIn (K:PySem.W.Frag) (neg:Bool):R2:=fun x y H Q=>∃ p xs,y=.ref p∧(SqL K H p xs∨SqT K H p xs)∧xT x=true∧xs.all xT=true∧Q (.bl (if neg then !inV x xs else inV x xs)) H
theorem yX:OpR X (compareOp .In) (rIn X.K false):=by
 intro pins s σ H x y v u Q I rx ry h
 obtain⟨p,xs,rfl,hq,fx,fs,q⟩:=h
 cases ry
 rcases hq with hq | hq
 ·obtain⟨its,r,pl,hz⟩:=I.list hq
  refine SeqAt.in_listAt (eqU x) pl.isList (fun w hw=>yZ rx fx r fs w (by simpa using hw)) ⟨.bl _,H,I,rfl,?_⟩
  rw[show its.toArray.any (eqU x)=its.any (eqU x) by simp,xU r fs]
  exact q
 ·obtain⟨its,r,pl,hz⟩:=I.tuple hq
  refine SeqAt.in_tupleAt (eqU x) pl (fun w hw=>yZ rx fx r fs w (by simpa using hw)) ⟨.bl _,H,I,rfl,?_⟩
  rw[show its.toArray.any (eqU x)=its.any (eqU x) by simp,xU r fs]
  exact q
theorem vd:OpR X (compareOp .NotIn) (rIn X.K true):=by
 intro pins s σ H x y v u Q I rx ry h
 obtain⟨p,xs,rfl,hq,fx,fs,q⟩:=h
 cases ry
 rcases hq with hq | hq
 ·obtain⟨its,r,pl,hz⟩:=I.list hq
  refine SeqAt.notIn_listAt (eqU x) pl.isList (fun w hw=>yZ rx fx r fs w (by simpa using hw)) ⟨.bl _,H,I,rfl,?_⟩
  rw[show its.toArray.any (eqU x)=its.any (eqU x) by simp,xU r fs]
  exact q
 ·obtain⟨its,r,pl,hz⟩:=I.tuple hq
  refine SeqAt.notIn_tupleAt (eqU x) pl (fun w hw=>yZ rx fx r fs w (by simpa using hw)) ⟨.bl _,H,I,rfl,?_⟩
  rw[show its.toArray.any (eqU x)=its.any (eqU x) by simp,xU r fs]
  exact q
theorem zx:xb X (.builtin "len") (fun xs H Q=>∃ p ys,xs=[.ref p]∧(SqL X.K H p ys∨SqT X.K H p ys)∧Q (.int ys.length) H):=by
 intro pins s σ H xs us Q I r h
 obtain⟨p,ys,rfl,hq,q⟩:=h
 obtain⟨u,rfl,rx⟩:=WB r
 cases rx
 have hn:=uo
 rcases hq with hq | hq
 ·obtain⟨its,r',pl,hz⟩:=I.list hq
  have hlen:=r'.length
  exact Calls.call_len_list pl.isList (by simp only[List.size_toArray]<;>omega) ⟨.int ys.length,H,I.tok _,⟨s.toks+1,by rw[List.size_toArray,hlen]⟩,q⟩
 ·obtain⟨its,r',pl,hz⟩:=I.tuple hq
  have hlen:=r'.length
  exact len_tuple pl (by simp only[List.size_toArray]<;>omega) ⟨.int ys.length,H,I.tok _,⟨s.toks+1,by rw[List.size_toArray,hlen]⟩,q⟩
theorem yd:xb X (.type "list") (fun xs H Q=>∃ p ys,xs=[.ref p]∧(SqL X.K H p ys∨SqT X.K H p ys)∧∀ l,H l=none→Q (.ref l) (upd H l (.lst ys))):=by
 intro pins s σ H xs us Q I r h
 obtain⟨p,ys,rfl,hq,q⟩:=h
 obtain⟨u,rfl,rx⟩:=WB r
 cases rx
 have fin:∀ (its:List Value),Vals ys its→ys.length≤sizeLine→∀ (h':Heap) (c':Nat),(∀ b o',s.heap.get? b=some o'→h'.get? b=some o') →
   h'.get? s.heap.objs.size=some { cls:=.type "list",dict:=none,data:=.seq its.toArray c',slots:=#[] }→EP X pins σ Q (.ref s.heap.objs.size) { s with heap:=h' }:=fun its r' hz h' c' kp e =>
  ⟨.ref s.heap.objs.size,_,I.laid (t':=s.toks) kp (Nat.le_refl _) (show ObjOk X.prog X.w _ h' _ (.lst ys) from⟨hz,its,c',r',e⟩),rfl,q _ (I.hok.fresh (Nat.le_refl _))⟩
 rcases hq with hq | hq
 ·obtain⟨its,r',pl,hz⟩:=I.list hq
  have hlen:=r'.length
  obtain⟨o,ho,hc,n,hd⟩:=pl.isList
  exact call_list_seq p (.inl rfl) ho hc hd (fun h' c' kp e=>fin its r' hz h' c' kp e) (by simp only[List.size_toArray]<;>omega)
 ·obtain⟨its,r',pl,hz⟩:=I.tuple hq
  have hlen:=r'.length
  obtain⟨o,ho,hc,n,hd⟩:=pl
  exact call_list_seq p (.inr rfl) ho hc hd (fun h' c' kp e=>fin its r' hz h' c' kp e) (by simp only[List.size_toArray]<;>omega)
theorem y9:xb X (.type "tuple") (fun xs H Q=>∃ p ys,xs=[.ref p]∧((SqL X.K H p ys∧∀ l,H l=none→Q (.ref l) (upd H l (.tup ys)))∨(SqT X.K H p ys∧Q (.ref p) H))):=by
 intro pins s σ H xs us Q I r h
 obtain⟨p,ys,rfl,h⟩:=h
 obtain⟨u,rfl,rx⟩:=WB r
 cases rx
 rcases h with⟨hq,q⟩ | ⟨hq,q⟩
 ·obtain⟨its,r',pl,hz⟩:=I.list hq
  have hlen:=r'.length
  refine call_tuple_list pl.isList (fun h' kp=>?_) (by simp only[List.size_toArray]<;>omega)
  have I1:Inv X pins σ H { s with heap:=h' }:=I.kept (t':=s.toks) kp
  have I2:Inv X pins σ (upd H h'.objs.size (.tup ys)) { s with heap:=h'.push { cls:=.type "tuple",data:=.seq its.toArray } } :=
   I1.laid (t':=s.toks) (fun b o e=>Heap.get?_push_of_some _ e) (Nat.le_refl _) (show ObjOk X.prog X.w _ _ _ (.tup ys) from⟨hz,its,r',IsTup.new _ _⟩)
  exact⟨.ref h'.objs.size,_,I2,rfl,q _ (I1.hok.fresh (Nat.le_refl _))⟩
 ·obtain⟨its,r',pl,hz⟩:=I.tuple hq
  exact call_tuple_same pl ⟨.ref p,H,I,rfl,q⟩
def tyV (K:PySem.W.Frag) (T:String) (x:V) (H:Hp):Prop:=match x with
 |.str _=>T = "str"
 |.int _=>T = "int"
 |.ref p=>(T = "list" ∧ ∃ xs,SqL K H p xs)∨(T = "tuple" ∧ ∃ o,K.lookup p=some o∧o.cls=.type "tuple" ∧ o.dict=none) ∨
   (T = "dict" ∧ ((∃ kvs,H p=some (.dK kvs))∨∃ kvs,H p=some (.dT kvs)))∨(T = "set" ∧ ∃ S n,H p=some (.set S n))
 |_=>False
theorem VR {pins:List (Addr×Obj)}{σ:St}{H:Hp}{s:Shared}{T:String}{x:V}{v:Value}(I:Inv X pins σ H s) (r:RelV x v) (ty:tyV X.K T x H) :
  s.TypeIs v T∧∀ a,v=.ref a→∃ ob,s.heap.get? a=some ob∧ob.dict=none:=by
 cases x with
 |str z =>
  obtain⟨t,rfl⟩:=r
  cases (show T = "str" from ty)
  exact⟨typeIs_str s z t,fun _ e=>nomatch e⟩
 |int i =>
  obtain⟨t,rfl⟩:=r
  cases (show T = "int" from ty)
  exact⟨typeIs_int s i t,fun _ e=>nomatch e⟩
 |ref p =>
  cases r
  rcases ty with⟨rfl,xs,hq⟩ | ⟨rfl,o,hk,hc,hd⟩ | ⟨rfl,hk⟩ | ⟨rfl,S,n,hk⟩
  ·obtain⟨its,_,pl,_⟩:=I.list hq
   refine⟨pl.isList.typeIs,fun a e=>?_⟩
   cases e
   obtain⟨o,n,e,c,hd,_⟩:=pl
   exact⟨o,e,hd⟩
  ·refine⟨⟨o,I.kIn p o hk,hc⟩,fun a e=>?_⟩
   cases e
   exact⟨o,I.kIn _ o hk,hd⟩
  ·have z:∃ o,s.heap.get? p=some o∧o.ExactDict:=by
    rcases hk with⟨kvs,hk⟩ | ⟨kvs,hk⟩
    ·obtain⟨_,_,_,_,o,_,_,e,ex,_⟩:=I.hok p _ hk
     exact⟨o,e,ex⟩
    ·obtain⟨_,_,_,_,o,_,_,e,ex,_⟩:=I.hok p _ hk
     exact⟨o,e,ex⟩
   obtain⟨o,e,ex⟩:=z
   refine⟨⟨o,e,ex.1⟩,fun a e2=>?_⟩
   cases e2
   exact⟨o,e,ex.2.1⟩
  ·obtain⟨o,_,_,_,e,ex,_⟩:=I.hok p _ hk
   refine⟨⟨o,e,ex.1⟩,fun a e2=>?_⟩
   cases e2
   exact⟨o,e,ex.2.1⟩
 |_=>exact False.elim ty
def tBM (K:PySem.W.Frag) (T:String) (r:V→List V→Hp→VK→Prop) (to:TE) (t:TA):TE:=fun σ H Q=>to σ H fun x H1=>tyV K T x H1∧t σ H1 fun xs H2=>r x xs H2 Q
variable {o e:Expr}{es:List Expr}{to:TE}{t:TA}{name:Str}{apos cpos:Pos}{T id:String}{r:V→List V→Hp→VK→Prop}
theorem Vc (pa:PlainAttrs T) (slot:Slot T name id) (hty:typeOf (.builtin id)=pure (.type "method_descriptor")) (hm:MtR X id r) (ho:PE X o to) (ha:PA X (e::es) t)
  (hbase:attributeBase o name X.env (eval o X.env)=eval o X.env:=by rfl)
  (hfew:((backTo cpos (starEach (e::es) X.env)).all (fun x=>!x.1)&&(backToKw cpos (keywordEach [] X.env)).all (fun x=>x.1.isSome)
   && decide ((e::es).length+([]:List Keyword).length+(if ([]:List Keyword).isEmpty then 0 else 1)<30))=true:=by rfl)
  (hline:(apos.endLine == cpos.line)=true:=by rfl) (hs:starEach (e::es) X.env=(false,eval e X.env)::starEach es X.env:=by rfl) (hplain:(backTo cpos (starEach es X.env)).any (·.1)=false:=by rfl) :
  PE X (.Call (.Attribute o name apos) (e::es) [] cpos) (tBM X.K T r to t):=by
 intro pins s σ H Q I h
 refine wpAny_Call_method_late hbase hfew hline rfl (thn (ho pins s σ H _ I h) fun v s1 hq0=>?_)
 obtain⟨x,H1,I1,r1,ty,q1⟩:=hq0
 obtain⟨h1,h2⟩:=VR I1 r1 ty
 refine⟨T,id,pa,slot,hty,h1,h2,?_⟩
 have hA:=ha cpos pins s1 σ H1 _ I1 q1
 rw[hs] at hA ⊢
 refine Calls.callWith_builtin (by show(false||(backTo cpos (starEach es X.env)).any (·.1))=false;rw[hplain]<;>rfl) (Calls.evalArgs_plain ?_)
 exact thn hA fun us s2 ⟨vs,H2,I2,r2,q2⟩=>hm pins s2 σ H2 x vs v us Q I2 r1 r2 q2
end
def MtM (X:Cx) (id:String) (r:V→List V→Hp→VK→Prop):Prop :=
 ∀ (pins:List (Addr×Obj)) (s:Shared) (σ:St) (H:Hp) (x:V) (xs:List V) (v:Value) (us:List Value) (Q:VK),Inv X pins σ H s→RelV x v→Vals xs us→r x xs H Q →
  wpAny (model X.prog X.w) X.A (call (.builtin id) (v::us)) (EP X pins σ Q) X.xe s
theorem Vals.one:∀ {x:V}{us:List Value},Vals [x] us→∃ u,us=[u]∧RelV x u
 |_,_,.cons r .nil=>⟨_,rfl,r⟩
theorem Vals.two:∀ {x y:V}{us:List Value},Vals [x,y] us→∃ u v,us=[u,v]∧RelV x u∧RelV y v
 |_,_,_,.cons r (.cons q .nil)=>⟨_,_,rfl,r,q⟩
theorem Vals.eraseIdx:∀ {xs:List V}{us:List Value}(i:Nat),Vals xs us→Vals (xs.eraseIdx i) (us.eraseIdx i)
 |_,_,_,.nil=>.nil
 |_,_,0,.cons _ t=>t
 |_,_,i+1,.cons r t=>.cons r (Vals.eraseIdx i t)
theorem vh {α:Type}:∀ (l:List α) (i:Nat),(l.eraseIdx i).length≤l.length
 |[],_=>Nat.le_refl _
 |_::_,0=>Nat.le_succ _
 |_::r,i+1=>Nat.succ_le_succ (vh r i)
section
variable {X:Cx}{pins:List (Addr×Obj)}{σ:St}{H:Hp}{s:Shared}{l b:Addr}{xs ys zs:List V}
theorem Inv.lset {its its':List Value}{n:Nat}{f:Array Value→Array Value}{t':Nat}(I:Inv X pins σ H s) (hH:H l=some (.lst xs))
  (e:s.heap.get? l=some { cls:=.type "list",data:=.seq its.toArray n }) (hf:f its.toArray=its'.toArray) (hv:Vals ys its') (hz:ys.length≤sizeLine) :
  Inv X pins σ (upd H l (.lst ys)) { s with heap:=s.heap.update l (Obj.mapSeq f),toks:=t' }:=by
 have q:=PySem.IsL.update e f
 rw[hf] at q
 refine I.write (x:=l) (e:=l) (by rw[hH];exact trivial) (.inl rfl) (fun b' u hb hu=>(Heap.get?_update_other s.heap (Obj.mapSeq f) (Ne.symm hb)).trans hu) ⟨_,q⟩ ?_
 exact⟨hz,its',_,hv,q⟩
theorem Inv.lnew {its:List Value}{t':Nat}(I:Inv X pins σ H s) (hv:Vals ys its) (hz:ys.length≤sizeLine) :
  Inv X pins σ (upd H s.heap.objs.size (.lst ys)) { s with heap:=s.heap.push { cls:=.type "list",data:=.seq its.toArray },toks:=t' } :=
 I.laid (fun _ _ q=>Heap.get?_push_of_some _ q) (Nat.le_refl _) ⟨hz,its,0,hv,Heap.get?_push_size _ rfl⟩
theorem Inv.fresh (I:Inv X pins σ H s):H s.heap.objs.size=none:=I.hok.fresh (Nat.le_refl _)
theorem Inv.lstM (I:Inv X pins σ H s) (hH:H l=some (.lst xs)):xs.length≤sizeLine∧∃ (its:List Value) (n:Nat),Vals xs its∧xs.length=its.length∧s.heap.get? l=some { cls:=.type "list",data:=.seq its.toArray n }:=by
 obtain⟨z,its,n,r,e⟩:=I.hok l _ hH
 exact⟨z,its,n,r,r.length,e⟩
theorem Xp {n:Nat}(h:n≤sizeLine):Builtin.List.listTooLong n=false:=by
 unfold Builtin.List.listTooLong
 exact decide_eq_false (by omega)
end
section
variable {X:Cx}
def WM:V→List V→Hp→VK→Prop:=fun x vs H Q=>∃ l xs y,x=.ref l∧vs=[y]∧H l=some (.lst xs)∧xs.length<sizeLine∧Q .non (upd H l (.lst (xs++[y])))
theorem zL:MtM X "list.append" WM:=by
 intro pins s σ H x vs v us Q I rx rv h
 obtain⟨l,xs,y,rfl,rfl,hH,hz,q⟩:=h
 cases rx
 obtain⟨u,rfl,ru⟩:=rv.one
 obtain⟨z,its,n,r,hl,e⟩:=I.lstM hH
 refine call_meets F.slot_list_append ⟨_,e,rfl⟩ F.entry_list_append (F.args_list_append_2 _ _) (PySem.list_append l its.toArray n u (by rw[List.size_toArray];omega)) ⟨e,?_⟩
 refine⟨.non,_,I.lset (its':=its++[u]) hH e (by simp) (r.append (.cons ru .nil)) ?_,rfl,q⟩
 rw[List.length_append,List.length_singleton]
 omega
def WL:V→List V→Hp→VK→Prop:=fun x vs H Q=>∃ l b xs zs,x=.ref l∧vs=[.ref b]∧H l=some (.lst xs)∧H b=some (.lst zs)∧xs.length+zs.length≤sizeLine∧Q .non (upd H l (.lst (xs++zs)))
theorem UV:MtM X "list.extend" WL:=by
 intro pins s σ H x vs v us Q I rx rv h
 obtain⟨l,b,xs,zs,rfl,rfl,hH,hB,hz,q⟩:=h
 cases rx
 obtain⟨u,rfl,ru⟩:=rv.one
 cases ru
 obtain⟨z,its,n,r,hl,e⟩:=I.lstM hH
 obtain⟨z2,its2,n2,r2,hl2,e2⟩:=I.lstM hB
 have hsz:its.toArray.size+its2.toArray.size≤sizeLine:=by rw[List.size_toArray,List.size_toArray];omega
 have hlong:¬ (!its.toArray.isEmpty&&Builtin.List.listTooLong (its.toArray.size+its2.toArray.size))=true:=by
  rw[Xp hsz,Bool.and_false]
  exact Bool.false_ne_true
 refine call_meets F.slot_list_extend ⟨_,e,rfl⟩ F.entry_list_extend (F.args_list_extend_2 _ _)
  (AutoSeq1.list_extend_list_list_0 l its.toArray n b its2.toArray n2 hlong (by rw[List.size_toArray];omega) (by omega)) ⟨e,e2,?_⟩
 refine⟨.non,_,I.lset (its':=its++its2) hH e (by simp) (r.append r2) ?_,rfl,q⟩
 rw[List.length_append]
 omega
def Ug:V→List V→Hp→VK→Prop:=fun x vs H Q=>∃ l xs i k y,x=.ref l∧vs=[.int i]∧H l=some (.lst xs)∧-(2 ^ 63)≤i∧i<2 ^ 63∧seqIndex? i xs.length=some k∧xs[k]?=some y∧Q y (upd H l (.lst (xs.eraseIdx k)))
theorem ul:MtM X "list.pop" Ug:=by
 intro pins s σ H x vs v us Q I rx rv h
 obtain⟨l,xs,i,k,y,rfl,rfl,hH,h1,h2,hk,hy,q⟩:=h
 cases rx
 obtain⟨u,rfl,ru⟩:=rv.one
 obtain⟨t,rfl⟩:=ru
 obtain⟨z,its,n,r,hl,e⟩:=I.lstM hH
 obtain⟨w,hw,rw'⟩:=r.get hy
 refine call_meets F.slot_list_pop ⟨_,e,rfl⟩ F.entry_list_pop (F.args_list_pop_2 _ _)
  (MeetsSeq.list_pop_at l its.toArray n i t k w (fitsIndex_both h1 h2) (by rw[List.size_toArray,← hl];exact hk) (by rw[← Array.getElem?_toList];exact hw) (by rw[List.size_toArray];omega)) ⟨e,?_⟩
 refine⟨y,_,I.lset (its':=its.eraseIdx k) hH e ?_ (r.eraseIdx k) ?_,rw',q⟩
 ·show its.toArray.eraseIdxIfInBounds k=(its.eraseIdx k).toArray
  rw[List.eraseIdxIfInBounds_toArray]
 ·have:=vh xs k
  omega
def ziM:R2:=fun x y H Q=>∃ l b xs zs,x=.ref l∧y=.ref b∧H l=some (.lst xs)∧H b=some (.lst zs)∧xs.length+zs.length≤sizeLine∧∀ p,H p=none→Q (.ref p) (upd H p (.lst (xs++zs)))
theorem Yb:OpR X (binaryOp .Add) ziM:=by
 intro pins s σ H x y v u Q I rx ry h
 obtain⟨l,b,xs,zs,rfl,rfl,hH,hB,hz,q⟩:=h
 cases rx
 cases ry
 obtain⟨z,its,n,r,hl,e⟩:=I.lstM hH
 obtain⟨z2,its2,n2,r2,hl2,e2⟩:=I.lstM hB
 refine PySem.P.add_list e e2 ?_ (by rw[List.size_toArray,List.size_toArray];omega)
 have ea:its.toArray++its2.toArray=(its++its2).toArray:=by simp
 rw[ea]
 exact⟨.ref _,_,I.lnew (t':=s.toks) (r.append r2) (by rw[List.length_append];omega),rfl,q _ I.fresh⟩
end
section
variable {κ:Type} [DecidableEq κ]
def yw (kvs:List (κ×V)) (k:κ):Option V:=(kvs.find? fun kv=>decide (kv.1=k)).map (·.2)
def putK (kvs:List (κ×V)) (k:κ) (v:V):List (κ×V) :=
 if (kvs.any fun kv=>decide (kv.1=k))=true then kvs.map (fun kv=>if kv.1=k then(kv.1,v) else kv) else kvs++[(k,v)]
theorem xu {p:κ×V}{r:List (κ×V)}{k:κ}(e:p.1=k):yw (p::r) k=some p.2:=by simp[yw,List.find?_cons,e]
theorem xv {p:κ×V}{r:List (κ×V)}{k:κ}(e:¬ p.1=k):yw (p::r) k=yw r k:=by simp[yw,List.find?_cons,e]
theorem yV (k:κ):∀ kvs:List (κ×V),(kvs.any fun kv=>decide (kv.1=k))=(yw kvs k).isSome
 |[]=>rfl
 |p::r=>by
  rw[List.any_cons]
  by_cases e:p.1=k
  ·simp only[xu e,decide_eq_true e,Bool.true_or,Option.isSome_some]
  ·rw[xv e,decide_eq_false e,Bool.false_or];exact yV k r
theorem z7 (kvs:List (κ×V)) (k:κ) (v:V):(putK kvs k v).length≤kvs.length+1:=by
 unfold putK
 split
 ·rw[List.length_map];omega
 ·rw[List.length_append,List.length_cons,List.length_nil];omega
theorem putK_new {kvs:List (κ×V)}{k:κ}(v:V) (h:yw kvs k=none):putK kvs k v=kvs++[(k,v)]:=by
 unfold putK
 rw[yV,h]
 exact if_neg (by decide)
theorem RelO.isSome_eq {o:Option V}{u:Option Value}(r:RelO o u):o.isSome=u.isSome:=by
 cases o with
 |none=>cases u with
  |none=>rfl
  |some _=>exact(show False from r).elim
 |some _=>cases u with
  |none=>exact(show False from r).elim
  |some _=>rfl
theorem RelO.getD {o:Option V}{u:Option Value}{d:V}{d':Value}(r:RelO o u) (rd:RelV d d'):RelV (o.getD d) (u.getD d'):=by
 cases o with
 |none=>cases u with
  |none=>exact rd
  |some _=>exact(show False from r).elim
 |some _=>cases u with
  |none=>exact(show False from r).elim
  |some _=>exact r
theorem KV.val {kvs:List (κ×V)}{vs:List (κ×Value)}(r:KV kvs vs) (k:κ):RelO (yw kvs k) (valueAt vs k):=by
 unfold KV at r
 induction r with
 |nil=>exact True.intro
 | @cons p q ps qs h t ih =>
  obtain⟨h1,h2⟩:=h
  by_cases e:p.1=k
  ·have e':q.1=k:=h1.symm.trans e
   have b:valueAt (q::qs) k=some q.2:=by simp[valueAt,List.find?_cons,e']
   rw[xu e,b];exact h2
  ·have e':¬ q.1=k:=fun z=>e (h1.trans z)
   have b:valueAt (q::qs) k=valueAt qs k:=by simp[valueAt,List.find?_cons,e']
   rw[xv e,b];exact ih
theorem KV.any {kvs:List (κ×V)}{vs:List (κ×Value)}(r:KV kvs vs) (k:κ):(kvs.any fun kv=>decide (kv.1=k))=vs.any fun kv=>decide (kv.1=k):=by
 unfold KV at r
 induction r with
 |nil=>rfl
 |cons h t ih=>rw[List.any_cons,List.any_cons,ih,h.1]
theorem KV.repl {kvs:List (κ×V)}{vs:List (κ×Value)}(r:KV kvs vs) (k:κ){y:V}{u:Value}(ry:RelV y u) :
  KV (kvs.map fun kv=>if kv.1=k then(kv.1,y) else kv) (vs.map fun kv=>if kv.1=k then(kv.1,u) else kv):=by
 unfold KV at r ⊢
 induction r with
 |nil=>exact .nil
 | @cons p q ps qs h t ih =>
  rw[List.map_cons,List.map_cons]
  refine .cons ?_ ih
  obtain⟨h1,h2⟩:=h
  by_cases e:p.1=k
  ·rw[if_pos e,if_pos (h1.symm.trans e)];exact⟨h1,ry⟩
  ·rw[if_neg e,if_neg (fun z=>e (h1.trans z))];exact⟨h1,h2⟩
theorem KV.put {kvs:List (κ×V)}{vs:List (κ×Value)}(r:KV kvs vs) (k:κ){y:V}{u:Value}(ry:RelV y u):KV (putK kvs k y) (stored vs k u):=by
 unfold putK stored
 rw[r.any k]
 by_cases e:(vs.any fun kv=>decide (kv.1=k))=true
 ·rw[if_pos e,if_pos e];exact r.repl k ry
 ·rw[if_neg e,if_neg e];exact Paired.snoc r ⟨rfl,ry⟩
theorem KV.length {kvs:List (κ×V)}{vs:List (κ×Value)}(r:KV kvs vs):kvs.length=vs.length:=Paired.length r
end
theorem wK {P:Program}{w:World}{k:Key}{u:Value}(r:RelV (kV k) u):(zm P w).is k u=true:=by
 cases k with
 |inl i=>obtain⟨t,e⟩:=(show ∃ t,u=Value.int i t from r);subst e;exact vJ P w i t
 |inr x=>obtain⟨t,e⟩:=(show ∃ t,u=Value.str x t from r);subst e;exact vI P w x t
theorem vk {P:Program}{w:World}:∀ {ks:List Key}{us:List Value},Vals (ks.map kV) us→ItemsAre (zm P w) ks us
 |[],_,r=>by rw[List.map_nil] at r;cases r;exact .nil
 |k::ks,_,r=>by
  rw[List.map_cons] at r
  cases r with
  |cons h t=>exact .cons (wK h) (vk t)
abbrev KT (H:Hp):List (List Key×V)→List (List Key×Addr×Value)→Prop:=Paired fun p q=>p.1=q.1∧H q.2.1=some (.tup (p.1.map kV))∧RelV p.2 q.2.2
theorem KT.val {H:Hp}{kvs:List (List Key×V)}{xs:List (List Key×Addr×Value)}(r:KT H kvs xs) (k:List Key):RelO (yw kvs k) ((atKey xs k).map (·.2)):=by
 induction r with
 |nil=>exact True.intro
 | @cons p q ps qs h t ih =>
  obtain⟨h1,_,h2⟩:=h
  by_cases e:p.1=k
  ·have e':q.1=k:=h1.symm.trans e
   have b:atKey (q::qs) k=some q.2:=by simp[atKey,List.find?_cons,e']
   rw[xu e,b];exact h2
  ·have e':¬ q.1=k:=fun z=>e (h1.trans z)
   have b:atKey (q::qs) k=atKey qs k:=by simp[atKey,List.find?_cons,e']
   rw[xv e,b];exact ih
theorem KT.repl {H:Hp}{kvs:List (List Key×V)}{xs:List (List Key×Addr×Value)}(r:KT H kvs xs) (k:List Key){y:V}{u:Value}(ry:RelV y u) :
  KT H (kvs.map fun kv=>if kv.1=k then(kv.1,y) else kv) (xs.map (putAt k u)):=by
 induction r with
 |nil=>exact .nil
 | @cons p q ps qs h t ih =>
  rw[List.map_cons,List.map_cons]
  refine .cons ?_ ih
  obtain⟨h1,h2,h3⟩:=h
  unfold putAt
  by_cases e:p.1=k
  ·rw[if_pos e,if_pos (h1.symm.trans e)];exact⟨h1,h2,ry⟩
  ·rw[if_neg e,if_neg (fun z=>e (h1.trans z))];exact⟨h1,h2,h3⟩
theorem KT.put {H:Hp}{kvs:List (List Key×V)}{xs:List (List Key×Addr×Value)}(r:KT H kvs xs) (k:List Key){b:Addr}{y:V}{u:Value}(hb:H b=some (.tup (k.map kV))) (ry:RelV y u) :
  KT H (putK kvs k y) (storedH xs k b u):=by
 have e:(kvs.any fun kv=>decide (kv.1=k))=(atKey xs k).isSome:=by
  rw[yV,(r.val k).isSome_eq,Option.isSome_map]
 unfold putK storedH
 rw[e]
 by_cases q:(atKey xs k).isSome=true
 ·rw[if_pos q,if_pos q];exact r.repl k ry
 ·rw[if_neg q,if_neg q];exact Paired.snoc r ⟨rfl,hb,ry⟩
theorem KT.keeps {H H':Hp}{kvs:List (List Key×V)}{xs:List (List Key×Addr×Value)}(r:KT H kvs xs) (ht:∀ b ys,H b=some (.tup ys)→H' b=some (.tup ys)):KT H' kvs xs :=
 Paired.mapP r fun _ _ z=>⟨z.1,ht _ _ z.2.1,z.2.2⟩
section
variable {P:Program}{w:World}{H:Hp}{h:Heap}{a:Addr}
theorem Uc {u:HO}(ok:HOk P w H h) (e:Rd H a u):ObjOk P w H h a u:=e.ok ok
theorem vP {kvs:List (Key×V)}(ok:HOk P w H h) (e:Rd H a (.dK kvs)):kvs.length≤sizeLine∧(a == sysModules)=false∧∃ vs,KV kvs vs∧h.DictOf (zm P w) a vs :=
 show ObjOk P w H h a (.dK kvs) from Uc ok e
theorem wM {kvs:List (Key×V)}(ok:HOk P w H h) (e:H a=some (.dK kvs)):kvs.length≤sizeLine∧(a == sysModules)=false∧∃ vs,KV kvs vs∧h.DictOf (zm P w) a vs:=vP ok (.inl e)
theorem xQ {ks:List Key}(ok:HOk P w H h) (e:H a=some (.tup (ks.map kV))):(tupleKind (zm P w)).is h ks a:=by
 obtain⟨_,its,r,o,h1,h2,n,h3⟩:=(show ObjOk P w H h a (.tup (ks.map kV)) from ok a _ e)
 exact⟨o,its.toArray,n,h1,h2,h3,by simpa using vk r⟩
theorem vN {kvs:List (List Key×V)}(ok:HOk P w H h) (e:Rd H a (.dT kvs)):kvs.length≤sizeLine∧(a == sysModules)=false ∧
  ∃ xs,KT H kvs xs∧h.DictOfH (tupleKind (zm P w)) a xs:=by
 obtain⟨z,y,xs,r,o,es,ep,h1,h2,h3,h4,h5⟩:=(show ObjOk P w H h a (.dT kvs) from Uc ok e)
 refine⟨z,y,xs,r,o,es,ep,h1,h2,h3,h4,fun x hx=>?_,h5⟩
 have all:∀ {l:List (List Key×V)}{m:List (List Key×Addr×Value)},KT H l m→∀ x∈m,(tupleKind (zm P w)).is h x.1 x.2.1:=by
  intro l m q
  induction q with
  |nil=>intro x hx;exact nomatch hx
  | @cons p q ps qs hq t ih =>
   intro x hx
   rcases List.mem_cons.mp hx with e | hx
   ·subst e
    exact xQ ok (by rw[← hq.1];exact hq.2.1)
   ·exact ih x hx
 exact all r x hx
theorem VD {kvs:List (List Key×V)}(ok:HOk P w H h) (e:H a=some (.dT kvs)):kvs.length≤sizeLine∧(a == sysModules)=false ∧
  ∃ xs,KT H kvs xs∧h.DictOfH (tupleKind (zm P w)) a xs:=vN ok (.inl e)
end
def DGet (H:Hp) (a:Addr) (y:V) (r:Option V):Prop :=
 (∃ kvs k,Rd H a (.dK kvs)∧y=kV k∧r=yw kvs k)∨∃ kvs k b,Rd H a (.dT kvs)∧y=.ref b∧H b=some (.tup (k.map kV))∧r=yw kvs k
def DPut (H:Hp) (a:Addr) (y v:V) (H':Hp):Prop :=
 (∃ kvs k,H a=some (.dK kvs)∧y=kV k∧kvs.length<sizeLine∧H'=upd H a (.dK (putK kvs k v))) ∨
 ∃ kvs k b,H a=some (.dT kvs)∧y=.ref b∧H b=some (.tup (k.map kV))∧kvs.length<sizeLine∧H'=upd H a (.dT (putK kvs k v))
theorem DGet.k {H:Hp}{a:Addr}{kvs:List (Key×V)}{k:Key}(e:H a=some (.dK kvs)):DGet H a (kV k) (yw kvs k):=.inl ⟨kvs,k,.inl e,rfl,rfl⟩
theorem DGet.t {H:Hp}{a b:Addr}{kvs:List (List Key×V)}{k:List Key}(e:H a=some (.dT kvs)) (eb:H b=some (.tup (k.map kV))):DGet H a (.ref b) (yw kvs k):=.inr ⟨kvs,k,b,.inl e,rfl,eb,rfl⟩
theorem DPut.k {H:Hp}{a:Addr}{kvs:List (Key×V)}{k:Key}{v:V}(e:H a=some (.dK kvs)) (hl:kvs.length<sizeLine):DPut H a (kV k) v (upd H a (.dK (putK kvs k v))):=.inl ⟨kvs,k,e,rfl,hl,rfl⟩
theorem DPut.t {H:Hp}{a b:Addr}{kvs:List (List Key×V)}{k:List Key}{v:V}(e:H a=some (.dT kvs)) (eb:H b=some (.tup (k.map kV))) (hl:kvs.length<sizeLine) :
  DPut H a (.ref b) v (upd H a (.dT (putK kvs k v))):=.inr ⟨kvs,k,b,e,rfl,eb,hl,rfl⟩
section
variable {X:Cx}{pins:List (Addr×Obj)}{σ:St}{H:Hp}{s:Shared}{a:Addr}{y v:V}{u r:Value}{o:Option V}{A:Around}{E:Value→Shared→Prop}
theorem Inv.big (I:Inv X pins σ H s):sysModules<s.heap.objs.size:=by
 have h:mainGlobals<s.heap.objs.size:=(I.mod.glob.keeps I.bk).lt
 exact Nat.lt_trans (by decide) h
theorem YG {Q:Value→Shared→Prop}(hu:A.units+1<cLine) (I:Inv X pins σ H s) (g:DGet H a y (some v)) (ry:RelV y u) (h:∀ w' s',Inv X pins σ H s'→RelV v w'→Q w' s') :
  wpAny (model X.prog X.w) A (getItem (.ref a) u) Q E s:=by
 rcases g with⟨kvs,k,e,ey,l⟩ | ⟨kvs,k,b,e,ey,eb,l⟩
 ·subst ey
  obtain⟨z,hd,vs,rel,dd⟩:=vP I.hok e
  obtain⟨w',hw,rw'⟩:=RelO.some_of (v:=v) (o:=valueAt vs k) (by rw[l];exact rel.val k)
  exact wpAny_getItem_of (wK ry) dd.mapOf hw (h w' _ (I.tok _) rw')
 ·subst ey
  cases (show u=Value.ref b from ry)
  obtain⟨z,hd,xs,rel,dd⟩:=vN I.hok e
  obtain⟨w',hw,rw'⟩:=RelO.some_of (v:=v) (o:=(atKey xs k).map (·.2)) (by rw[l];exact rel.val k)
  obtain⟨p,hp,hp2⟩:=Option.map_eq_some_iff.mp hw
  refine wpAny_getItem_heap (tupleKind_room_in1 hu) (xQ I.hok eb) dd hp ?_
  rw[hp2]
  exact h w' _ (I.tok _) rw'
theorem ziY {Q:Value→Shared→Prop}(hu:A.units+1<cLine) (I:Inv X pins σ H s) (g:DGet H a y o) (ry:RelV y u) (h:∀ s',Inv X pins σ H s'→Q (.bool o.isSome) s') :
  wpAny (model X.prog X.w) A (compareOp .In u (.ref a)) Q E s:=by
 rcases g with⟨kvs,k,e,ey,l⟩ | ⟨kvs,k,b,e,ey,eb,l⟩
 ·subst ey
  obtain⟨z,hd,vs,rel,dd⟩:=vP I.hok e
  refine wpAny_in_of (wK ry) hd dd.mapOf ?_
  rw[← (rel.val k).isSome_eq,← l]
  exact h _ (I.tok _)
 ·subst ey
  cases (show u=Value.ref b from ry)
  obtain⟨z,hd,xs,rel,dd⟩:=vN I.hok e
  refine wpAny_in_heap (tupleKind_room_in1 hu) (xQ I.hok eb) hd dd ?_
  have q:=(rel.val k).isSome_eq
  rw[Option.isSome_map] at q
  rw[← q,← l]
  exact h _ (I.tok _)
theorem VE {Q:Value→Shared→Prop}(hu:A.units+1<cLine) (I:Inv X pins σ H s) (g:DGet H a y o) (ry:RelV y u) (h:∀ s',Inv X pins σ H s'→Q (.bool (!o.isSome)) s') :
  wpAny (model X.prog X.w) A (compareOp .NotIn u (.ref a)) Q E s:=by
 rcases g with⟨kvs,k,e,ey,l⟩ | ⟨kvs,k,b,e,ey,eb,l⟩
 ·subst ey
  obtain⟨z,hd,vs,rel,dd⟩:=vP I.hok e
  refine wpAny_notIn_of (wK ry) hd dd.mapOf ?_
  rw[← (rel.val k).isSome_eq,← l]
  exact h _ (I.tok _)
 ·subst ey
  cases (show u=Value.ref b from ry)
  obtain⟨z,hd,xs,rel,dd⟩:=vN I.hok e
  refine wpAny_notIn_heap (tupleKind_room_in1 hu) (xQ I.hok eb) hd dd ?_
  have q:=(rel.val k).isSome_eq
  rw[Option.isSome_map] at q
  rw[← q,← l]
  exact h _ (I.tok _)
theorem yQ {h':Heap}{t':Nat}{ob:HO}(I:Inv X pins σ H s) (mu:Mut (H a)) (hs:Heap.SameBut a s.heap h') (he:∃ q,h'.get? a=some q) (new:ObjOk X.prog X.w (upd H a ob) h' a ob) :
  Inv X pins σ (upd H a ob) { s with heap:=h',toks:=t' } :=
 I.write (x:=a) (e:=a) mu (.inl rfl) (fun b q hb z=>(hs.2 b hb).trans z) he new
theorem wq {P:Program}{w:World}{H':Hp}{h':Heap}{kvs:List (Key×V)}{vs:List (Key×Value)}(z:kvs.length≤sizeLine) (hd:(a == sysModules)=false) (rel:KV kvs vs) (dd:h'.DictOf (zm P w) a vs) :
  ObjOk P w H' h' a (.dK kvs):=⟨z,hd,vs,rel,dd⟩
theorem YF {H':Hp}{Q:Unit→Shared→Prop}(hu:A.units+1<cLine) (I:Inv X pins σ H s) (g:DPut H a y v H') (ry:RelV y u) (rv:RelV v r) (h:∀ s',Inv X pins σ H' s'→Q () s') :
  wpAny (model X.prog X.w) A (setItem (.ref a) u r) Q E s:=by
 rcases g with⟨kvs,k,e,ey,l,eH⟩ | ⟨kvs,k,b,e,ey,eb,l,eH⟩
 ·subst ey eH
  obtain⟨z,hd,vs,rel,dd⟩:=wM I.hok e
  have hz:vs.length≤sizeLine:=by rw[← rel.length];exact z
  have hl:(putK kvs k v).length≤sizeLine:=by have:=z7 kvs k v;omega
  refine wpAny_setItem_pairs (hsz:=hz) (wK ry) dd fun h' dd' hs=>h _ ?_
  have he:∃ q,h'.get? a=some q:=let ⟨q,_,_,hq,_⟩:=dd';⟨q,hq⟩
  exact yQ I (by rw[e];exact True.intro) hs he (wq hl hd (rel.put k rv) dd')
 ·subst ey eH
  cases (show u=Value.ref b from ry)
  obtain⟨z,hd,xs,rel,dd⟩:=VD I.hok e
  have hz:xs.length≤sizeLine:=by rw[← Paired.length rel];exact z
  have hl:(putK kvs k v).length≤sizeLine:=by have:=z7 kvs k v;omega
  refine wpAny_setItem_heap (hsz:=hz) (tupleKind_room_in1 hu) (xQ I.hok eb) dd fun h' dd' hs=>h _ ?_
  obtain⟨q,es,ep,hq,h2,h3,h4,_,h5⟩:=dd'
  refine yQ I (by rw[e];exact True.intro) hs ⟨q,hq⟩ ⟨hl,hd,_,(rel.put k eb rv).keeps fun c ys ec=>?_,q,es,ep,hq,h2,h3,h4,h5⟩
  rw[upd_ne (Vq ec e (fun z=>nomatch z))]
  exact ec
end
section
variable {X:Cx}{pins:List (Addr×Obj)}{σ:St}{H:Hp}{s:Shared}{a:Addr}{kvs:List (Key×V)}{k:Key}{u:Value}{A:Around}{E:Value→Shared→Prop}
theorem VF {Q:Value→Shared→Prop}(I:Inv X pins σ H s) (e:H a=some (.dK kvs)) (h:∀ s',Inv X pins σ (upd H a (.dK [])) s'→Q .none s'):wpAny (model X.prog X.w) A (call (.builtin "dict.clear") [.ref a]) Q E s:=by
 obtain⟨z,hd,vs,rel,dd⟩:=wM I.hok e
 refine call_meetsIn PySem.F.slot_dict_clear dd.typeIs PySem.F.entry_dict_clear (PySem.F.args_dict_clear_1 _) (meets_dict_clear (zm X.prog X.w) a) ⟨vs,dd,by rw[← rel.length];exact z,fun h' dd' hs=>h _ ?_⟩
 have he:∃ q,h'.get? a=some q:=let ⟨q,_,_,hq,_⟩:=dd';⟨q,hq⟩
 exact yQ (t':=s.toks) I (by rw[e];exact True.intro) hs he (wq (Nat.zero_le _) hd .nil dd')
end
def zet (i:Expr):Prop:=∀ ov iv,subscripted i false ov iv=operate [ov,iv] (getItem ov iv)
theorem subD_of {prog:Program}{w:World}{A:Around}{E:Value→Shared→Prop}{s:Shared}{env:Env}{value slice:Expr}{pos:Pos}{T id:String}{Q:Value→Shared→Prop}
  (hl:typeLookup (.type T) "__getitem__" = pure (some (.builtin id))) (hs:zet slice)
  (h:wpAny (model prog w) A (eval value env) (fun o s₁=>wpAny (model prog w) A (eval slice env) (fun i s₂=>s₂.TypeIs o T∧wpAny (model prog w) A (getItem o i) Q E s₂) E s₁) E s) :
  wpAny (model prog w) A (eval (.Subscript value slice pos) env) Q E s:=by
 refine Subscript_ (wpAny_mono h (fun o s₁ h₁=>wpAny_mono h₁ (fun i s₂ h₂=>?_) fun _ _ x=>x) fun _ _ x=>x)
 obtain⟨hT,h₂⟩:=h₂
 unfold subscriptTail
 refine wpAny_bind ?_
 rw[getitemInPython_of_ne hT.not_modules]
 refine wpAny_bind (wpAny_specialOf hT hl ?_)
 have fin:wpAny (model prog w) A (subscripted slice false o i) (fun r s₃=>wpAny (model prog w) A (letTemporaryGo value o r >>= fun _=>pure r) Q E s₃) E s₂:=by
  rw[hs o i]
  exact wpAny_operating (wpAny_mono h₂ (fun r s₃ h₃=>wpAny_bind (wpAny_letTemporaryGo (wpAny_pure h₃))) fun _ _ x=>x)
 first
  |exact wpAny_pure (wpAny_bind fin)
  |exact wpAny_bind (wpAny_pure (wpAny_bind fin))
  |exact wpAny_bind fin
theorem vQ {X:Cx}{pins:List (Addr×Obj)}{σ:St}{H:Hp}{s:Shared}{a:Addr}{y:V}{o:Option V}(I:Inv X pins σ H s) (g:DGet H a y o):s.TypeIs (.ref a) "dict" := by
 rcases g with⟨kvs,k,e,_,_⟩ | ⟨kvs,k,b,e,_,_,_⟩
 ·obtain⟨_,_,vs,_,dd⟩:=vP I.hok e
  exact dd.typeIs
 ·obtain⟨_,_,xs,_,dd⟩:=vN I.hok e
  exact dd.typeIs
def V6 (td ty:TE):TE:=fun σ H Q=>td σ H fun x H1=>ty σ H1 fun y H2=>∃ a v,x=.ref a∧DGet H2 a y (some v)∧Q v H2
def zeG (ty td:TE):TE:=fun σ H Q=>ty σ H fun y H1=>td σ H1 fun x H2=>∃ a o,x=.ref a∧DGet H2 a y o∧Q (.bl o.isSome) H2
def Zk (ty td:TE):TE:=fun σ H Q=>ty σ H fun y H1=>td σ H1 fun x H2=>∃ a o,x=.ref a∧DGet H2 a y o∧Q (.bl (!o.isSome)) H2
def Ub (td ty tv:TE):TS:=fun D σ H=>tv σ H fun v H1=>td σ H1 fun x H2=>ty σ H2 fun y H3=>∃ a H4,x=.ref a∧DPut H3 a y v H4∧D.nx σ H4
section
variable {X:Cx}{o i e value:Expr}{pos pos' tpos:Pos}{td ty tv:TE}
theorem vD (hu:X.A.units+1<cLine) (ho:PE X o td) (hi:PE X i ty) (hs:zet i):PE X (.Subscript o i pos) (V6 td ty):=by
 intro pins s σ H Q I h
 refine subD_of PySem.F.slot_dict_getitem.lookup hs (thn (ho pins s σ H _ I h) fun u s1 ⟨x,H1,I1,rx,q1⟩=>thn (hi pins s1 σ H1 _ I1 q1) fun iv s2 hq0=>?_)
 obtain⟨y,H2,I2,ry,a,v,ex,g,q2⟩:=hq0
 subst ex
 obtain rfl:u=Value.ref a:=rx
 exact⟨vQ I2 g,YG hu I2 g ry fun w' s3 I3 rw'=>⟨v,H2,I3,rw',q2⟩⟩
theorem Wj (hu:X.A.units+1<cLine) (hi:PE X i ty) (ho:PE X o td):PC X .In i o (zeG ty td):=by
 intro pins s σ H Q I h
 refine thn (hi pins s σ H _ I h) fun iv s1 ⟨y,H1,I1,ry,q1⟩=>thn (ho pins s1 σ H1 _ I1 q1) fun u s2 hq0=>?_
 obtain⟨x,H2,I2,rx,a,ov,ex,g,q2⟩:=hq0
 subst ex
 obtain rfl:u=Value.ref a:=rx
 exact ziY hu I2 g ry fun s3 I3=>⟨.bl ov.isSome,H2,I3,rfl,q2⟩
theorem Z7 (hu:X.A.units+1<cLine) (hi:PE X i ty) (ho:PE X o td):PC X .NotIn i o (Zk ty td):=by
 intro pins s σ H Q I h
 refine thn (hi pins s σ H _ I h) fun iv s1 ⟨y,H1,I1,ry,q1⟩=>thn (ho pins s1 σ H1 _ I1 q1) fun u s2 hq0=>?_
 obtain⟨x,H2,I2,rx,a,ov,ex,g,q2⟩:=hq0
 subst ex
 obtain rfl:u=Value.ref a:=rx
 exact VE hu I2 g ry fun s3 I3=>⟨.bl (!ov.isSome),H2,I3,rfl,q2⟩
theorem vB (hu:X.A.units+1<cLine) (ho:PE X o td) (hi:PE X i ty) (hv:PE X value tv) (hs:swapsWith value (some (.Subscript o i pos')) pos.line X.env=pure false) :
  PS X (.Assign [.Subscript o i pos'] value pos) (Ub td ty tv):=by
 intro pins s σ H D I h
 refine wpAny_Assign_Subscript (thn (hv pins s σ H _ I h) fun r s1 ⟨v,H1,I1,rv,q1⟩=>thn (ho pins s1 σ H1 _ I1 q1) fun u s2 ⟨x,H2,I2,rx,q2⟩=>thn (hi pins s2 σ H2 _ I2 q2) fun iv s3 hq0=>?_) hs
 obtain⟨y,H3,I3,ry,a,H4,ex,g,q3⟩:=hq0
 subst ex
 obtain rfl:u=Value.ref a:=rx
 exact YF hu I3 g ry rv fun s4 I4=>⟨σ,H4,I4,q3⟩
end
theorem ur {P:Program}{w:World}{H:Hp}(h:Heap) (hb:sysModules<h.objs.size):ObjOk P w H (h.push { cls:=.type "dict",data:=.dict #[] }) h.objs.size (.dK []) :=
 ⟨Nat.zero_le _,beq_eq_false_iff_ne.mpr (Ne.symm (Nat.ne_of_lt hb)),[],.nil,Heap.DictOf.new h⟩
theorem XN {P:Program}{w:World}{H:Hp}(h:Heap) (hb:sysModules<h.objs.size):ObjOk P w H (h.push { cls:=.type "dict",data:=.dict #[] }) h.objs.size (.dT []) :=
 ⟨Nat.zero_le _,beq_eq_false_iff_ne.mpr (Ne.symm (Nat.ne_of_lt hb)),[],.nil,_,#[],0,Heap.get?_push_size _ rfl,⟨rfl,rfl,rfl⟩,rfl,rfl,List.nodup_nil⟩
def X8:TE:=fun _ H Q=>∀ p,H p=none→Q (.ref p) (upd H p (.dK []))
def X7:TE:=fun _ H Q=>∀ p,H p=none→Q (.ref p) (upd H p (.dT []))
section
variable {X:Cx}{pos:Pos}
theorem ug:PE X (.Dict [] [] pos) X8:=fun pins s σ H Q I h =>
 wpAny_Dict_empty ⟨.ref s.heap.objs.size,_,I.laid (a:=s.heap.objs.size) (o:=.dK []) (t':=s.toks) (fun _ _ q=>Heap.get?_push_of_some _ q) (Nat.le_refl _) (ur s.heap I.big),rfl,h _ (I.hok.fresh (Nat.le_refl _))⟩
theorem uf:PE X (.Dict [] [] pos) X7:=fun pins s σ H Q I h =>
 wpAny_Dict_empty ⟨.ref s.heap.objs.size,_,I.laid (a:=s.heap.objs.size) (o:=.dT []) (t':=s.toks) (fun _ _ q=>Heap.get?_push_of_some _ q) (Nat.le_refl _) (XN s.heap I.big),rfl,h _ (I.hok.fresh (Nat.le_refl _))⟩
end
def Zi:List (TE×TE)→St→Hp→(List (V×V)→Hp→Prop)→Prop
 |[],_,H,Q=>Q [] H
 |(tk,tv)::r,σ,H,Q=>tk σ H fun x H1=>tv σ H1 fun y H2=>Zi r σ H2 fun ps H3=>Q ((x,y)::ps) H3
abbrev VV:List (V×V)→List (Value×Value)→Prop:=Paired fun p q=>RelV p.1 q.1∧RelV p.2 q.2
def PPs (X:Cx) (pos:Pos) (keys:List (Option Expr)) (values:List Expr) (trs:List (TE×TE)):Prop :=
 ∀ (pins:List (Addr×Obj)) (s:Shared) (σ:St) (H:Hp) (Q:List (V×V)→Hp→Prop),Inv X pins σ H s→Zi trs σ H Q →
  wpAny (model X.prog X.w) X.A (evalPairs (pairTrees keys values X.env pos)) (fun vs s'=>∃ ps H',Inv X pins σ H' s'∧VV ps vs∧Q ps H') X.xe s
theorem WV {X:Cx}{pos:Pos}:PPs X pos [] [] []:=fun pins s σ H Q I h=>pairTrees_nil_walk ⟨[],H,I,.nil,h⟩
theorem Xd {X:Cx}{pos:Pos}{k v:Expr}{ks:List (Option Expr)}{vs:List Expr}{tk tv:TE}{trs:List (TE×TE)}(hk:PE X k tk) (hv:PE X v tv) (hr:PPs X pos ks vs trs) :
  PPs X pos (some k::ks) (v::vs) ((tk,tv)::trs):=fun pins s σ H Q I h =>
 pairTrees_cons_walk (thn (hk pins s σ H _ I h) fun u s1 ⟨x,H1,I1,rx,q1⟩=>thn (hv pins s1 σ H1 _ I1 q1) fun w2 s2 ⟨y,H2,I2,ry,q2⟩ =>
  thn (hr pins s2 σ H2 _ I2 q2) fun ws s3 ⟨ps,H3,I3,rel,q3⟩=>⟨(x,y)::ps,H3,I3,.cons ⟨rx,ry⟩ rel,q3⟩)
def mergeK (kvs more:List (Key×V)):List (Key×V):=more.foldl (fun acc kv=>putK acc kv.1 kv.2) kvs
theorem KV.merge:∀ {more:List (Key×V)}{rs:List (Key×Value)}{kvs:List (Key×V)}{vs:List (Key×Value)},KV more rs→KV kvs vs→KV (mergeK kvs more) (merged vs rs):=by
 intro more rs kvs vs r
 unfold KV at r
 induction r generalizing kvs vs with
 |nil=>intro q;exact q
 | @cons p q ps qs h t ih =>
  intro r0
  have e:KV (putK kvs p.1 p.2) (stored vs q.1 q.2):=by
   have:=r0.put p.1 h.2
   rw[← h.1];exact this
  exact ih e
theorem y8:∀ (more kvs:List (Key×V)),(mergeK kvs more).length≤kvs.length+more.length
 |[],kvs=>by show kvs.length≤kvs.length+0;omega
 |p::r,kvs=>by
  have h1:=y8 r (putK kvs p.1 p.2)
  have h2:=z7 kvs p.1 p.2
  show(mergeK (putK kvs p.1 p.2) r).length≤_
  rw[List.length_cons];omega
theorem wu {P:Program}{w:World}:∀ {kvs:List (Key×V)}{ws:List (Value×Value)},VV (kvs.map fun kv=>(kV kv.1,kv.2)) ws→∃ rs,Carries (zm P w) ws rs∧KV kvs rs
 |[],_,r=>by rw[List.map_nil] at r;cases r;exact⟨[],True.intro,.nil⟩
 |p::kvs,_,r=>by
  rw[List.map_cons] at r
  cases r with
  | @cons a b as bs h t =>
   obtain⟨rs,c,q⟩:=wu (P:=P) (w:=w) t
   obtain⟨b1,b2⟩:=b
   exact⟨(p.1,b2)::rs,⟨wK h.1,rfl,c⟩,.cons ⟨rfl,h.2⟩ q⟩
def V3 (trs:List (TE×TE)):TE:=fun σ H Q=>∀ p,H p=none→Zi trs σ (upd H p (.dK [])) fun ps H2=>H2 p=some (.dK [])∧∃ kvs:List (Key×V),ps=kvs.map (fun kv=>(kV kv.1,kv.2))∧kvs.length≤15∧Q (.ref p) (upd H2 p (.dK (mergeK [] kvs)))
theorem W6 {X:Cx}{pos:Pos}{keys:List (Option Expr)}{values:List Expr}{trs:List (TE×TE)}(h:PPs X pos keys values trs) (hall:keys.all (·.isSome)=true) (hl:keys.length=values.length) (h0:keys≠[])
  (h15:keys.length≤15):PE X (.Dict keys values pos) (V3 trs):=by
 intro pins s σ H Q I q
 have hn:=I.hok.fresh (Nat.le_refl s.heap.objs.size)
 have I1:=I.laid (a:=s.heap.objs.size) (o:=.dK []) (h':=s.heap.push { cls:=.type "dict",data:=.dict #[] }) (t':=s.toks) (fun _ _ q=>Heap.get?_push_of_some _ q) (Nat.le_refl _) (ur s.heap I.big)
 refine wpAny_Dict_walk (knd:=zm X.prog X.w) hall hl h0 h15 (thn (h pins _ σ _ _ I1 (q _ hn)) fun ws s2 hq0=>?_)
 obtain⟨ps,H2,I2,rel,e,kvs,ep,lk,q2⟩:=hq0
 subst ep
 obtain⟨rs,c,rk⟩:=wu (P:=X.prog) (w:=X.w) rel
 obtain⟨z,hd,vs0,r0,dd⟩:=wM I2.hok e
 cases r0
 refine⟨rs,c,dd,fun h' dd' hs=>⟨.ref s.heap.objs.size,_,?_,rfl,q2⟩⟩
 have hz:(mergeK [] kvs).length≤sizeLine:=by
  have h1:=y8 kvs []
  rw[List.length_nil] at h1
  rw[sizeLine_eq];omega
 have he:∃ q,h'.get? s.heap.objs.size=some q:=let ⟨q,_,_,hq,_⟩:=dd';⟨q,hq⟩
 exact yQ I2 (by rw[e];exact True.intro) hs he (wq hz hd (rk.merge .nil) dd')
structure M1 (X:Cx) (o:Expr) (m:Str) (apos:Pos) (e:Expr) (cpos:Pos):Prop where
 base:attributeBase o m X.env (eval o X.env)=eval o X.env
 few:((backTo cpos (starEach [e] X.env)).all (fun x=>!x.1)&&(backToKw cpos (keywordEach [] X.env)).all (fun x=>x.1.isSome)
  && decide (([e]:List Expr).length+([]:List Keyword).length+(if ([]:List Keyword).isEmpty then 0 else 1)<30))=true
 line:(apos.endLine == cpos.line)=true
 trees:backTo cpos (starEach [e] X.env)=[(false,eval e X.env)]
structure M2 (X:Cx) (o:Expr) (m:Str) (apos:Pos) (e f:Expr) (cpos:Pos):Prop where
 base:attributeBase o m X.env (eval o X.env)=eval o X.env
 few:((backTo cpos (starEach [e,f] X.env)).all (fun x=>!x.1)&&(backToKw cpos (keywordEach [] X.env)).all (fun x=>x.1.isSome)
  && decide (([e,f]:List Expr).length+([]:List Keyword).length+(if ([]:List Keyword).isEmpty then 0 else 1)<30))=true
 line:(apos.endLine == cpos.line)=true
 trees:backTo cpos (starEach [e,f] X.env)=[(false,eval e X.env),(false,eval f X.env)]
def IsD (H:Hp) (a:Addr):Prop:=(∃ kvs,Rd H a (.dK kvs))∨∃ kvs,Rd H a (.dT kvs)
theorem wo {X:Cx}{pins:List (Addr×Obj)}{σ:St}{H:Hp}{s:Shared}{a:Addr}(I:Inv X pins σ H s) (d:IsD H a) :
  s.TypeIs (.ref a) "dict" ∧ (∀ b,Value.ref a=.ref b→∃ ob,s.heap.get? b=some ob∧ob.dict=none)∧(a == sysModules)=false:=by
 rcases d with⟨kvs,e⟩ | ⟨kvs,e⟩
 ·obtain⟨_,hd,vs,_,dd⟩:=vP I.hok e
  refine⟨dd.typeIs,fun b q=>?_,hd⟩
  cases q
  obtain⟨ob,_,_,h1,h2,_⟩:=dd
  exact⟨ob,h1,h2.2.1⟩
 ·obtain⟨_,hd,xs,_,dd⟩:=vN I.hok e
  refine⟨dd.typeIs,fun b q=>?_,hd⟩
  cases q
  obtain⟨ob,_,_,h1,h2,_⟩:=dd
  exact⟨ob,h1,h2.2.1⟩
section
variable {X:Cx}{pins:List (Addr×Obj)}{σ:St}{H:Hp}{s:Shared}{a:Addr}{y d:V}{u r:Value}{o:Option V}{A:Around}{E:Value→Shared→Prop}
theorem zab {Q:Value→Shared→Prop}(hu:A.units+1<cLine) (I:Inv X pins σ H s) (g:DGet H a y o) (ry:RelV y u) (h:∀ w' s',Inv X pins σ H s'→RelV (o.getD .non) w'→Q w' s') :
  wpAny (model X.prog X.w) A (call (.builtin "dict.get") [.ref a,u]) Q E s:=by
 rcases g with⟨kvs,k,e,ey,l⟩ | ⟨kvs,k,b,e,ey,eb,l⟩
 ·subst ey
  obtain⟨z,hd,vs,rel,dd⟩:=vP I.hok e
  refine call_meetsIn PySem.F.slot_dict_get dd.typeIs PySem.F.entry_dict_get (PySem.F.args_dict_get_2 _ _) (meets_dict_get (zm X.prog X.w) a (wK ry) hd) ⟨_,dd.mapOf,h _ _ (I.tok _) ?_⟩
  rw[l]
  exact(rel.val k).getD rfl
 ·subst ey
  cases (show u=Value.ref b from ry)
  obtain⟨z,hd,xs,rel,dd⟩:=vN I.hok e
  refine call_meetsIn PySem.F.slot_dict_get dd.typeIs PySem.F.entry_dict_get (PySem.F.args_dict_get_2 _ _) (meetsH_dict_get (tupleKind (zm X.prog X.w)) a b hd) ⟨tupleKind_room_in1 hu,k,xs,xQ I.hok eb,dd,h _ _ (I.tok _) ?_⟩
  rw[l]
  exact(rel.val k).getD rfl
end
def X9 (td ty:TE):TE:=fun σ H Q=>td σ H fun x H1=>∃ a,x=.ref a∧IsD H1 a∧ty σ H1 fun y H2=>∃ o,DGet H2 a y o∧Q (o.getD .non) H2
section
variable {X:Cx}{o e f:Expr}{apos cpos:Pos}{td ty tx:TE}
theorem Xh (hu:X.A.units+1<cLine) (ho:PE X o td) (he:PE X e ty) (m:M1 X o "get" apos e cpos):PE X (.Call (.Attribute o "get" apos) [e] [] cpos) (X9 td ty):=by
 intro pins s σ H Q I h
 refine wpAny_Call_method m.base m.few m.line PySem.F.plainAttrs_dict PySem.F.slot_dict_get PySem.F.type_dict_get (thn (ho pins s σ H _ I h) fun u s1 hq0=>?_)
 obtain⟨x,H1,I1,rx,a,ex,d,q1⟩:=hq0
 subst ex
 obtain rfl:u=Value.ref a:=rx
 obtain⟨t1,t2,_⟩:=wo I1 d
 refine⟨t1,t2,?_⟩
 rw[m.trees]
 refine Calls.callWith_builtin rfl (Calls.evalArgs_plain (Calls.spliced_cons (thn (he pins s1 σ H1 _ I1 q1) fun iv s2 ⟨y,H2,I2,ry,ov,g,q2⟩=>Calls.spliced_nil ?_)))
 exact zab hu I2 g ry fun w' s3 I3 rw'=>⟨_,H2,I3,rw',q2⟩
end
end L2
namespace Att
open PySem PySem.W PySem.Calls PyProof.Rows
theorem xR {P:Params}{h:Heap}:∀ (ns:List Int) (vs:List Value),WellAll P h vs (ns.map WData.int)→IntsAre vs ns:=by
 intro ns
 induction ns with
 |nil =>
  intro vs w
  rw[List.map_nil] at w
  cases w
  exact .nil
 |cons n ns ih =>
  intro vs w
  rw[List.map_cons] at w
  cases w with
  |cons a b =>
   cases a
   exact .cons _ _ (ih _ b)
theorem ZW {l:OpenLaw}{n:Nat}(hn:l.most=some n){P:Params}{h:Heap}{args:List WData}{vals:List Value}
  (hpre:l.row.toRowW.claim.pre args=true) (hwl:WellAll P h vals args) :
  ∃ a vs ns,vals=[Value.ref a]∧args=[WData.list (ns.map WData.int)]∧h.get? a=some { cls:=.type "list",data:=.seq vs.toArray }∧IntsAre vs ns∧ns.length≤n:=by
 have hsh:WShape.hasAll [] args [.list .int]=true:=(pre_splitW hpre).1
 have hc:l.pre.holds [] { args:=args }=true:=(pre_splitW hpre).2
 obtain⟨d,r,rfl,h1,h2⟩:=hasAllW_cons hsh
 obtain rfl:=hasAllW_nil h2
 obtain⟨xs,rfl,h3⟩:=hasW_list h1
 obtain⟨ns,rfl⟩:=items_int h3
 have hlen:ns.length≤n:=by
  unfold OpenLaw.pre at hc
  have h4:(WTm.not (.lt (.lit (.int (n:Int))) (.len (.arg 0)))).holds [] { args:=[.list (ns.map .int)] }=true:=by
   have h4:=(holds_andW hc).1
   rw[hn] at h4
   exact h4
  have h5:=condW_of h4 (w_not (w_lt w_lit (w_len_list (w_arg rfl))))
  rw[List.length_map] at h5
  refine Nat.le_of_not_lt fun q=>?_
  have q':(n:Int)<((ns.length:Nat):Int):=by omega
  first
   |(rw[decide_eq_true q'] at h5;exact absurd h5 (by decide))
   |(simp at h5;omega)
 cases hwl with
 |cons w1 w2 =>
  cases w2
  cases w1 with
  |list ho hall=>exact⟨_,_,ns,rfl,rfl,ho,xR ns _ hall,hlen⟩
theorem ZY (l:OpenLaw) (args:List WData):l.row.toRowW.claim.post args (.bool true) args=true :=
 postW_of (r:=l.row.toRowW) (X:=(true == true))
  (show WShape.has [] (.bool true) .bool=true by first | rfl | decide | simp[WShape.has,WShape.arms,WShape.armsAll])
  (show(WTm.eq .res (.lit (.bool true))).value [] { args:=args,res:=some (.bool true),after:=args }=some (.bool (true == true)) from w_eq_bool (w_res rfl) w_lit) rfl
theorem attach_call {l:OpenLaw}{n:Nat}{q:Program}{loose:List Str}{XP:(Str→Option Value)→Heap→Prop}{YP:World→Heap→Prop}{d:DefRec}
  (hn:l.most=some n) (hdf:d.params.defaults=[])
  (call:∀ (w:World) (s₀ s₁:Shared) (mg mb:Str→Option Value) (fa:Addr) (o:Obj) (pm cd doc:Value) (a:Addr) (vs:List Value) (ns:List Int),
   Ground q loose [] XP w s₀ mg mb s₁.heap→YP w s₁.heap →
   s₁.heap.get? fa=some o→o.data=.func (docDef d.name d.params d.body d.scope pm cd doc)→s₁.heap.CodeRec cd d.name→mg d.name=some (.ref fa) →
   s₁.heap.get? a=some { cls:=.type "list",data:=.seq vs.toArray }→IntsAre vs ns→ns.length≤n→s₁.gens = #[] →
   codeAny (model l.prog w) callerA (.call (.ref fa) ⟨[.ref a],[]⟩) (fun r s'=>r=.ok (.ret (.bool true))∧OldK s₁.heap s'.heap∧s'.os=s₁.os∧AllBare s'.gens) s₁) :
  WalkO q loose XP YP l.row.toRowW d [] (fun f vs=>PySem.call f vs):=by
 intro w s₀ s₁ mg mb G Y fa o pm cd doc dV kV ho hd hcd hD hmg hg args vals as hpre hlay hrd hwl hlo
 obtain rfl:dV=.none:=Dflts.none hD hdf
 obtain rfl:kV=.none:=Dflts.noKw hD
 obtain⟨a,vs,ns,rfl,rfl,hobj,hints,hlen⟩:=ZW hn hpre hwl
 refine enter_call (codeAny_mono (call w s₀ s₁ mg mb fa o pm cd doc a vs ns G Y ho (fd_plain hd) hcd hmg hobj hints hlen hg) fun r s' hq=>?_)
 obtain⟨rfl,h2,h3,h4⟩:=hq
 exact⟨.inl ⟨.bool true,.bool true,[],rfl,fun _=>rfl,.bool true,ZY l _,fun _=>⟨List.Pairwise.nil,fun _ hm=>(nomatch hm)⟩⟩,h2,h3,h4⟩
end Att
namespace L2
open PySem PySem.Spec PyProof.Rows
theorem wT:∀ {vs:List Value}{ns:List Int},IntsAre vs ns→Vals (ns.map V.int) vs
 |_,_,.nil=>.nil
 |_,_,.cons n t h=>.cons ⟨t,rfl⟩ (wT h)
def zaf (H:Hp):Prop:=∀ b,H b=none∨∃ o xs,H b=some (.frz o (.lst xs))
theorem XA {P:Program}{w:World}{K:PySem.W.Frag}{mg mb:Str→Option Value}{CX:CXT}{k:Nat}{fa a:Addr}{fd:FuncData}{x:Str}{sp:Sp}{s₁:Shared}{vs:List Value}{ns:List Int}
  (KX:K.In s₁.heap) (hns:s₁.heap.Ns mainGlobals mg) (hb:s₁.heap.Ns builtinsNs mb) (hbb:∀ x:Str,x ≠ "__name__" → mb x=bootBuiltins x) (hlim:s₁.heap.NoLimit) (hg:s₁.gens = #[])
  (ha:s₁.heap.get? a=some { cls:=.type "list",data:=.seq vs.toArray }) (hi:IntsAre vs ns) (hl:ns.length≤sizeLine) (hr:Room k callerA)
  (F:∀ base:Heap,K.In base→base.Ns mainGlobals mg→FnOk P w K mg base CX k fa fd [x] sp) (hbind:∀ (s:Shared) (u:Value),BindsTo s fd ⟨[u],[]⟩ [(x,u)])
  (hsp:∀ H:Hp,zaf H→SqL K H a (ns.map V.int)→sp [.ref a] H (fun v _=>v=.bl true) fun _ _ _=>False)
  (hCX:∀ H e s',CX [] H s₁ (fun _ _ _=>False) e s'→False) :
  codeAny (model P w) callerA (.call (.ref fa) ⟨[.ref a],[]⟩) (fun r s'=>r=.ok (.ret (.bool true))∧OldK s₁.heap s'.heap∧s'.os=s₁.os∧AllBare s'.gens) s₁:=by
 have rv:=wT hi
 have lenV:=hi.length
 -- from an abstract heap in which nothing but the script may be tracked
 have core:∀ H:Hp,zaf H→SqL K H a (ns.map V.int)→HOk P w H s₁.heap→(∀ b,H b≠none→b=a)→(H a≠none→K.lookup a=none) →
   codeAny (model P w) callerA (.call (.ref fa) ⟨[.ref a],[]⟩) (fun r s'=>r=.ok (.ret (.bool true))∧OldK s₁.heap s'.heap∧s'.os=s₁.os∧AllBare s'.gens) s₁:=by
  intro H hO hS hok hA hK
  have base_of:∀ {b:Addr}{o:Obj},s₁.heap.get? b=some o→H b=none→(XD s₁.heap H).get? b=some o:=fun e n=>XC e n
  have noA:∀ {b:Addr}{o:Obj}{es:Array DictEntry}{ep:Nat},s₁.heap.get? b=some o→o.data=.dict es ep→H b=none:=fun {b o es ep} e d=>by
   cases q:H b with
   |none=>rfl
   |some u =>
    have e':b=a:=hA b (by rw[q];simp)
    subst e'
    rw[ha] at e;cases e
    have d':Data.seq vs.toArray _=Data.dict es ep:=d
    cases d'
  have nsK:∀ {b:Addr}{m:Str→Option Value},s₁.heap.Ns b m→(XD s₁.heap H).Ns b m:=fun {b m} ⟨o,es,ep,e,d,r⟩=>⟨o,es,ep,base_of e (noA e d),d,r⟩
  have hKb:K.In (XD s₁.heap H):=fun b o e=>base_of (KX b o e) (by
   cases q:H b with
   |none=>rfl
   |some u =>
    have e':b=a:=hA b (by rw[q];simp)
    subst e'
    rw[hK (by rw[q];simp)] at e;cases e)
  have hM:Mod K mg (XD s₁.heap H):=⟨hKb,nsK hns,⟨mb,nsK hb,hbb⟩,let ⟨mc,h1,h2⟩:=hlim;⟨mc,nsK h1,h2⟩⟩
  have e0:Env0 P w K mg (XD s₁.heap H) callerA [] s₁ H:=⟨rfl,hM,fun b o e=>Vm e,Nat.le_of_eq (Yv _ _),trivial,fun b hb=>absurd (show b∈([]:List Addr) from hb) (by simp),hok,.of_eq hg⟩
  refine codeAny_mono ((F _ hKb (nsK hns)).run callerA [] s₁ H ⟨[.ref a],[]⟩ [.ref a] [.ref a] _ _ hr e0 (hbind s₁ (.ref a)) (.cons rfl .nil) (hsp H hO hS)) fun r s' h=>?_
  cases r with
  |error e=>exact(hCX H e s' h).elim
  |ok fl =>
   cases fl with
   |next=>exact False.elim h
   |brk=>exact False.elim h
   |cont=>exact False.elim h
   |ret u =>
    obtain⟨v,H',os,bare,un,hok',r',q⟩:=h
    have q':v=.bl true:=q
    subst q'
    obtain rfl:u=Value.bool true:=r'
    refine⟨rfl,OldK.of_keep fun b o e=>?_,os,bare⟩
    cases q:H b with
    |none=>exact un.keep b o e q (by intro z;exact absurd (show b∈([]:List Addr) from z) (by simp)) (by simp)
    |some u =>
     rcases hO b with z | ⟨ob,xs,z⟩
     ·rw[q] at z;cases z
     ·have z2:=un.frzs b ob _ z
      obtain⟨e1,_⟩:=hok b _ z
      obtain⟨e2,_⟩:=hok' b _ z2
      rw[e] at e1;cases e1
      exact e2
 cases hk:K.lookup a with
 |some o =>
  -- the script is one of the module's own objects
  have e:=KX a o hk
  rw[ha] at e
  cases e
  refine core (fun _=>none) (fun _=>.inl rfl) (.inr ⟨_,vs.toArray,_,hk,rfl,rfl,rfl,by rw[List.size_toArray,lenV];exact hl,by simpa using rv⟩) (fun b u z=>by have z':(none:Option HO)=some u:=z;cases z') (fun b z=>absurd rfl z) fun z=>absurd rfl z
 |none =>
  refine core (fun b=>if b=a then some (.frz { cls:=.type "list",data:=.seq vs.toArray } (.lst (ns.map V.int))) else none) (fun b=>?_) (.inl (.inr ⟨{ cls:=.type "list",data:=.seq vs.toArray },if_pos rfl⟩)) (fun b u z=>?_) (fun b z=>?_) fun _=>hk
  ·by_cases hb:b=a
   ·exact .inr ⟨_,_,if_pos hb⟩
   ·exact .inl (if_neg hb)
  ·by_cases hb:b=a
   ·have z':=(if_pos hb).symm.trans z
    cases z'
    subst hb
    exact⟨ha,by rw[List.length_map];exact hl,vs,_,rv,ha⟩
   ·have z':=(if_neg hb).symm.trans z
    cases z'
  ·by_cases hb:b=a
   ·exact hb
   ·exact absurd (if_neg hb) z
noncomputable abbrev KOf {K:PySem.W.Frag}{h:Heap}(_:K.In h):PySem.W.Frag:=K
theorem Wx {l:PySem.W.OpenLaw}{n k:Nat}{q:Program}{loose:List Str}{XP:(Str→Option Value)→Heap→Prop}{YP:World→Heap→Prop}{d:DefRec}{K:Params→PySem.W.Frag}{CX:World→CXT}{sp:World→Sp}{x:Str}
  (hn:l.most=some n) (hn2:n≤sizeLine) (hdf:d.params.defaults=[]) (hr:Room k callerA)
  (hY:∀ (w:World) (h:Heap),YP w h→(K w.params).In h)
  (F:∀ (w:World) (mg:Str→Option Value) (fa:Addr) (h:Heap),(K w.params).In h→h.Ns mainGlobals mg→mg d.name=some (.ref fa) →
   ∃ fd:FuncData,(∀ (s:Shared) (u:Value),BindsTo s fd ⟨[u],[]⟩ [(x,u)]) ∧
    ∀ base:Heap,(K w.params).In base→base.Ns mainGlobals mg→FnOk l.prog w (K w.params) mg base (CX w) k fa fd [x] (sp w))
  (hsp:∀ (w:World) (H:Hp) (a:Addr) (ns:List Int),ns.length≤n→zaf H→SqL (K w.params) H a (ns.map V.int)→sp w [.ref a] H (fun v _=>v=.bl true) fun _ _ _=>False)
  (hCX:∀ (w:World) (H:Hp) (s:Shared) (e:Value) (s':Shared),CX w [] H s (fun _ _ _=>False) e s'→False) :
  PySem.W.WalkO q loose XP YP l.row.toRowW d [] (fun f vs=>PySem.call f vs):=by
 refine Att.attach_call hn hdf fun w s₀ s₁ mg mb fa o pm cd doc a vs ns G Y ho hd hcd hmg hobj hints hlen hg=>?_
 have KX:=hY w _ Y
 obtain⟨fd,hb,hF⟩:=F w mg fa _ KX G.T.g hmg
 exact XA KX G.T.g G.T.b G.T.builtins G.T.nolimit hg hobj hints (Nat.le_trans hlen hn2) hr hF hb (fun H hO hS=>hsp w H a ns hlen hO hS) fun H e s'=>hCX w H s₁ e s'
theorem walk_ofK {l:PySem.W.OpenLaw}{n k:Nat}{q:Program}{loose:List Str}{XP:(Str→Option Value)→Heap→Prop}{YP:World→Heap→Prop}{d:DefRec}{K:Params→PySem.W.Frag}{CX:CXT}{sp:PySem.W.Frag→Sp}{x:Str}
  (hn:l.most=some n) (hn2:n≤sizeLine) (hdf:d.params.defaults=[]) (hr:Room k callerA)
  (hY:∀ (w:World) (h:Heap),YP w h→(K w.params).In h)
  (F:∀ (w:World) (mg:Str→Option Value) (fa:Addr) (h:Heap),(K w.params).In h→h.Ns mainGlobals mg→mg d.name=some (.ref fa) →
   ∃ fd:FuncData,(∀ (s:Shared) (u:Value),BindsTo s fd ⟨[u],[]⟩ [(x,u)]) ∧
    ∀ base:Heap,(K w.params).In base→base.Ns mainGlobals mg→FnOk l.prog w (K w.params) mg base CX k fa fd [x] (sp (K w.params)))
  (hsp:∀ (K:PySem.W.Frag) (H:Hp) (a:Addr) (ns:List Int),ns.length≤n→zaf H→SqL K H a (ns.map V.int)→sp K [.ref a] H (fun v _=>v=.bl true) fun _ _ _=>False)
  (hCX:∀ (H:Hp) (s:Shared) (e:Value) (s':Shared),CX [] H s (fun _ _ _=>False) e s'→False) :
  PySem.W.WalkO q loose XP YP l.row.toRowW d [] (fun f vs=>PySem.call f vs) :=
 Wx (K:=K) (CX:=fun _=>CX) (sp:=fun w=>sp (K w.params)) hn hn2 hdf hr hY F (fun w H a ns h1 h2 h3=>hsp (K w.params) H a ns h1 h2 h3) fun _ H s e s'=>hCX H s e s'
noncomputable def inClass (s:Stmt) (j:Nat):Stmt:=match s with
 |.ClassDef _ _ _ body _ _ _ _ _ _ _=>body.getD j (.Pass ⟨0,0,0,0⟩)
 |_=>.Pass ⟨0,0,0,0⟩
noncomputable def defArgs (s:Stmt):Arguments:=match s with
 |.FunctionDef _ a _ _ _ _ _ _ _ _=>a
 |_=>{ posonlyargs:=[],args:=[],vararg:=none,kwonlyargs:=[],kw_defaults:=[],kwarg:=none,defaults:=[] }
noncomputable def defBody (s:Stmt):List Stmt:=match s with
 |.FunctionDef _ _ b _ _ _ _ _ _ _=>b
 |_=>[]
noncomputable def defScope (s:Stmt):Scope:=match s with
 |.FunctionDef _ _ _ _ _ _ sc _ _ _=>sc
 |_=>{ kind:=.function,names:=[],isGenerator:=false,isCoroutine:=false }
abbrev CX0:CXT:=fun _ _ _ _ _ _=>False
abbrev E0:XK:=fun _ _ _=>False
theorem Xi {X:Cx}:xV CX0 X E0:=fun _ _ _ _ _ _ _ h=>h.elim
structure Fun (K:PySem.W.Frag) (x qual:Str) (st:Stmt) (f:Addr) (fd:FuncData):Prop where
 ex:∃ (oc:Value) (od:Option Addr) (kV doc pm:Value) (an:Option Addr) (cdv ct:Value) (osl:Array (Option Value)),
  fd=PySem.W.fnOf x qual (defArgs st) (defBody st) (defScope st) .none kV doc pm an cdv ct∧K.lookup f=some ⟨oc,od,.func fd,osl⟩∧PySem.W.codeIn K cdv qual=true
 kp:PySem.W.keepIn K (.ref f)=true
section
variable {P:Program}{w:World}{K:PySem.W.Frag}{mg:Str→Option Value}{base:Heap}
theorem Fun.ok {x qual:Str}{st:Stmt}{f:Addr}{fd:FuncData}{N ps:List Str}{k:Nat}{sp:Sp}(F:Fun K x qual st f fd) (S:FnScope N ps (defScope st)) (len:∀ vs H Q E,sp vs H Q E→vs.length=ps.length)
  (hbody:∀ (cdv:Value) (A:Around) (outer:List Env) (s:Shared) (H:Hp) (vs:List V) (Q:VK) (E:XK),Room k (A.deeper (envOfC qual (defScope st) s.heap.objs.size f cdv))→sp vs H Q E →
   ∃ t,PSs (VJ CX0 P w K mg base N qual (defScope st) f cdv A outer s H E).nox (defBody st) t∧t { nx:=fun _ H'=>Q .non H',rt:=Q } (start N vs) H):FnOk P w K mg base CX0 (k+1) f fd ps sp:=by
 obtain⟨oc,od,kV,doc,pm,an,cdv,ct,osl,rfl,lk,hcd⟩:=F.ex
 refine zeo lk hcd S len fun A outer s H vs Q E hr hsp=>?_
 obtain⟨t,h,q⟩:=hbody cdv A outer s H vs Q E hr hsp
 exact⟨t,h.nox,q⟩
theorem Fun.binds {x qual:Str}{st:Stmt}{f:Addr}{fd:FuncData}{ps:List Str}(F:Fun K x qual st f fd)
  (h:∀ (kV doc pm:Value) (an:Option Addr) (cdv ct:Value) (us:List Value),us.length=ps.length→bindArgs (PySem.W.fnOf x qual (defArgs st) (defBody st) (defScope st) .none kV doc pm an cdv ct) ⟨us,[]⟩=pure (ps.zip us)):Binds K fd ps []:=by
 obtain⟨oc,od,kV,doc,pm,an,cdv,ct,osl,rfl,lk,hcd⟩:=F.ex
 exact .all (h kV doc pm an cdv ct)
theorem zu {x qual:Str}{st:Stmt}{f:Addr}{oc:Value}{od an:Option Addr}{osl:Array (Option Value)}{kV doc pm cdv ct:Value}(l:K.lookup f=some ⟨oc,od,.func (PySem.W.fnOf x qual (defArgs st) (defBody st) (defScope st) .none kV doc pm an cdv ct),osl⟩)
  (c:PySem.W.codeIn K cdv qual=true) (k:PySem.W.keepIn K (.ref f)=true):Fun K x qual st f (PySem.W.fnOf x qual (defArgs st) (defBody st) (defScope st) .none kV doc pm an cdv ct):=⟨⟨oc,od,kV,doc,pm,an,cdv,ct,osl,rfl,l,c⟩,k⟩
end
theorem xm {A:Around}{k:Nat}(hr:Room k A):A.units+1<cLine:=Nat.lt_of_le_of_lt (Nat.add_le_add_left (by decide:1≤64) _) hr.units
theorem zi {n:Nat}(h:n≤1000):n<sizeLine:=Nat.lt_of_le_of_lt h (by decide)
section
variable {X:Cx}
theorem pv (i:Nat){x:Str}{pos:Pos}(hN:X.N[i]?=some x:=by rfl) (hv:Vis X.env.scope x:=by first | exact Or.inl rfl | exact Or.inr (Or.inl rfl) | exact Or.inr (Or.inr rfl)) (hd:(x == ("__debug__" : Str))=false:=by decide)
  (hcd:(x == ("__classdict__" : Str))=false:=by decide):PE X (.Name x pos) (zbH i):=Ul hN hv hd hcd
end
theorem ziX {A B:Prop}(h:B):if false=true then A else B:=by
 rw[if_neg Bool.false_ne_true]
 exact h
theorem vt {A B:Prop}(h:A):if true=true then A else B:=by
 rw[if_pos rfl]
 exact h
theorem ite2 {c A B:Prop} [Decidable c] (h1:c→A) (h2:¬ c→B):if c then A else B:=by
 by_cases h:c
 ·rw[if_pos h]
  exact h1 h
 ·rw[if_neg h]
  exact h2 h
def Same (H H':Hp):Prop:=∀ b o,H b=some o→H' b=some o
theorem Same.trans {H H1 H2:Hp}(a:Same H H1) (b:Same H1 H2):Same H H2:=fun c o h=>b c o (a c o h)
theorem Same.free {H H':Hp}(e:Same H H'){l:Addr}(h:H' l=Option.none):H l=Option.none:=by
 cases q:H l with
 |none=>rfl
 |some o =>
  rw[e l o q] at h
  cases h
end L2
set_option maxHeartbeats 4000000
namespace L2
open PySem PySem.Spec PyProof.Rows
def VX (t u:TS):TS:=fun D σ H=>∃ M:St→Hp→Prop,t { D with nx:=M } σ H∧∀ σ' H',M σ' H'→u D σ' H'
theorem WR {X:Cx}{st:Stmt}{rest:List Stmt}{t u:TS}(h1:PS X st t) (h2:PSs X rest u):PSs X (st::rest) (VX t u):=by
 intro pins s σ H D I h
 obtain⟨M,h,hM⟩:=h
 refine wpAny_execs_cons (thn (h1 pins s σ H { D with nx:=M } I h) fun f s1 q=>?_)
 cases f with
 |next =>
  obtain⟨σ',H',I',q⟩:=q
  exact h2 pins s1 σ' H' D I' (hM σ' H' q)
 |brk=>exact q
 |cont=>exact q
 |ret u=>exact q
theorem iteB {c:Bool}{A B:Prop}(hc:c=true) (h:A):if c=true then A else B:=by rw[if_pos hc];exact h
theorem z4 {c:Bool}{A B:Prop}(hc:c=false) (h:B):if c=true then A else B:=by rw[hc];exact ziX h
def PTs (X:Cx) (ifs:List Expr) (t:TT):Prop :=
 ∀ (pins:List (Addr×Obj)) (s:Shared) (σ:St) (H:Hp) (Q:Bool→Hp→Prop),Inv X pins σ H s→t σ H Q →
  wpAny (model X.prog X.w) X.A (forIn ifs true fun c r=>if r=true then do let ok ← isTrue c X.env (eval c X.env);pure (ForInStep.yield ok) else pure (ForInStep.yield r)) (TP X pins σ Q) X.xe s
def zag:TT:=fun _ H Q=>Q true H
theorem VL {τ:St}{H:Hp}{A B:Hp→Prop}(h:A H):zag τ H (fun b H5=>if b=true then A H5 else B H5):=by
 show if true=true then A H else B H
 exact vt h
theorem WQ {X:Cx}:PTs X [] zag:=fun _ _ _ H _ I h=>wpAny_tests_nil ⟨H,I,h⟩
theorem WO {X:Cx}{c:Expr}{t:TT}(h:PT X c t):PTs X [c] t:=fun pins s σ H Q I hw=>wpAny_tests_one (h pins s σ H Q I hw)
section
variable {prog:Program}{w:World}{A:Around}{R:Result→Shared→Prop}{s:Shared}
abbrev NoE:Value→Shared→Prop:=fun _ _=>False
theorem zcl {α:Type}{m:Sem α}{Q:α→Shared→Prop}{E:Value→Shared→Prop}{s:Shared}(h:wpAny (model prog w) A m Q NoE s):wpAny (model prog w) A m Q E s :=
 wpAny_mono h (fun _ _ q=>q) fun _ _ z=>z.elim
def YT (prog:Program) (w:World) (A:Around) (env:Env) (tg:Expr) (ifs:List Expr) (elt:Expr) (it acc:Value) (again:Shared→Prop) (v:Value) (s1:Shared):Prop :=
 wpAny (model prog w) A (letOwnedTupleGo tg it v) (fun _ s2=>wpAny (model prog w) A (assign tg env v) (fun _ s3 =>
  wpAny (model prog w) A (forIn ifs true fun c r=>if r=true then do let ok ← isTrue c env (eval c env);pure (ForInStep.yield ok) else pure (ForInStep.yield r)) (fun ok s4 =>
   if ok=true then wpAny (model prog w) A (eval elt env) (fun x s5=>wpAny (model prog w) A (call (.builtin "list.append") [acc,x]) (fun _ s6=>again s6) NoE s5) NoE s4
   else again s4) NoE s3) NoE s2) NoE s1
theorem uQ {elt tg iter:Expr}{ifs:List Expr}{scope:Scope}{pos:Pos}{it acc:Value}{env:Env}(J:Nat→Shared→Prop)
  (turn:∀ n s,J n s→wpAny (model prog w) A (pyNext it) (fun r s1=>match r with
   |none=>R (.ok .next) s1
   |some v=>YT prog w A env tg ifs elt it acc (fun s6=>∃ m,m<n∧J m s6) v s1) NoE s)
  (n:Nat) (h:J n s):codeAny (model prog w) A (.compLoop (.ListComp elt [⟨tg,iter,ifs,0⟩] scope pos) 0 it acc env) R s:=by
 refine codeAny_loop rfl J (fun n s hJ=>?_) n h
 show wpAny _ A ((compTurn (.ListComp elt [⟨tg,iter,ifs,0⟩] scope pos) 0 it acc env).onRaise (fun x=>do noteFrame x env;theTreesLotGoes x)) _ _ s
 refine wpAny_noted (zcl ?_)
 rw[compTurn_list]
 refine wpAny_bind (wpAny_standAt (wpAny_bind (thn (turn n s hJ) fun r s1 h1=>?_)))
 cases r with
 |none=>exact wpAny_pure h1
 |some v =>
  refine wpAny_bind (thn h1 fun _ s2 h2=>wpAny_bind (thn h2 fun _ s3 h3=>wpAny_bind (thn h3 fun ok s4 h4=>?_)))
  cases ok with
  |false=>exact wpAny_pure ⟨rfl,h4⟩
  |true=>exact wpAny_bind (wpAny_bind (thn h4 fun x s5 h5=>wpAny_bind (thn h5 fun _ s6 h6=>wpAny_pure (wpAny_pure ⟨rfl,h6⟩))))
end
theorem vS {env:Env}:∀ (names:List (Str×NameKind)) (acc:List (Str×Addr)),(∀ y∈names,y.2=.free→∃ c,env.cells.lookup y.1=some c)→(∀ x c,acc.lookup x=some c→env.cells.lookup x=some c) →
  ∃ cl,(forIn names acc (fun(y:Str×NameKind) (cs:List (Str×Addr))=>(if (y.2 == NameKind.free)=true then(do let c ← cellOf env y.1;pure (ForInStep.yield ((y.1,c)::cs))) else pure (ForInStep.yield cs):Sem (ForInStep (List (Str×Addr))))))=(pure cl:Sem (List (Str×Addr))) ∧
   (∀ x c,cl.lookup x=some c→env.cells.lookup x=some c)∧(∀ x,(acc.lookup x).isSome=true→(cl.lookup x).isSome=true)∧(∀ y∈names,y.2=.free→(cl.lookup y.1).isSome=true)
 |[],acc,_,h2=>⟨acc,rfl,h2,fun _ h=>h,fun y hy=>by cases hy⟩
 |(n,k)::r,acc,h1,h2=>by
  have h1':∀ y∈r,y.2=.free→∃ c,env.cells.lookup y.1=some c:=fun y hy=>h1 y (List.mem_cons_of_mem _ hy)
  by_cases hk:k=.free
  ·subst hk
   obtain⟨c,hc⟩:=h1 (n,.free) List.mem_cons_self rfl
   have h2':∀ x c',(((n,c)::acc:List (Str×Addr)).lookup x)=some c'→env.cells.lookup x=some c':=fun x c' e=>by
    rw[List.lookup_cons] at e
    by_cases hx:(x == n)=true
    ·rw[hx] at e
     cases e
     rw[beq_iff_eq.mp hx]
     exact hc
    ·rw[Bool.not_eq_true] at hx
     rw[hx] at e
     exact h2 x c' e
   obtain⟨cl,e,p1,p2,p3⟩:=vS r ((n,c)::acc) h1' h2'
   refine⟨cl,?_,p1,fun x hx=>p2 x ?_,fun y hy hf=>?_⟩
   ·rw[List.forIn_cons]
    have q:cellOf env n=pure c:=by unfold cellOf;rw[hc]
    simp only[beq_self_eq_true,if_true,q,pure_bind]
    exact e
   ·rw[List.lookup_cons]
    cases q:x == n with
    |true=>rfl
    |false=>exact hx
   ·rcases List.mem_cons.mp hy with rfl | hy
    ·exact p2 n (by rw[List.lookup_cons,beq_self_eq_true];rfl)
    ·exact p3 y hy hf
  ·obtain⟨cl,e,p1,p2,p3⟩:=vS r acc h1' h2
   have hb:(k == NameKind.free)=false:=by simpa using hk
   refine⟨cl,?_,p1,p2,fun y hy hf=>?_⟩
   ·rw[List.forIn_cons]
    simp only[hb,Bool.false_eq_true,if_false,pure_bind]
    exact e
   ·rcases List.mem_cons.mp hy with rfl | hy
    ·exact absurd hf hk
    ·exact p3 y hy hf
structure Clos (env:Env) (scope:Scope) (cl:List (Str×Addr)):Prop where
 eq:closureFor scope env=pure cl
 sub:∀ x c,cl.lookup x=some c→env.cells.lookup x=some c
 all:∀ y∈scope.names,y.2=.free→(cl.lookup y.1).isSome=true
theorem YI {env:Env}{scope:Scope}(h:∀ y∈scope.names,y.2=.free→∃ c,env.cells.lookup y.1=some c):∃ cl,Clos env scope cl:=by
 obtain⟨cl,e,p1,p2,p3⟩:=vS (env:=env) scope.names [] h (fun x c z=>by simp at z)
 refine⟨cl,⟨?_,p1,p3⟩⟩
 have q:closureFor scope env=(forIn scope.names [] (fun(y:Str×NameKind) (cs:List (Str×Addr))=>(if (y.2 == NameKind.free)=true then(do let c ← cellOf env y.1;pure (ForInStep.yield ((y.1,c)::cs))) else pure (ForInStep.yield cs):Sem (ForInStep (List (Str×Addr))))) >>= fun s=>pure s):=rfl
 rw[q,e,pure_bind]
noncomputable abbrev yM (X:Cx) (scope:Scope) (N':List Str) (cl:List (Str×Addr)) (C:Addr) (s₀:Shared) (H₀:Hp) (fp:List Addr):Cx :=
 { X with N:=N',s₀:=s₀,H₀:=H₀,env:=compEnvC scope cl C X.env,outer:=X.stack,ex:=fp,fn:=fun _=>false,pn:=[],xe:=NoE }
structure Blk where
 cl:List (Str×Addr)
 C:Addr
 s₀:Shared
 H₀:Hp
 fp:List Addr
abbrev cxB (X:Cx) (scope:Scope) (N':List Str) (b:Blk):Cx:=yM X scope N' b.cl b.C b.s₀ b.H₀ b.fp
noncomputable def Yr:Option NameKind→Bool
 |some .cell=>true
 |some .free=>true
 |_=>false
theorem xA {k:Option NameKind}(h:Yr k=true):k=some .cell∨k=some .free:=by
 cases k with
 |none=>cases h
 |some k=>cases k<;>first | exact .inl rfl | exact .inr rfl | cases h
def XU (N:List Str) (kd kd':Str→Option NameKind) (N':List Str) (t:Nat):List Nat→Nat→Bool
 |[],k=>N'.length == t+k
 |j::r,k=>(match N[j]?,N'[t+k]? with
  |some x,some y=>(x == y)&&Yr (kd x)&&Yr (kd' x)
  |_,_=>false)&&XU N kd kd' N' t r (k+1)
theorem vn {N:List Str}{kd kd':Str→Option NameKind}{N':List Str}{t:Nat}:∀ {caps:List Nat}{k:Nat},XU N kd kd' N' t caps k=true→N'.length=t+k+caps.length
 |[],k,h=>by
  have:=beq_iff_eq.mp h
  simpa using this
 |j::r,k,h=>by
  have:=vn (Bool.and_eq_true_iff.mp h).2
  rw[List.length_cons]
  omega
theorem uu {N:List Str}{kd kd':Str→Option NameKind}{N':List Str}{t:Nat}:∀ {caps:List Nat}{k i j:Nat},XU N kd kd' N' t caps k=true→caps[i]?=some j →
  ∃ x,N[j]?=some x∧N'[t+k+i]?=some x∧Yr (kd x)=true∧Yr (kd' x)=true
 |[],_,_,_,_,e=>by simp at e
 |j::r,k,0,j',h,e=>by
  simp at e
  subst e
  have h1:=(Bool.and_eq_true_iff.mp h).1
  cases q:N[j]? with
  |none=>rw[q] at h1;cases h1
  |some x =>
   cases q':N'[t+k]? with
   |none=>rw[q,q'] at h1;cases h1
   |some y =>
    rw[q,q'] at h1
    obtain⟨h2,h3⟩:=Bool.and_eq_true_iff.mp h1
    obtain⟨h4,h5⟩:=Bool.and_eq_true_iff.mp h2
    obtain rfl:x=y:=beq_iff_eq.mp h4
    exact⟨x,rfl,rfl,h5,h3⟩
 |j::r,k,i+1,j',h,e=>by
  obtain⟨x,a,b,c,d⟩:=uu (i:=i) (Bool.and_eq_true_iff.mp h).2 (by simpa using e)
  refine⟨x,a,?_,c,d⟩
  have q:t+(k+1)+i=t+k+(i+1):=by omega
  rw[← q]
  exact b
structure CompOk (X:Cx) (scope:Scope) (N':List Str) (t:Nat) (caps:List Nat):Prop where
 kind:scope.kind=.function
 shape:(scope.names.all fun y=>(y.2 == .local&&scope.names.lookup y.1 == some .local)||(y.2 == .free&&Yr (X.env.kindOf y.1))||(y.2 == .globalImplicit))=true
 cap:XU X.N X.env.kindOf (compEnvC scope [] 0 X.env).kindOf N' t caps 0=true
theorem CompOk.at {X:Cx}{scope:Scope}{N':List Str}{t:Nat}{caps:List Nat}(S:CompOk X scope N' t caps){y:Str×NameKind}(hy:y∈scope.names) :
  y.2≠.cell∧(y.2=.local→scope.names.lookup y.1=some .local)∧(y.2=.free→Yr (X.env.kindOf y.1)=true):=by
 have h:=List.all_eq_true.mp S.shape y hy
 obtain⟨n,k⟩:=y
 cases k<;>simp at h<;>simp[h]
noncomputable def zac (t:Nat) (caps:List Nat) (σ:St):St:=List.replicate t none++caps.map fun j=>(σ[j]?).join
theorem xi {scope:Scope}{env:Env}{x:Str}:∀ {names:List (Str×NameKind)},(∀ y∈names,y.2≠.cell)→Yr ((names.map fun(y:Str×NameKind)=>if (y.2 == NameKind.free&&env.scope.kind == .function&&env.kindOf y.1 == some .cell)=true then(y.1,NameKind.cell) else(y.1,y.2)).lookup x)=true →
  (x,NameKind.free)∈names
 |[],_,h=>by simp[Yr] at h
 |(n,k)::r,hn,h=>by
  have hr:∀ y∈r,y.2≠.cell:=fun y hy=>hn y (List.mem_cons_of_mem _ hy)
  have hk:k≠.cell:=hn (n,k) List.mem_cons_self
  rw[List.map_cons] at h
  by_cases hx:(x == n)=true
  ·obtain rfl:x=n:=beq_iff_eq.mp hx
   have q:k=.free:=by
    by_cases hf:k=.free
    ·exact hf
    ·exfalso
     have hb:(k == NameKind.free)=false:=by simpa using hf
     simp only[hb,Bool.false_and,Bool.false_eq_true,if_false,List.lookup_cons,beq_self_eq_true] at h
     cases k<;>simp[Yr] at h hk hf
   subst q
   exact List.mem_cons_self
  ·rw[Bool.not_eq_true] at hx
   refine List.mem_cons_of_mem _ (xi (scope:=scope) (env:=env) hr ?_)
   by_cases hc:(k == NameKind.free&&env.scope.kind == .function&&env.kindOf n == some .cell)=true
   ·simp only[hc,if_true,List.lookup_cons,hx] at h
    exact h
   ·rw[Bool.not_eq_true] at hc
    simp only[hc,Bool.false_eq_true,if_false,List.lookup_cons,hx] at h
    exact h
def uT (J:It) (g:TG) (tc:TT) (te:TE) (Q:VK) (D:Addr) (τ0:St) (H0:Hp):Prop :=
 ∃ W:Nat→Nat→List V→St→Hp→Prop,(∃ m,W 0 m [] τ0 H0)∧∀ i m ys τ H,W i m ys τ H →
  (J.stop i H∧Q (.ref D) H)∨(J.go i H∧∃ N:List V→St→Hp→Prop,(∀ zs τ' H',N zs τ' H'→∃ m',m'<m∧W (i+1) m' zs τ' H')∧∀ x H3,J.yld i H x H3→g x τ H3 fun τ2 H4=>tc τ2 H4 fun b H5 =>
   if b=true then te τ2 H5 fun y H6=>H6 D=some (.lst ys)∧ys.length<sizeLine∧N (ys++[y]) τ2 (upd H6 D (.lst (ys++[y]))) else N ys τ2 H5)
def Y6 (wi:TI) (g:Blk→TG) (tc:Blk→TT) (te:Blk→TE) (t:Nat) (caps:List Nat):TE:=fun σ H Q =>
 wi σ H fun J H1=>∀ D,H1 D=none→∀ b:Blk,uT J (g b) (tc b) (te b) Q D (zac t caps σ) (upd H1 D (.lst []))
theorem vR {J:It}{g:TG}{tc:TT}{te:TE}{Q:VK}{D:Addr}{τ0:St}{H0:Hp}(n:Nat) (Pv:Nat→List V→St→Hp→Prop) (h0:Pv 0 [] τ0 H0)
  (hst:∀ zs τ H,Pv n zs τ H→J.stop n H∧Q (.ref D) H)
  (hgo:∀ i zs τ H,i<n→Pv i zs τ H→J.go i H∧∀ x H3,J.yld i H x H3→g x τ H3 fun τ2 H4=>tc τ2 H4 fun b H5 =>
   if b=true then te τ2 H5 fun y H6=>H6 D=some (.lst zs)∧zs.length<sizeLine∧Pv (i+1) (zs++[y]) τ2 (upd H6 D (.lst (zs++[y]))) else Pv (i+1) zs τ2 H5):uT J g tc te Q D τ0 H0:=by
 refine⟨fun i m zs τ H=>m=n-i∧i≤n∧Pv i zs τ H,⟨n,by simp,Nat.zero_le _,h0⟩,?_⟩
 rintro i m zs τ H ⟨rfl,hi,p⟩
 by_cases hlt:i<n
 ·obtain⟨go,step⟩:=hgo i zs τ H hlt p
  exact .inr ⟨go,Pv (i+1),fun zs' τ' H' p'=>⟨n-(i+1),by omega,rfl,hlt,p'⟩,step⟩
 ·have e:i=n:=by omega
  subst e
  exact .inl (hst zs τ H p)
theorem zY {K:PySem.W.Frag}{a:Addr}{xs:List V}{g:TG}{tc:TT}{te:TE}{Q:VK}{D:Addr}{τ0:St}{H0:Hp}(Pv:Nat→List V→St→Hp→Prop) (h0:Pv 0 [] τ0 H0) (hl:∀ i zs τ H,Pv i zs τ H→SqL K H a xs)
  (hs:∀ i x zs τ H,xs[i]?=some x→Pv i zs τ H→g x τ H fun τ2 H4=>tc τ2 H4 fun b H5 =>
   if b=true then te τ2 H5 fun y H6=>H6 D=some (.lst zs)∧zs.length<sizeLine∧Pv (i+1) (zs++[y]) τ2 (upd H6 D (.lst (zs++[y]))) else Pv (i+1) zs τ2 H5)
  (hd:∀ zs τ H,Pv xs.length zs τ H→Q (.ref D) H):uT (Itl K a) g tc te Q D τ0 H0 :=
 vR xs.length Pv h0 (fun zs τ H p=>⟨⟨xs,hl _ _ _ _ p,Nat.le_refl _⟩,hd zs τ H p⟩) fun i zs τ H hi p=>⟨⟨xs,xs[i],hl _ _ _ _ p,by simp[hi]⟩,fun x H3 y=>by
  obtain⟨e,y⟩:=y
  subst e
  exact hs i x zs τ _ (y xs (hl _ _ _ _ p)) p⟩
theorem XS {K:PySem.W.Frag}{a:Addr}{xs:List V}{g:TG}{tc:TT}{te:TE}{Q:VK}{D:Addr}{τ0:St}{H0:Hp}(Pv:Nat→List V→St→Hp→Prop) (h0:Pv 0 [] τ0 H0) (hl:∀ i zs τ H,Pv i zs τ H→SqT K H a xs)
  (hs:∀ i x zs τ H,xs[i]?=some x→Pv i zs τ H→g x τ H fun τ2 H4=>tc τ2 H4 fun b H5 =>
   if b=true then te τ2 H5 fun y H6=>H6 D=some (.lst zs)∧zs.length<sizeLine∧Pv (i+1) (zs++[y]) τ2 (upd H6 D (.lst (zs++[y]))) else Pv (i+1) zs τ2 H5)
  (hd:∀ zs τ H,Pv xs.length zs τ H→Q (.ref D) H):uT (Itt K a) g tc te Q D τ0 H0 :=
 vR xs.length Pv h0 (fun zs τ H p=>⟨⟨xs,hl _ _ _ _ p,Nat.le_refl _⟩,hd zs τ H p⟩) fun i zs τ H hi p=>⟨⟨xs,xs[i],hl _ _ _ _ p,by simp[hi]⟩,fun x H3 y=>by
  obtain⟨e,y⟩:=y
  subst e
  exact hs i x zs τ _ (y xs (hl _ _ _ _ p)) p⟩
section
variable {X:Cx}{tg iter elt:Expr}{ifs:List Expr}{scope:Scope}{pos:Pos}{N':List Str}{t:Nat}{caps:List Nat}{g:Blk→TG}{tc:Blk→TT}{te:Blk→TE}{wi:TI}
theorem FpOk.heap {pins:List (Addr×Obj)}{H H':Hp}{b:Addr}(f:FpOk X pins H b) (h:H' b=none):FpOk X pins H' b:=⟨h,f.2⟩
theorem vm {cl:List (Str×Addr)}{J:It}{fp:List Addr}{it:Addr}{tn:Nat→Heap→Prop}{pins:List (Addr×Obj)}{σ:St}{H2:Hp}{s2:Shared}{Q:VK}{E:Value→Shared→Prop}
  (hc:X.calm=true) (S:CompOk X scope N' t caps) (L:Clos X.env scope cl)
  (hg:∀ b,PG (cxB X scope N' b) tg (g b)) (ht:∀ b,PTs (cxB X scope N' b) ifs (tc b)) (he:∀ b,PE (cxB X scope N' b) elt (te b))
  (I2:Inv X pins σ H2 s2) (T:Turn X.prog X.w X.K tg J fp it tn) (st2:tn 0 s2.heap) (f2:∀ b∈fp,FpOk X pins H2 b)
  (R:∀ D,H2 D=none→∀ b,uT J (g b) (tc b) (te b) Q D (zac t caps σ) (upd H2 D (.lst []))) :
  wpAny (model X.prog X.w) X.A (newList []) (fun acc s3=>wpAny (model X.prog X.w) X.A (newFunctionEnv scope X.env.globals cl [] X.env.qual none .none (some X.env)) (fun cenv s4 =>
   codeAny (model X.prog X.w) X.A (.compStart (.ListComp elt [⟨tg,iter,ifs,0⟩] scope pos) 0 (.ref it) acc { cenv with scope:=relabel scope X.env })
    (fun r s'=>∃ (D:Addr) (H':Hp) (m:Str→Option Value),acc=.ref D∧r=.ok .next∧Inv X pins σ H' s'∧s'.heap.Ns cenv.locals m∧FpOk X pins H' cenv.locals∧Q (.ref D) H') s4) E s3) E s2:=by
 refine wpAny_newObj_type ?_
 have I3:Inv X pins σ (upd H2 s2.heap.objs.size (.lst [])) { s2 with heap:=s2.heap.push { cls:=.type "list",data:=.seq ([]:List Value).toArray } }:=I2.lnew (t':=s2.toks) .nil (Nat.zero_le _)
 have hD:H2 s2.heap.objs.size=none:=I2.fresh
 have R:=R _ hD
 generalize hs3:({ s2 with heap:=s2.heap.push { cls:=.type "list",data:=.seq ([]:List Value).toArray } }:Shared)=s3 at I3 ⊢
 generalize hH3:upd H2 s2.heap.objs.size (.lst [])=H3 at I3 R
 generalize hDD:s2.heap.objs.size=D at R ⊢
 have k3:∀ b o,s2.heap.get? b=some o→s3.heap.get? b=some o:=fun b o e=>by rw[← hs3];exact Heap.get?_push_of_some _ e
 have st3:tn 0 s3.heap:=T.keep 0 _ _ st2 fun b _ o e=>k3 b o e
 have fpn:∀ b∈fp,H3 b=none:=fun b hb=>by
  obtain⟨o,e,_⟩:=T.obj 0 _ st2 b hb
  rw[← hH3,upd_ne (Nat.ne_of_lt (Heap.lt_size e))]
  exact(f2 b hb).1
 have f3:∀ b∈fp,FpOk X pins H3 b:=fun b hb=>(f2 b hb).heap (fpn b hb)
 refine wpAny_newFunctionEnv (fun y hy=>(S.at hy).1) (by intro y hy;simp at hy) (fun h4 hns hsb=>?_) S.kind
 generalize hC:s3.heap.objs.size=C at hns hsb ⊢
 have k4:∀ b o,s3.heap.get? b=some o→h4.get? b=some o:=fun b o e=>hsb.extBut b o (by rw[← hC];exact Nat.ne_of_lt (Heap.lt_size e)) (Heap.get?_push_of_some _ e)
 have cellsub:∀ x c,(yM X scope N' cl C s3 H3 fp).env.cells.lookup x=some c→X.env.cells.lookup x=some c:=L.sub
 have hnc:∀ y∈scope.names,y.2≠.cell:=fun y hy=>(S.at hy).1
 have fC:∀ {H':Hp},H' C=none→FpOk X pins H' C:=fun h=>by rw[← hC] at h ⊢;exact I3.fpOk (Nat.le_refl _) h
 have I4:Inv (yM X scope N' cl C s3 H3 fp) [] (zac t caps σ) H3 { s3 with heap:=h4,toks:=s3.toks+([]:List (Str×Value)).length }:=by
  refine⟨⟨I3.ok.mod,S.kind,I3.ok.glob,I3.ok.blt,Nat.le_of_eq hC,fun x y c h1 h2=>I3.ok.inj x y c (L.sub _ _ h1) (L.sub _ _ h2),fun x hx=>?_,fun x c h _=>absurd (show false=true from h) Bool.false_ne_true,I3.ok.hd,I3.ok.frames,.inl rfl,fun b hb=>⟨?_,fun x c e=>(f3 b hb).2.2.2.2.1 x c (L.sub x c e)⟩,
    I3.bs,Nat.le_trans I3.ok.bsz I3.sz,fun b o e hb=>?_,fun b hb z=>?_,I3.stack,I3.stkFree⟩,
   rfl,I3.bare,Un.kept k4,⟨_,hns,fun i x v e1 e2 e3=>?_⟩,fun x c e=>?_,(by rw[← hC];exact I3.fresh),fun x c e=>I3.freeC x c (L.sub x c e),fun p hp=>?_,I3.hok.kept k4,?_⟩
  ·have hx':Yr ((relabel scope X.env).names.lookup x)=true:=by
    rcases hx with q | q
    ·rw[show(relabel scope X.env).names.lookup x=some .cell from q];rfl
    ·rw[show(relabel scope X.env).names.lookup x=some .free from q];rfl
   exact Option.isSome_iff_exists.mp (L.all _ (xi (scope:=scope) hnc hx') rfl)
  ·obtain⟨o,e,_⟩:=T.obj 0 _ st3 b hb
   rw[← hC]
   exact Nat.ne_of_lt (Heap.lt_size e)
  ·rcases(f3 b hb).2.2.2.1 with z | z
   ·exact I3.ok.noex b o e z
   ·exact absurd (Nat.lt_of_lt_of_le (Nat.lt_of_lt_of_le (Heap.lt_size e) I3.ok.bsz) z) (Nat.lt_irrefl _)
  ·rcases List.mem_cons.mp (I3.stkSub b z) with q | q
   ·exact(f3 b hb).2.1 q
   ·exact(f3 b hb).2.2.1 q
  ·-- a name that was taken over
   unfold zac at e2
   by_cases hi:i<t
   ·rw[List.getElem?_append_left (by simpa using hi),List.getElem?_replicate] at e2
    simp[hi] at e2
   ·rw[List.getElem?_append_right (by simpa using hi),List.length_replicate,List.getElem?_map] at e2
    cases q:caps[i-t]? with
    |none=>rw[q] at e2;simp at e2
    |some j =>
     rw[q] at e2
     obtain⟨y,c1,c2,c3,c4⟩:=uu S.cap q
     have ei:t+0+(i-t)=i:=by omega
     rw[ei] at c2
     have exy:x=y:=Option.some.inj ((show N'[i]?=some x from e1).symm.trans c2)
     subst exy
     have e2':σ[j]?=some (some v):=by
      have e2:(σ[j]?).join=some v:=Option.some.inj e2
      cases r:σ[j]? with
      |none=>rw[r] at e2;cases e2
      |some z =>
       rw[r] at e2
       have e2:z=some v:=e2
       rw[e2]
     obtain⟨m,hn,hl⟩:=I3.loc
     have cf:=xA c3
     obtain⟨u,ru,lk⟩:=hl j x v c1 e2' (.inr (by
      rcases cf with z | z
      ·exact .inl z
      ·exact .inr z))
     refine⟨u,ru,.inr ⟨xA c4,?_⟩⟩
     rcases lk with⟨z,_⟩ | ⟨_,c,ec,zc⟩
     ·rcases cf with w | w<;>(rw[z] at w;cases w)
     ·have hfree:=xi (scope:=scope) (env:=X.env) (x:=x) hnc c4
      obtain⟨c',ec'⟩:=Option.isSome_iff_exists.mp (L.all _ hfree rfl)
      have:=L.sub _ _ ec'
      rw[show X.env.cells.lookup x=some c from ec] at this
      cases this
      obtain⟨o,ho,hd⟩:=zc
      exact⟨c,ec',o,k4 _ _ ho,hd⟩
  ·obtain⟨v,o,ho,hd⟩:=I3.cell x c (L.sub x c e)
   exact⟨v,o,k4 _ _ ho,hd⟩
  ·exact absurd (show p∈([]:List (Addr×Obj)) from hp) (by simp)
  ·unfold zac
   rw[List.length_append,List.length_replicate,List.length_map,vn S.cap]
   omega
 obtain⟨W,⟨m0,w0⟩,turn⟩:=R ⟨cl,C,s3,H3,fp⟩
 -- back to the frame outside
 have back:∀ {τ:St}{H':Hp}{s':Shared},Inv (yM X scope N' cl C s3 H3 fp) [] τ H' s'→Inv X pins σ H' s':=fun {τ H' s'} J=>by
  refine I3.call' (ch:=fp) (J.os.trans ?_) J.base J.hok J.bare fun b hb=>⟨(f3 b hb).2.2.2.1,(f3 b hb).2.1,(f3 b hb).2.2.2.2.1,(f3 b hb).2.2.2.2.2⟩
  rfl
 have stat:∀ {H':Hp},(∀ b∈fp,H' b=none)→∀ b∈fp,FpOk (yM X scope N' cl C s3 H3 fp) [] H' b:=fun {H'} hn b hb=>by
  refine⟨hn b hb,(I4.ok.exf b hb).1,I4.ok.exfs b hb,.inl hb,(I4.ok.exf b hb).2,fun p hp=>?_⟩
  exact absurd (show p∈([]:List (Addr×Obj)) from hp) (by simp)
 have loop:codeAny (model X.prog X.w) X.A (.compLoop (.ListComp elt [⟨tg,iter,ifs,0⟩] scope pos) 0 (.ref it) (.ref D) (compEnvC scope cl C X.env))
   (fun r s'=>∃ (D':Addr) (H':Hp) (m:Str→Option Value),Value.ref D=.ref D'∧r=.ok .next∧Inv X pins σ H' s'∧s'.heap.Ns C m∧FpOk X pins H' C∧Q (.ref D') H') { s3 with heap:=h4,toks:=s3.toks+([]:List (Str×Value)).length }:=by
  refine uQ (fun n s'=>∃ i ys τ H',Inv (yM X scope N' cl C s3 H3 fp) [] τ H' s'∧tn i s'.heap∧(∀ b∈fp,H' b=none)∧W i n ys τ H') ?_ m0 ⟨0,[],_,H3,I4,T.keep 0 _ _ st3 fun b _ o e=>k4 b o e,fpn,w0⟩
  rintro n s5 ⟨i,ys,τ,H5,I5,st5,fr5,w5⟩
  rcases turn i n ys τ H5 w5 with⟨stop,q⟩ | ⟨go,N,hN,step⟩
  ·refine thn (T.done (yM X scope N' cl C s3 H3 fp) rfl rfl rfl hc i [] s5 τ H5 NoE I5 (stat fr5) st5 stop) fun r s6 ⟨hr,I6⟩=>?_
   subst hr
   obtain⟨m,hm,_⟩:=id I6.loc
   exact⟨D,H5,m,rfl,rfl,back I6,hm,fC I6.free,q⟩
  ·refine thn (T.item (yM X scope N' cl C s3 H3 fp) rfl rfl rfl hc i [] s5 τ H5 NoE I5 (stat fr5) st5 go) fun r s6 ⟨u,hr,h6⟩=>?_
   subst hr
   refine thn h6 fun _ s7 hq0=>?_
   obtain⟨x,H7,I7,r7,y7,st7,fr7⟩:=hq0
   have I7':=I7.pinned (stat fr7) (T.obj _ _ st7)
   have again:∀ {τ9:St}{H9:Hp}{s9:Shared}{ys9:List V}{m':Nat},Inv (yM X scope N' cl C s3 H3 fp) ([]++va fp s7.heap) τ9 H9 s9→m'<n→W (i+1) m' ys9 τ9 H9 →
     ∃ m,m<n∧∃ i ys τ H',Inv (yM X scope N' cl C s3 H3 fp) [] τ H' s9∧tn i s9.heap∧(∀ b∈fp,H' b=none)∧W i m ys τ H':=fun {τ9 H9 s9 ys9 m'} I9 hm w9=>by
    refine⟨m',hm,i+1,ys9,τ9,H9,I9.unpinned,T.keep _ _ _ st7 fun b hb o e=>(I9.pin (b,o) (List.mem_append_right _ (List.mem_append_right _ (yE hb e)))).1,fun b hb=>?_,w9⟩
    obtain⟨o,e,_⟩:=T.obj _ _ st7 b hb
    exact(I9.pin (b,o) (List.mem_append_right _ (List.mem_append_right _ (yE hb e)))).2.1
   refine thn (hg ⟨cl,C,s3,H3,fp⟩ _ s7 τ H7 x u _ I7' r7 (step x H7 y7)) fun _ s8 hq0=>?_
   obtain⟨τ8,H8,I8,q8⟩:=hq0
   refine thn (ht ⟨cl,C,s3,H3,fp⟩ _ s8 τ8 H8 _ I8 q8) fun ok s9 hq0=>?_
   obtain⟨H9,I9,q9⟩:=hq0
   cases ok with
   |false =>
    obtain⟨m',hm,w9⟩:=hN _ _ _ (show N ys τ8 H9 from q9)
    exact again I9 hm w9
   |true =>
    refine thn (he ⟨cl,C,s3,H3,fp⟩ _ s9 τ8 H9 _ I9 q9) fun y s10 hq0=>?_
    obtain⟨z,H10,I10,r10,hl,hz,q10⟩:=hq0
    refine thn (zL _ s10 τ8 H10 (.ref D) [z] (.ref D) [y] (fun v H11=>v=.non∧H11=upd H10 D (.lst (ys++[z]))) I10 rfl (.cons r10 .nil) ⟨D,ys,z,rfl,rfl,hl,hz,rfl,rfl⟩) fun _ s11 hq0=>?_
    obtain⟨v,H11,I11,_,_,e11⟩:=hq0
    subst e11
    obtain⟨m',hm,w10⟩:=hN _ _ _ q10
    exact again I11 hm w10
 exact codeAny_compStart_list loop (T.self _ 0 _ _ _ (T.keep 0 _ _ st3 fun b _ o e=>k4 b o e) loop)
theorem Va (hc:X.calm=true) (S:CompOk X scope N' t caps) (hi:PI X tg iter wi)
  (hg:∀ b,PG (cxB X scope N' b) tg (g b)) (ht:∀ b,PTs (cxB X scope N' b) ifs (tc b)) (he:∀ b,PE (cxB X scope N' b) elt (te b))
  (hs:∀ x,foldedSetIterable iter X.env x=pure x:=by intro _;rfl):PE X (.ListComp elt [⟨tg,iter,ifs,0⟩] scope pos) (Y6 wi g tc te t caps):=by
 intro pins s σ H Q I h
 obtain⟨cl,L⟩:=YI (env:=X.env) (scope:=scope) fun y hy hf=>I.ok.has y.1 (xA ((S.at hy).2.2 hf))
 rw[eval_ListComp]
 refine wpAny_comprehension_free (use:=none) rfl hs L.eq S.kind (fun y hy=>(S.at hy).2.1) (thn (hi pins s σ H _ I h) fun x s1 h1=>thn h1 fun itv s2 h2=>?_)
 obtain⟨it,fp,tn,J,H2,rfl,I2,T,st2,f2,R⟩:=h2
 refine thn (vm hc S L hg ht he I2 T st2 f2 R) fun acc s3 h3=>thn h3 fun cenv s4 h4=>codeAny_mono h4 fun r s' hr=>?_
 obtain⟨D,H',m,rfl,rfl,I',hm,fC,q⟩:=hr
 obtain⟨c0,c1,c2,c3,c4,c5⟩:=fC
 exact⟨m,hm,fun h' sb=>⟨.ref D,H',I'.turned (t':=s'.toks) (fun b o hb e=>sb.extBut b o hb e) c0 c1 c3 c4 c5,rfl,q⟩⟩
theorem uI {i:Nat}{y:Str}{py spos:Pos}(hc:X.calm=true) (hN:X.N.Nodup) (hiy:X.N[i]?=some y) (hy:Loc X.env.scope y) (S:CompOk X scope N' t caps) (hi:PI X tg iter wi)
  (hg:∀ b,PG (cxB X scope N' b) tg (g b)) (ht:∀ b,PTs (cxB X scope N' b) ifs (tc b)) (he:∀ b,PE (cxB X scope N' b) elt (te b))
  (hsw:swapsWith (.ListComp elt [⟨tg,iter,ifs,0⟩] scope pos) (some (.Name y py)) spos.line X.env=pure true:=by rfl)
  (hs:∀ x,foldedSetIterable iter X.env x=pure x:=by intro _;rfl) (hf:X.fn y=true∨X.env.scope.names.lookup y=some .local:=by first | exact .inl rfl | exact .inr rfl | assumption) :
  PS X (.Assign [.Name y py] (.ListComp elt [⟨tg,iter,ifs,0⟩] scope pos) spos) (zaj (Y6 wi g tc te t caps) (vM i)):=by
 intro pins s σ H D' I h
 obtain⟨cl,L⟩:=YI (env:=X.env) (scope:=scope) fun y hy hf=>I.ok.has y.1 (xA ((S.at hy).2.2 hf))
 rw[exec_Assign_Name_used _ _ _ _ hsw]
 refine wpAny_bind (wpAny_standAt (wpAny_bind ?_))
 show wpAny _ X.A (comprehension (.ListComp elt [⟨tg,iter,ifs,0⟩] scope pos) scope X.env _ (newList []) false (eval iter X.env) (some (assign (.Name y py) X.env)) >>= fun _=>pure ()) _ _ s
 refine wpAny_bind (thn (Q:=fun _ s'=>SP X pins D' .next s') ?_ fun _ s' hq=>wpAny_pure (wpAny_pure hq))
 refine wpAny_comprehension_free (use:=some (assign (.Name y py) X.env)) rfl hs L.eq S.kind (fun y hy=>(S.at hy).2.1) (thn (hi pins s σ H _ I h) fun x s1 h1=>thn h1 fun itv s2 h2=>?_)
 obtain⟨it,fp,tn,J,H2,rfl,I2,T,st2,f2,R⟩:=h2
 refine thn (vm hc S L hg ht he I2 T st2 f2 R) fun acc s3 h3=>thn h3 fun cenv s4 h4=>codeAny_mono h4 fun r s' hr=>?_
 obtain⟨D,H',m,rfl,rfl,I',hm,fC,q⟩:=hr
 obtain⟨c0,c1,c2,c3,c4,c5⟩:=fC
 show wpAny _ X.A (assign (.Name y py) X.env (.ref D)) _ _ _
 refine wpAny_assign_Name (wV I' hN hiy hy (show RelV (.ref D) (.ref D) from rfl) (fun s'' I'' hq0=>?_) hf)
 obtain⟨a,sb,ha⟩:=hq0
 have hne:cenv.locals≠a:=by
  rcases ha with z | z
  ·rw[z];exact c1
  ·exact fun z'=>c4 y a z z'.symm
 refine⟨m,hm.sameBut sb hne,fun h' sb'=>?_⟩
 exact⟨_,H',I''.turned (t':=s''.toks) (fun b o hb e=>sb'.extBut b o hb e) c0 c1 c3 c4 c5,q⟩
end
def zeu (i j:Int):Prop:=0<j∧j.natAbs.log2<9000
section
variable {X:Cx}
theorem xx:OpR X (binaryOp .FloorDiv) (rI zeu fun i j=>.int (i/j)):=opI fun i j _ _ _ _ _ hc q=>by
 have e:i.fdiv j=i/j:=Int.fdiv_eq_ediv_of_nonneg i (Int.le_of_lt hc.1)
 exact floordiv_int (Ne.symm (Int.ne_of_lt hc.1)) (by rw[e];exact q) (.inl (PyProof.noPylong_of_log2 hc.2))
noncomputable def zer:V→Option Value
 |.ty n=>some (.type n)
 |.ref a=>some (.ref a)
 |_=>none
theorem XT {c:V}{cv u:Value}(h:zer c=some cv) (r:RelV c u):u=cv:=by
 cases c<;>simp[zer] at h
 ·exact(show u=Value.ref _ from r).trans h
 ·exact(show u=Value.type _ from r).trans h
def ziK (K:PySem.W.Frag):List V→Hp→VK→Prop:=fun xs H Q=>∃ x c t cv b,xs=[x,c]∧zer c=some cv∧TyOf K H x t∧PySem.W.kitOne K t cv=some b∧Q (.bl b) H
theorem ye:xb X (.builtin "isinstance") (ziK X.K):=by
 intro pins s σ H xs us Q I r h
 obtain⟨x,c,t,cv,b,rfl,hc,ty,e,q⟩:=h
 obtain⟨u,v,rfl,r1,r2⟩:=r.two
 obtain rfl:=XT hc r2
 exact Yq I r1 ty e fun tk=>⟨.bl b,H,I.tok tk,rfl,q⟩
inductive EqD (K:PySem.W.Frag) (H:Hp):V→V→Bool→Nat→Prop where
 |flat {x y:V}{n:Nat}(fx:xT x=true) (fy:xT y=true):EqD K H x y (eqV x y) n
 |same {a:Addr}{n:Nat}:EqD K H (.ref a) (.ref a) true n
 |lst {a b:Addr}{xs ys:List V}{e:Nat→Bool}{n:Nat}(hne:a≠b) (ha:SqL K H a xs) (hb:SqL K H b ys) (hl:xs.length=ys.length) (h:∀ (j:Nat) x y,xs[j]?=some x→ys[j]?=some y→EqD K H x y (e j) n) :
   EqD K H (.ref a) (.ref b) ((List.range xs.length).all e) (n+1)
 |tup {a b:Addr}{xs ys:List V}{e:Nat→Bool}{n:Nat}(hne:a≠b) (ha:SqT K H a xs) (hb:SqT K H b ys) (hl:xs.length=ys.length) (h:∀ (j:Nat) x y,xs[j]?=some x→ys[j]?=some y→EqD K H x y (e j) n) :
   EqD K H (.ref a) (.ref b) ((List.range xs.length).all e) (n+1)
theorem yA (A:Around):A.in1.units=A.units+1:=rfl
theorem EqD.at {pins:List (Addr×Obj)}{σ:St}{H:Hp}{s:Shared}{x y:V}{b:Bool}{n:Nat}(I:Inv X pins σ H s) (h:EqD X.K H x y b n) :
  ∀ (A:Around) (u v:Value),A.units+n<cLine→RelV x u→RelV y v→SeqAt.EqAt A s u v b:=by
 induction h with
 |flat fx fy=>intro A u v _ rx ry;exact eqAt_V rx ry fx fy
 |same=>intro A u v _ rx ry;cases rx;cases ry;exact SeqAt.EqAt.same _
 | @lst a b xs ys e n hne ha hb hl h ih =>
  intro A u v hu rx ry
  cases rx;cases ry
  obtain⟨i1,r1,p1,_⟩:=I.list ha
  obtain⟨i2,r2,p2,_⟩:=I.list hb
  have l1:=r1.length
  have l2:=r2.length
  refine SeqAt.EqAt.of_refs hne ?_
  have q:=SeqAt.RcAt.lists (A:=A) (s:=s) (e:=e) p1.isList p2.isList (by simp;omega) (by omega) (fun j h1 h2=>?_)
  ·rw[List.size_toArray,← l1] at q
   exact q
  ·have g1:j<xs.length:=by rw[l1];simpa using h1
   have g2:j<ys.length:=by rw[l2];simpa using h2
   obtain⟨u1,e1,q1⟩:=r1.get (i:=j) (x:=xs[j]) (by simp[g1])
   obtain⟨u2,e2,q2⟩:=r2.get (i:=j) (x:=ys[j]) (by simp[g2])
   have f1:i1.toArray[j]=u1:=by
    have:=List.getElem?_eq_some_iff.mp e1
    obtain⟨_,z⟩:=this
    simpa using z
   have f2:i2.toArray[j]=u2:=by
    have:=List.getElem?_eq_some_iff.mp e2
    obtain⟨_,z⟩:=this
    simpa using z
   rw[f1,f2]
   exact ih j _ _ (by simp[g1]) (by simp[g2]) A.in1 u1 u2 (by rw[yA];omega) q1 q2
 | @tup a b xs ys e n hne ha hb hl h ih =>
  intro A u v hu rx ry
  cases rx;cases ry
  obtain⟨i1,r1,p1,_⟩:=I.tuple ha
  obtain⟨i2,r2,p2,_⟩:=I.tuple hb
  have l1:=r1.length
  have l2:=r2.length
  refine SeqAt.EqAt.of_refs hne ?_
  have q:=SeqAt.RcAt.tuples (A:=A) (s:=s) (e:=e) (show s.heap.IsTuple a i1.toArray from p1) (show s.heap.IsTuple b i2.toArray from p2) (by omega) (fun j h1 h2=>?_)
  ·have z:i1.toArray.size=i2.toArray.size:=by simp;omega
   rw[← z,Nat.min_self,beq_self_eq_true,Bool.and_true,List.size_toArray,← l1] at q
   exact q
  ·have g1:j<xs.length:=by rw[l1];simpa using h1
   have g2:j<ys.length:=by rw[l2];simpa using h2
   obtain⟨u1,e1,q1⟩:=r1.get (i:=j) (x:=xs[j]) (by simp[g1])
   obtain⟨u2,e2,q2⟩:=r2.get (i:=j) (x:=ys[j]) (by simp[g2])
   have f1:i1.toArray[j]=u1:=by
    have:=List.getElem?_eq_some_iff.mp e1
    obtain⟨_,z⟩:=this
    simpa using z
   have f2:i2.toArray[j]=u2:=by
    have:=List.getElem?_eq_some_iff.mp e2
    obtain⟨_,z⟩:=this
    simpa using z
   rw[f1,f2]
   exact ih j _ _ (by simp[g1]) (by simp[g2]) A.in1 u1 u2 (by rw[yA];omega) q1 q2
def zhc (K:PySem.W.Frag) (A:Around) (neg:Bool):R2:=fun x y H Q=>∃ (a b:Addr) (xs ys:List V) (e:Nat→Bool) (n:Nat),x=.ref a∧y=.ref b∧((SqL K H a xs∧SqL K H b ys)∨(SqT K H a xs∧SqT K H b ys))∧xs.length=ys.length ∧
 A.units+n+2<cLine∧(∀ (j:Nat) x y,xs[j]?=some x→ys[j]?=some y→EqD K H x y (e j) n)∧Q (.bl (if neg then !(List.range xs.length).all e else(List.range xs.length).all e)) H
theorem xz {pins:List (Addr×Obj)}{σ:St}{H:Hp}{s:Shared}{A:Around}{xs ys:List V}{i1 i2:List Value}{e:Nat→Bool}{n:Nat}(I:Inv X pins σ H s) (r1:Vals xs i1) (r2:Vals ys i2) (hu:A.units+n+2<cLine)
  (h:∀ (j:Nat) x y,xs[j]?=some x→ys[j]?=some y→EqD X.K H x y (e j) n):∀ (j:Nat) (h1:j<i1.toArray.size) (h2:j<i2.toArray.size),SeqAt.EqAt A.in1 s i1.toArray[j] i2.toArray[j] (e j):=fun j h1 h2=>by
 have g1:j<xs.length:=by rw[r1.length];simpa using h1
 have g2:j<ys.length:=by rw[r2.length];simpa using h2
 obtain⟨u1,e1,q1⟩:=r1.get (i:=j) (x:=xs[j]) (by simp[g1])
 obtain⟨u2,e2,q2⟩:=r2.get (i:=j) (x:=ys[j]) (by simp[g2])
 have f1:i1.toArray[j]=u1:=by
  obtain⟨_,z⟩:=List.getElem?_eq_some_iff.mp e1
  simpa using z
 have f2:i2.toArray[j]=u2:=by
  obtain⟨_,z⟩:=List.getElem?_eq_some_iff.mp e2
  simpa using z
 rw[f1,f2]
 exact(h j _ _ (by simp[g1]) (by simp[g2])).at I A.in1 u1 u2 (by rw[yA];omega) q1 q2
theorem Ut:OpR X (compareOp .Eq) (zhc X.K X.A false):=by
 intro pins s σ H x y v u Q I rx ry h
 obtain⟨a,b,xs,ys,e,n,rfl,rfl,hq,hl,hu,hi,q⟩:=h
 cases rx;cases ry
 rcases hq with⟨h1,h2⟩ | ⟨h1,h2⟩
 ·obtain⟨i1,r1,p1,_⟩:=I.list h1
  obtain⟨i2,r2,p2,_⟩:=I.list h2
  refine SeqAt.eq_listAt p1.isList p2.isList (by simp;rw[← r1.length,← r2.length,hl]) (by omega) (xz I r1 r2 hu hi) ⟨.bl _,H,I,rfl,?_⟩
  rw[List.size_toArray,← r1.length]
  exact q
 ·obtain⟨i1,r1,p1,_⟩:=I.tuple h1
  obtain⟨i2,r2,p2,_⟩:=I.tuple h2
  have z:i1.toArray.size=i2.toArray.size:=by simp;rw[← r1.length,← r2.length,hl]
  refine SeqAt.eq_tupleAt (show s.heap.IsTuple a i1.toArray from p1) (show s.heap.IsTuple b i2.toArray from p2) (by omega) (xz I r1 r2 hu hi) ⟨.bl _,H,I,rfl,?_⟩
  rw[← z,Nat.min_self,beq_self_eq_true,Bool.and_true,List.size_toArray,← r1.length]
  exact q
theorem Wm:OpR X (compareOp .NotEq) (zhc X.K X.A true):=by
 intro pins s σ H x y v u Q I rx ry h
 obtain⟨a,b,xs,ys,e,n,rfl,rfl,hq,hl,hu,hi,q⟩:=h
 cases rx;cases ry
 rcases hq with⟨h1,h2⟩ | ⟨h1,h2⟩
 ·obtain⟨i1,r1,p1,_⟩:=I.list h1
  obtain⟨i2,r2,p2,_⟩:=I.list h2
  refine SeqAt.RcNeAt.lists p1.isList p2.isList (by simp;rw[← r1.length,← r2.length,hl]) (by omega) (xz I r1 r2 hu hi) _ _ _ _ ⟨.bl _,H,I,rfl,?_⟩
  rw[List.size_toArray,← r1.length]
  exact q
 ·obtain⟨i1,r1,p1,_⟩:=I.tuple h1
  obtain⟨i2,r2,p2,_⟩:=I.tuple h2
  have z:i1.toArray.size=i2.toArray.size:=by simp;rw[← r1.length,← r2.length,hl]
  refine SeqAt.RcNeAt.tuples (show s.heap.IsTuple a i1.toArray from p1) (show s.heap.IsTuple b i2.toArray from p2) (by omega) (xz I r1 r2 hu hi) _ _ _ _ ⟨.bl _,H,I,rfl,?_⟩
  rw[← z,Nat.min_self,beq_self_eq_true,Bool.and_true,List.size_toArray,← r1.length]
  exact q
end
structure Callee (P:Program) (w:World) (K:PySem.W.Frag) (mg:Str→Option Value) (base:Heap) (x:Str) (f:Addr) (fd:FuncData) (ps:List Str) (k:Nat) (sp:Sp):Prop where
 ok:FnOk P w K mg base CX0 k f fd ps sp
 g:mg x=some (.ref f)
 kp:PySem.W.keepIn K (.ref f)=true
 b:Binds K fd ps []
structure Maker (P:Program) (w:World) (K:PySem.W.Frag) (mg:Str→Option Value) (base:Heap) (x:Str) (C f:Addr) (fd:FuncData) (ps:List Str) (k:Nat) (sp:Sp):Prop where
 ok:FnOk P w K mg base CX0 k f fd ps sp
 g:mg x=some (.ref C)
 mm:Mk K C f
 b:Binds K fd ps []
section
variable {X:Cx}{k:Nat}{f C:Addr}{fd:FuncData}{ps:List Str}{sp:Sp}{x m:Str}{p pos apos:Pos}{e o:Expr}{es:List Expr}{ta:TE}{t:TA}
theorem Wi (c:Callee X.prog X.w X.K X.mg X.base x f fd ps k sp) (hr:Room k X.A) (ha:PA X (e::es) t) (hg:Gl X x:=by rfl) (hdb:(x == ("__debug__" : Str))=false:=by decide)
  (he:starEach (e::es) X.env=(false,eval e X.env)::starEach es X.env:=by rfl) (hpl:(backTo pos (starEach es X.env)).any (·.1)=false:=by rfl):PE X (.Call (.Name x p) (e::es) [] pos) (WH sp [] E0 t) :=
 Vb c.ok hr hg c.g c.kp c.b .nil Xi ha hdb he hpl
theorem ziN (c:Maker X.prog X.w X.K X.mg X.base x C f fd ps k sp) (hr:Room (k+1) X.A) (ha:PA X (e::es) t) (hg:Gl X x:=by rfl) (hdb:(x == ("__debug__" : Str))=false:=by decide)
  (he:starEach (e::es) X.env=(false,eval e X.env)::starEach es X.env:=by rfl) (hpl:(backTo pos (starEach es X.env)).any (·.1)=false:=by rfl):PE X (.Call (.Name x p) (e::es) [] pos) (WF C sp [] E0 t) :=
 W0 c.mm c.ok hr hg c.g c.b .nil Xi ha hdb he hpl
def v9 (X:Cx) (m:Str) (ta:TE) (t:TA):TE:=fun σ H Q=>ta σ H fun x H1=>∃ (a C dx:Addr) (fs:List (Str×V)) (f:Addr) (fd:FuncData) (ps:List Str) (k:Nat) (sp:Sp),x=.ref a∧H1 a=some (.ins C dx fs)∧fs.lookup m=none∧Cls X.K C∧Meth X.K C m f ∧
 FnOk X.prog X.w X.K X.mg X.base CX0 k f fd ps sp∧Room k X.A∧Binds X.K fd ps []∧t σ H1 fun vs H2=>sp (x::(vs++[])) H2 Q E0
theorem Xg {pl:Sem Bool}(he:PE X o ta) (ha:PA X (e::es) t)
  (hst:starEach (e::es) X.env=(false,eval e X.env)::starEach es X.env:=by rfl) (hpl:(backTo pos (starEach es X.env)).any (·.1)=false:=by rfl)
  (ht:eval (.Call (.Attribute o m apos) (e::es) [] pos) X.env=(do
   let ov ← eval o X.env
   standAt apos.atName
   let (f,first) ← holding [ov] (getMethod ov m pl)
   callWith pos f first (backTo pos (starEach (e::es) X.env)) (backToKw pos (keywordEach [] X.env))):=by rfl) :
  PE X (.Call (.Attribute o m apos) (e::es) [] pos) (v9 X m ta t):=by
 intro pins s σ H Q I h
 refine PySem.W.methodCall_KW (pl:=pl) (thn (he pins s σ H _ I h) fun u s1 hq0=>?_) ht
 obtain⟨x,H1,I1,rx,a,C,dx,fs,f,fd,ps,k,sp,ex,ea,l,cl,hm,F,hr,hb,q⟩:=hq0
 subst ex
 obtain rfl:u=Value.ref a:=rx
 refine yF I1 ea cl hm l ?_
 refine PySem.W.callWith_K (first:=[.ref a]) (h₀:=X.base) I.ok.mod.kin hm.kp (thn (ha pos pins s1 σ H1 _ I1 q) fun us s2 ⟨vs,H2,I2,r,q2⟩=>⟨I2.kIn,?_⟩) hst hpl
 exact ud (us:=.ref a::us) (vs:=.ref a::vs) F hr hb .nil Xi I2 (.cons rfl r) q2
theorem Z5 {pl:Sem Bool}(he:PE X o ta)
  (ht:eval (.Call (.Attribute o m apos) [] [] pos) X.env=(do
   let ov ← eval o X.env
   standAt apos.atName
   let (f,first) ← holding [ov] (getMethod ov m pl)
   callWith pos f first (backTo pos (starEach [] X.env)) (backToKw pos (keywordEach [] X.env))):=by rfl) :
  PE X (.Call (.Attribute o m apos) [] [] pos) (v9 X m ta zai):=by
 intro pins s σ H Q I h
 refine PySem.W.methodCall_KW (pl:=pl) (thn (he pins s σ H _ I h) fun u s1 hq0=>?_) ht
 obtain⟨x,H1,I1,rx,a,C,dx,fs,f,fd,ps,k,sp,ex,ea,l,cl,hm,F,hr,hb,q⟩:=hq0
 subst ex
 obtain rfl:u=Value.ref a:=rx
 refine yF I1 ea cl hm l ?_
 exact PySem.W.callWith_K0 (first:=[.ref a]) I1.kIn hm.kp (ud (us:=[.ref a]) (vs:=[.ref a]) F hr hb .nil Xi I1 (.cons rfl .nil) q)
end
section
variable {X:Cx}{pins:List (Addr×Obj)}{σ:St}{H:Hp}{s:Shared}{a b:Addr}{xs ys:List V}
theorem Inv.turnedLaid {h':Heap}{t':Nat}{ch:List Addr}{T:Addr}{o:HO}(I:Inv X pins σ H s) (hf:∀ b∈ch,FpOk X pins H b) (k:∀ b u,b∉ch→s.heap.get? b=some u→h'.get? b=some u) (hT:s.heap.objs.size≤T)
  (new:ObjOk X.prog X.w (upd H T o) h' T o):Inv X pins σ (upd H T o) { s with heap:=h',toks:=t' }:=by
 have hn:H T=none:=I.hok.fresh hT
 have nch:∀ b u,H b=some u→b∉ch:=fun b u e hb=>by rw[(hf b hb).1] at e;cases e
 have neT:∀ b u,s.heap.get? b=some u→b≠T:=fun b u e=>Nat.ne_of_lt (Nat.lt_of_lt_of_le (Heap.lt_size e) hT)
 refine I.step (g':=s.gens) (d':=s.drawn) (ch:=ch) (fun b hb=>?_) (fun b u _ _ hc e _=>k b u hc e) (fun b u _ _ hc e _=>⟨u.slots,k b u hc e⟩) (fun b u _ e n=>?_) (fun b u hc e=>⟨u,k b u hc e⟩)
  (fun b zs e=>?_) (fun b ob u e=>?_) (fun b ps e=>⟨#[],?_⟩) (fun m hm=>?_) (fun b u e=>?_) I.bare
 ·exact⟨(hf b hb).2.2.2.1,(hf b hb).2.1,(hf b hb).2.2.2.2.1,(hf b hb).2.2.2.2.2⟩
 ·rw[upd_ne (neT b u e)];exact n
 ·rw[upd_ne (ne_of_none e hn)];exact e
 ·rw[upd_ne (ne_of_none e hn)];exact e
 ·rw[upd_ne (ne_of_none e hn),e];simp
 ·obtain⟨ob,es,ep,ho,r⟩:=hm
  exact⟨ob,es,ep,k _ ob (fun hb=>(hf _ hb).2.1 rfl) ho,r⟩
 ·by_cases hb:b=T
  ·subst hb
   rw[upd_same] at e
   cases e
   exact new
  ·rw[upd_ne hb] at e
   refine(I.hok b u e).stay (fun c v hc q=>k c v ?_ q) (fun c q=>by rw[upd_ne (ne_of_none q hn)];exact q) fun c zs q=>by rw[upd_ne (ne_of_none q hn)];exact q
   rcases hc with z | z
   ·rw[z];exact nch b u e
   ·exact nch c _ z
end
theorem wj {X:Cx}{x:Str}{n:String}{pos:Pos}(hm:X.mg x=none) (hv:bootBuiltins x=some (.type n)) (hg:Gl X x:=by rfl) (hn:x ≠ "__name__" := by decide) (hd:(x == ("__debug__" : Str))=false:=by decide):PE X (.Name x pos) (tC (.ty n)):=Vd hg hm hv rfl hn hd
theorem yN:bootBuiltins "len" = some (.builtin "len"):=by decide +kernel
theorem zae:bootBuiltins "int" = some (.type "int"):=by decide +kernel
theorem bt_min:bootBuiltins "min" = some (.builtin "min"):=by decide +kernel
theorem zad:bootBuiltins "max" = some (.builtin "max"):=by decide +kernel
theorem zA:bootBuiltins "isinstance" = some (.builtin "isinstance"):=by decide +kernel
theorem yR:bootBuiltins "list" = some (.type "list"):=by decide +kernel
theorem vT:bootBuiltins "dict" = some (.type "dict"):=by decide +kernel
theorem zT:bootBuiltins "sorted" = some (.builtin "sorted"):=by decide +kernel
theorem VG:bootBuiltins "bool" = some (.type "bool"):=by decide +kernel
theorem xB:bootBuiltins "tuple" = some (.type "tuple"):=by decide +kernel
theorem xS {ns:List Int}{i:Nat}(h:i<ns.length):ns.getD i 0=ns[i]:=by simp[List.getD,h]
theorem wy {ns:List Int}{its:List Value}(r:Vals (ns.map V.int) its){i:Nat}{v:Value}(e:its.toArray[i]?=some v):∃ t,v=.int (ns.getD i 0) t:=by
 have e':its[i]?=some v:=by simpa using e
 have hi:i<its.length:=(List.getElem?_eq_some_iff.mp e').1
 have hl:=r.length
 rw[List.length_map] at hl
 have hb:i<ns.length:=by omega
 obtain⟨u,e2,ru⟩:=r.get (i:=i) (x:=V.int ns[i]) (by simp[hb])
 rw[e'] at e2
 cases e2
 obtain⟨t,rfl⟩:=ru
 exact⟨t,by rw[xS hb]⟩
theorem YO (val:Nat→Int):∀ k,argBest (fun i j=>decide (val i>val j)) k≤k∧∀ j,j≤k→val j≤val (argBest (fun i j=>decide (val i>val j)) k)
 |0=>⟨Nat.le_refl _,fun j hj=>by rw[Nat.le_zero.mp hj];exact Int.le_refl _⟩
 |k+1=>by
  obtain⟨h1,h2⟩:=YO val k
  show(if decide (val (k+1)>val (argBest _ k))=true then k+1 else argBest _ k)≤k+1∧∀ j,j≤k+1→val j≤val (if decide (val (k+1)>val (argBest _ k))=true then k+1 else argBest _ k)
  by_cases q:val (k+1)>val (argBest (fun i j=>decide (val i>val j)) k)
  ·rw[if_pos (decide_eq_true q)]
   refine⟨Nat.le_refl _,fun j hj=>?_⟩
   by_cases e:j=k+1
   ·rw[e];exact Int.le_refl _
   ·have:=h2 j (by omega)
    omega
  ·rw[if_neg (fun z=>q (of_decide_eq_true z))]
   refine⟨Nat.le_succ_of_le h1,fun j hj=>?_⟩
   by_cases e:j=k+1
   ·rw[e];omega
   ·exact h2 j (by omega)
theorem YN (val:Nat→Int):∀ k,argBest (fun i j=>decide (val i<val j)) k≤k∧∀ j,j≤k→val (argBest (fun i j=>decide (val i<val j)) k)≤val j
 |0=>⟨Nat.le_refl _,fun j hj=>by rw[Nat.le_zero.mp hj];exact Int.le_refl _⟩
 |k+1=>by
  obtain⟨h1,h2⟩:=YN val k
  show(if decide (val (k+1)<val (argBest _ k))=true then k+1 else argBest _ k)≤k+1∧∀ j,j≤k+1→val (if decide (val (k+1)<val (argBest _ k))=true then k+1 else argBest _ k)≤val j
  by_cases q:val (k+1)<val (argBest (fun i j=>decide (val i<val j)) k)
  ·rw[if_pos (decide_eq_true q)]
   refine⟨Nat.le_refl _,fun j hj=>?_⟩
   by_cases e:j=k+1
   ·rw[e];exact Int.le_refl _
   ·have:=h2 j (by omega)
    omega
  ·rw[if_neg (fun z=>q (of_decide_eq_true z))]
   refine⟨Nat.le_succ_of_le h1,fun j hj=>?_⟩
   by_cases e:j=k+1
   ·rw[e];omega
   ·exact h2 j (by omega)
noncomputable abbrev bst (u:Value) (c:Nat):Obj:={ cls:=.type "list",data:=.seq #[u,u] c }
section
variable {P:Program}{w:World}{A:Around}{R:Result→Shared→Prop}{I S:Addr}{fp wr:List Addr}{n:Nat}{Is:Nat→Value→Prop}{St:Nat→Heap→Prop}{kw:List (Str×Value)}
theorem Vt (W:Walks P w A.in1 I fp wr n Is St) (bt:Nat→Nat→Bool) (cm:CmpOf P w A.in1 .Gt Is bt) (nf:S∉fp):∀ (r j:Nat) (t:Shared) (u:Value) (c:Nat),n=j+1+r→St (j+1) t.heap→Is (argBest bt j) u→t.heap.get? S=some (bst u c) →
  (∀ v h' tk,Is (argBest bt (n-1)) v→(∀ b o,b∉wr→b≠S→t.heap.get? b=some o→h'.get? b=some o)→R (.ok (.ret v)) { t with heap:=h',toks:=tk })→codeAny (model P w) A (.builtin "max.loop" ⟨[.ref I,.none,.ref S],kw⟩) R t:=by
 have nw:S∉wr:=fun z=>nf (W.sub _ z)
 have nm:(toString "max" ++ toString ".loop" : String) = "max.loop" := by decide
 intro r
 induction r with
 |zero =>
  intro j t u c hn st iu at_ fin
  subst hn
  refine codeAny_builtin F.entry_max_loop (by
   rw[Around.under_plainId F.plain_max_loop _]
   show wpAny _ A.in1 (seqItems? (.ref S) >>= _) _ _ t
   refine wpAny_bind (wpAny_seqItems at_ rfl (by
    show wpAny _ A.in1 (tryCatch (pyNext (.ref I)) _ >>= _) _ _ t
    refine wpAny_bind (wpAny_tryCatch (W.done t _ _ st fun h1 tk kk=>?_))
    show wpAny _ A.in1 (updateSeq S (fun _=>#[]) >>= _) _ _ _
    refine wpAny_bind (wpAny_updateSeq (kk S _ nw at_) rfl (wpAny_bind (wpAny_letGo (wpAny_pure ?_))))
    exact fin u _ tk iu fun b o n1 n2 e=>(Heap.get?_update_other _ _ n2.symm).trans (kk b o n1 e))))
 |succ r ih =>
  intro j t u c hn st iu at_ fin
  refine codeAny_builtin F.entry_max_loop (by
   rw[Around.under_plainId F.plain_max_loop _]
   show wpAny _ A.in1 (seqItems? (.ref S) >>= _) _ _ t
   refine wpAny_bind (wpAny_seqItems at_ rfl (by
    show wpAny _ A.in1 (tryCatch (pyNext (.ref I)) _ >>= _) _ _ t
    refine wpAny_bind (wpAny_tryCatch (W.item (j+1) t _ _ (by omega) st fun v h1 tk iv st1 kk=>?_))
    have at1:=kk S _ nw at_
    show wpAny _ A.in1 (tryCatch (holding [v,v] (richCompare .Gt v u >>= _)) _ >>= _) _ _ _
    refine wpAny_bind (wpAny_tryCatch (wpAny_holding (wpAny_bind (cm (j+1) (argBest bt j) v u _ _ _ iv iu (wpAny_bind (wpAny_holding (wpAny_truthy_bool (wpAny_bind (wpAny_letGo (wpAny_pure ?_))))))))))
    by_cases q:bt (j+1) (argBest bt j)=true
    ·have ab:argBest bt (j+1)=j+1:=by show(if bt (j+1) (argBest bt j)=true then j+1 else argBest bt j)=_;rw[if_pos q]
     rw[if_pos q]
     refine wpAny_bind (wpAny_updateSeq at1 rfl (wpAny_bind (wpAny_letGo ?_)))
     rw[nm]
     refine wpAny_pure ⟨plainId_quiet F.plain_max_loop _,ih (j+1) _ v _ (by omega) (W.frame _ _ _ st1 fun b hb o e=>(Heap.get?_update_other _ _ fun z:S=b=>nf (z ▸ hb)).trans e) (by rw[ab];exact iv) (Heap.get?_update_self _ at1 rfl) fun v2 h2 tk2 iv2 kk2=>?_⟩
     exact fin v2 h2 tk2 iv2 fun b o n1 n2 e=>kk2 b o n1 n2 ((Heap.get?_update_other _ _ n2.symm).trans (kk b o n1 e))
    ·have ab:argBest bt (j+1)=argBest bt j:=by show(if bt (j+1) (argBest bt j)=true then j+1 else argBest bt j)=_;rw[if_neg q]
     rw[if_neg q]
     refine wpAny_bind (wpAny_letGo ?_)
     rw[nm]
     exact wpAny_pure ⟨plainId_quiet F.plain_max_loop _,ih (j+1) _ u c (by omega) st1 (by rw[ab];exact iu) at1 fun v2 h2 tk2 iv2 kk2=>fin v2 h2 tk2 iv2 fun b o n1 n2 e=>kk2 b o n1 n2 (kk b o n1 e)⟩)))
theorem Xw {d:Value}{x:Str}(W:Walks P w A.in1 I fp wr n Is St) (bt:Nat→Nat→Bool) (cm:CmpOf P w A.in1 .Gt Is bt) (nf:S∉fp){t:Shared}{c:Nat}(st:St 0 t.heap)
  (at_:t.heap.get? S=some { cls:=.type "list",data:=.seq #[] c }) (fin:∀ v h' tk,((n=0∧v=d)∨(0<n∧Is (argBest bt (n-1)) v))→(∀ b o,b∉wr→b≠S→t.heap.get? b=some o→h'.get? b=some o)→R (.ok (.ret v)) { t with heap:=h',toks:=tk }) :
  codeAny (model P w) A (.builtin "max.loop" ⟨[.ref I,.none,.ref S],[(x,d)]⟩) R t:=by
 have nw:S∉wr:=fun z=>nf (W.sub _ z)
 have nm:(toString "max" ++ toString ".loop" : String) = "max.loop" := by decide
 refine codeAny_builtin F.entry_max_loop (by
  rw[Around.under_plainId F.plain_max_loop _]
  show wpAny _ A.in1 (seqItems? (.ref S) >>= _) _ _ t
  refine wpAny_bind (wpAny_seqItems at_ rfl (by
   show wpAny _ A.in1 (tryCatch (pyNext (.ref I)) _ >>= _) _ _ t
   by_cases hn:n=0
   ·subst hn
    refine wpAny_bind (wpAny_tryCatch (W.done t _ _ st fun h1 tk kk=>?_))
    show wpAny _ A.in1 (rule _ >>= _) _ _ _
    exact wpAny_bind (wpAny_rule (wpAny_pure (fin d h1 tk (.inl ⟨rfl,rfl⟩) fun b o n1 _ e=>kk b o n1 e)))
   ·refine wpAny_bind (wpAny_tryCatch (W.item 0 t _ _ (by omega) st fun v h1 tk iv st1 kk=>?_))
    have at1:=kk S _ nw at_
    show wpAny _ A.in1 (updateSeq S (fun _=>#[v,v]) >>= _) _ _ _
    refine wpAny_bind (wpAny_updateSeq at1 rfl ?_)
    rw[nm]
    refine wpAny_pure ⟨plainId_quiet F.plain_max_loop _,Vt W bt cm nf (n-1) 0 _ v _ (by omega) (W.frame _ _ _ st1 fun b hb o e=>(Heap.get?_update_other _ _ fun z:S=b=>nf (z ▸ hb)).trans e) iv (Heap.get?_update_self _ at1 rfl) fun v2 h2 tk2 iv2 kk2=>?_⟩
    exact fin v2 h2 tk2 (.inr ⟨by omega,iv2⟩) fun b o n1 n2 e=>kk2 b o n1 n2 ((Heap.get?_update_other _ _ n2.symm).trans (kk b o n1 e)))))
theorem YS (a v:Value):argsOk "max" ⟨[a],[(Str.ofString "default",v)]⟩:=by unfold argsOk;kernel_rfl
theorem Vu {l:Addr}{its:List Value}{ns:List Int}{d:Value}{Q:Value→Shared→Prop}{E:Value→Shared→Prop}{s:Shared}(hh:A.handled=none) (hl:s.heap.IsList l its.toArray) (hr:Vals (ns.map V.int) its)
  (h:∀ v h' tk,((ns=[]∧v=d)∨∃ m t,v=.int m t∧m∈ns∧∀ y∈ns,y≤m)→(∀ b o,s.heap.get? b=some o→h'.get? b=some o)→Q v { s with heap:=h',toks:=tk }) :
  wpAny (model P w) A (call (.builtin "max") [.ref l] [(Str.ofString "default",d)]) Q E s:=by
 have nm:(toString "max" ++ toString ".loop" : String) = "max.loop" := by decide
 have lt:l<s.heap.objs.size:=by
  obtain⟨_,e,_⟩:=hl
  exact Heap.lt_size e
 have len:its.toArray.size=ns.length:=by
  have:=hr.length
  rw[List.length_map] at this
  simp[this]
 refine PyProof.Rows.kmk_tree F.kind_max F.plain_max F.entry_max (YS _ _) (by
  show wpAny _ A.in1 (Builtin.Builtins.bindParams "max" ["key", "default"] 0 ⟨[],[(Str.ofString "default",d)]⟩ >>= _) _ _ s
  refine wpAny_bind (wpAny_of_eq (show Builtin.Builtins.bindParams "max" ["key", "default"] 0 ⟨[],[(Str.ofString "default",d)]⟩=pure [none,some d] from rfl) (wpAny_bind (wpAny_pure (wpAny_bind (wpAny_pyIter_list hl (wpAny_bind (wpAny_newObj_type ?_)))))))
  rw[nm]
  have W:=Walks.list (prog:=P) (w:=w) (A:=A.in1) hh s.heap.objs.size l (Nat.ne_of_lt lt) its.toArray
  have st:((s.heap.push { cls:=.type "list_iterator",data:=.fields #[.ref l,.int 0 0] }).IsListIter s.heap.objs.size l 0∧(s.heap.push { cls:=.type "list_iterator",data:=.fields #[.ref l,.int 0 0] }).IsList l its.toArray):=⟨⟨_,Heap.get?_push_size _ rfl,rfl,rfl⟩,hl.push _⟩
  have cm:=CmpOf.ints_gt (prog:=P) (w:=w) (A:=A.in1) (fun i=>ns.getD i 0) (fun i v e=>wy hr e)
  have nf:(s.heap.push { cls:=.type "list_iterator",data:=.fields #[.ref l,.int 0 0] }).objs.size∉[s.heap.objs.size,l]:=by
   intro z
   rw[Heap.size_push] at z
   rcases List.mem_cons.mp z with e | e
   ·exact Nat.succ_ne_self _ e
   ·exact Nat.lt_irrefl _ (Nat.lt_trans (Nat.lt_succ_self _) ((List.mem_singleton.mp e).symm ▸ lt))
  refine wpAny_pure ⟨plainId_quiet F.plain_max_loop _,Xw (c:=0) W _ cm nf (W.frame _ _ _ st fun b _ o e=>Heap.get?_push_of_some _ e) (Heap.get?_push_size _ rfl) fun v h' tk hv kk=>?_⟩
  refine h v h' tk ?_ fun b o e=>kk b o (fun z=>?_) (fun z=>?_) (Heap.get?_push_of_some _ (Heap.get?_push_of_some _ e))
  ·rcases hv with⟨z,e⟩ | ⟨z,e⟩
   ·left
    exact⟨List.eq_nil_of_length_eq_zero (by omega),e⟩
   ·right
    obtain⟨t,et⟩:=wy hr e
    have hb:=YO (fun i=>ns.getD i 0) (its.toArray.size-1)
    refine⟨_,t,et,?_,fun y hy=>?_⟩
    ·have hi:=hb.1
     rw[xS (by omega)]
     exact List.getElem_mem _
    ·obtain⟨i,hi,rfl⟩:=List.mem_iff_getElem.mp hy
     have:=hb.2 i (by omega)
     rw[show(ns.getD i 0)=ns[i] from xS hi] at this
     exact this
  ·rw[List.mem_singleton.mp z] at e
   exact Nat.lt_irrefl _ (Heap.lt_size e)
  ·have z2:b=s.heap.objs.size+1:=z.trans (Heap.size_push _ _)
   exact Nat.lt_irrefl _ (Nat.lt_trans (Nat.lt_succ_self _) (z2 ▸ Heap.lt_size e)))
theorem Vr (W:Walks P w A.in1 I fp wr n Is St) (bt:Nat→Nat→Bool) (cm:CmpOf P w A.in1 .Lt Is bt) (nf:S∉fp):∀ (r j:Nat) (t:Shared) (u:Value) (c:Nat),n=j+1+r→St (j+1) t.heap→Is (argBest bt j) u→t.heap.get? S=some (bst u c) →
  (∀ v h' tk,Is (argBest bt (n-1)) v→(∀ b o,b∉wr→b≠S→t.heap.get? b=some o→h'.get? b=some o)→R (.ok (.ret v)) { t with heap:=h',toks:=tk })→codeAny (model P w) A (.builtin "min.loop" ⟨[.ref I,.none,.ref S],kw⟩) R t:=by
 have nw:S∉wr:=fun z=>nf (W.sub _ z)
 have nm:(toString "min" ++ toString ".loop" : String) = "min.loop" := by decide
 intro r
 induction r with
 |zero =>
  intro j t u c hn st iu at_ fin
  subst hn
  refine codeAny_builtin F.entry_min_loop (by
   rw[Around.under_plainId F.plain_min_loop _]
   show wpAny _ A.in1 (seqItems? (.ref S) >>= _) _ _ t
   refine wpAny_bind (wpAny_seqItems at_ rfl (by
    show wpAny _ A.in1 (tryCatch (pyNext (.ref I)) _ >>= _) _ _ t
    refine wpAny_bind (wpAny_tryCatch (W.done t _ _ st fun h1 tk kk=>?_))
    show wpAny _ A.in1 (updateSeq S (fun _=>#[]) >>= _) _ _ _
    refine wpAny_bind (wpAny_updateSeq (kk S _ nw at_) rfl (wpAny_bind (wpAny_letGo (wpAny_pure ?_))))
    exact fin u _ tk iu fun b o n1 n2 e=>(Heap.get?_update_other _ _ n2.symm).trans (kk b o n1 e))))
 |succ r ih =>
  intro j t u c hn st iu at_ fin
  refine codeAny_builtin F.entry_min_loop (by
   rw[Around.under_plainId F.plain_min_loop _]
   show wpAny _ A.in1 (seqItems? (.ref S) >>= _) _ _ t
   refine wpAny_bind (wpAny_seqItems at_ rfl (by
    show wpAny _ A.in1 (tryCatch (pyNext (.ref I)) _ >>= _) _ _ t
    refine wpAny_bind (wpAny_tryCatch (W.item (j+1) t _ _ (by omega) st fun v h1 tk iv st1 kk=>?_))
    have at1:=kk S _ nw at_
    show wpAny _ A.in1 (tryCatch (holding [v,v] (richCompare .Lt v u >>= _)) _ >>= _) _ _ _
    refine wpAny_bind (wpAny_tryCatch (wpAny_holding (wpAny_bind (cm (j+1) (argBest bt j) v u _ _ _ iv iu (wpAny_bind (wpAny_holding (wpAny_truthy_bool (wpAny_bind (wpAny_letGo (wpAny_pure ?_))))))))))
    by_cases q:bt (j+1) (argBest bt j)=true
    ·have ab:argBest bt (j+1)=j+1:=by show(if bt (j+1) (argBest bt j)=true then j+1 else argBest bt j)=_;rw[if_pos q]
     rw[if_pos q]
     refine wpAny_bind (wpAny_updateSeq at1 rfl (wpAny_bind (wpAny_letGo ?_)))
     rw[nm]
     refine wpAny_pure ⟨plainId_quiet F.plain_min_loop _,ih (j+1) _ v _ (by omega) (W.frame _ _ _ st1 fun b hb o e=>(Heap.get?_update_other _ _ fun z:S=b=>nf (z ▸ hb)).trans e) (by rw[ab];exact iv) (Heap.get?_update_self _ at1 rfl) fun v2 h2 tk2 iv2 kk2=>?_⟩
     exact fin v2 h2 tk2 iv2 fun b o n1 n2 e=>kk2 b o n1 n2 ((Heap.get?_update_other _ _ n2.symm).trans (kk b o n1 e))
    ·have ab:argBest bt (j+1)=argBest bt j:=by show(if bt (j+1) (argBest bt j)=true then j+1 else argBest bt j)=_;rw[if_neg q]
     rw[if_neg q]
     refine wpAny_bind (wpAny_letGo ?_)
     rw[nm]
     exact wpAny_pure ⟨plainId_quiet F.plain_min_loop _,ih (j+1) _ u c (by omega) st1 (by rw[ab];exact iu) at1 fun v2 h2 tk2 iv2 kk2=>fin v2 h2 tk2 iv2 fun b o n1 n2 e=>kk2 b o n1 n2 (kk b o n1 e)⟩)))
theorem Xs {d:Value}{x:Str}(W:Walks P w A.in1 I fp wr n Is St) (bt:Nat→Nat→Bool) (cm:CmpOf P w A.in1 .Lt Is bt) (nf:S∉fp){t:Shared}{c:Nat}(st:St 0 t.heap)
  (at_:t.heap.get? S=some { cls:=.type "list",data:=.seq #[] c }) (fin:∀ v h' tk,((n=0∧v=d)∨(0<n∧Is (argBest bt (n-1)) v))→(∀ b o,b∉wr→b≠S→t.heap.get? b=some o→h'.get? b=some o)→R (.ok (.ret v)) { t with heap:=h',toks:=tk }) :
  codeAny (model P w) A (.builtin "min.loop" ⟨[.ref I,.none,.ref S],[(x,d)]⟩) R t:=by
 have nw:S∉wr:=fun z=>nf (W.sub _ z)
 have nm:(toString "min" ++ toString ".loop" : String) = "min.loop" := by decide
 refine codeAny_builtin F.entry_min_loop (by
  rw[Around.under_plainId F.plain_min_loop _]
  show wpAny _ A.in1 (seqItems? (.ref S) >>= _) _ _ t
  refine wpAny_bind (wpAny_seqItems at_ rfl (by
   show wpAny _ A.in1 (tryCatch (pyNext (.ref I)) _ >>= _) _ _ t
   by_cases hn:n=0
   ·subst hn
    refine wpAny_bind (wpAny_tryCatch (W.done t _ _ st fun h1 tk kk=>?_))
    show wpAny _ A.in1 (rule _ >>= _) _ _ _
    exact wpAny_bind (wpAny_rule (wpAny_pure (fin d h1 tk (.inl ⟨rfl,rfl⟩) fun b o n1 _ e=>kk b o n1 e)))
   ·refine wpAny_bind (wpAny_tryCatch (W.item 0 t _ _ (by omega) st fun v h1 tk iv st1 kk=>?_))
    have at1:=kk S _ nw at_
    show wpAny _ A.in1 (updateSeq S (fun _=>#[v,v]) >>= _) _ _ _
    refine wpAny_bind (wpAny_updateSeq at1 rfl ?_)
    rw[nm]
    refine wpAny_pure ⟨plainId_quiet F.plain_min_loop _,Vr W bt cm nf (n-1) 0 _ v _ (by omega) (W.frame _ _ _ st1 fun b hb o e=>(Heap.get?_update_other _ _ fun z:S=b=>nf (z ▸ hb)).trans e) iv (Heap.get?_update_self _ at1 rfl) fun v2 h2 tk2 iv2 kk2=>?_⟩
    exact fin v2 h2 tk2 (.inr ⟨by omega,iv2⟩) fun b o n1 n2 e=>kk2 b o n1 n2 ((Heap.get?_update_other _ _ n2.symm).trans (kk b o n1 e)))))
theorem YR (a v:Value):argsOk "min" ⟨[a],[(Str.ofString "default",v)]⟩:=by unfold argsOk;kernel_rfl
theorem vK {l:Addr}{its:List Value}{ns:List Int}{d:Value}{Q:Value→Shared→Prop}{E:Value→Shared→Prop}{s:Shared}(hh:A.handled=none) (hl:s.heap.IsList l its.toArray) (hr:Vals (ns.map V.int) its)
  (h:∀ v h' tk,((ns=[]∧v=d)∨∃ m t,v=.int m t∧m∈ns∧∀ y∈ns,m≤y)→(∀ b o,s.heap.get? b=some o→h'.get? b=some o)→Q v { s with heap:=h',toks:=tk }) :
  wpAny (model P w) A (call (.builtin "min") [.ref l] [(Str.ofString "default",d)]) Q E s:=by
 have nm:(toString "min" ++ toString ".loop" : String) = "min.loop" := by decide
 have lt:l<s.heap.objs.size:=by
  obtain⟨_,e,_⟩:=hl
  exact Heap.lt_size e
 have len:its.toArray.size=ns.length:=by
  have:=hr.length
  rw[List.length_map] at this
  simp[this]
 refine PyProof.Rows.kmk_tree F.kind_min F.plain_min F.entry_min (YR _ _) (by
  show wpAny _ A.in1 (Builtin.Builtins.bindParams "min" ["key", "default"] 0 ⟨[],[(Str.ofString "default",d)]⟩ >>= _) _ _ s
  refine wpAny_bind (wpAny_of_eq (show Builtin.Builtins.bindParams "min" ["key", "default"] 0 ⟨[],[(Str.ofString "default",d)]⟩=pure [none,some d] from rfl) (wpAny_bind (wpAny_pure (wpAny_bind (wpAny_pyIter_list hl (wpAny_bind (wpAny_newObj_type ?_)))))))
  rw[nm]
  have W:=Walks.list (prog:=P) (w:=w) (A:=A.in1) hh s.heap.objs.size l (Nat.ne_of_lt lt) its.toArray
  have st:((s.heap.push { cls:=.type "list_iterator",data:=.fields #[.ref l,.int 0 0] }).IsListIter s.heap.objs.size l 0∧(s.heap.push { cls:=.type "list_iterator",data:=.fields #[.ref l,.int 0 0] }).IsList l its.toArray):=⟨⟨_,Heap.get?_push_size _ rfl,rfl,rfl⟩,hl.push _⟩
  have cm:=CmpOf.ints_lt (prog:=P) (w:=w) (A:=A.in1) (fun i=>ns.getD i 0) (fun i v e=>wy hr e)
  have nf:(s.heap.push { cls:=.type "list_iterator",data:=.fields #[.ref l,.int 0 0] }).objs.size∉[s.heap.objs.size,l]:=by
   intro z
   rw[Heap.size_push] at z
   rcases List.mem_cons.mp z with e | e
   ·exact Nat.succ_ne_self _ e
   ·exact Nat.lt_irrefl _ (Nat.lt_trans (Nat.lt_succ_self _) ((List.mem_singleton.mp e).symm ▸ lt))
  refine wpAny_pure ⟨plainId_quiet F.plain_min_loop _,Xs (c:=0) W _ cm nf (W.frame _ _ _ st fun b _ o e=>Heap.get?_push_of_some _ e) (Heap.get?_push_size _ rfl) fun v h' tk hv kk=>?_⟩
  refine h v h' tk ?_ fun b o e=>kk b o (fun z=>?_) (fun z=>?_) (Heap.get?_push_of_some _ (Heap.get?_push_of_some _ e))
  ·rcases hv with⟨z,e⟩ | ⟨z,e⟩
   ·left
    exact⟨List.eq_nil_of_length_eq_zero (by omega),e⟩
   ·right
    obtain⟨t,et⟩:=wy hr e
    have hb:=YN (fun i=>ns.getD i 0) (its.toArray.size-1)
    refine⟨_,t,et,?_,fun y hy=>?_⟩
    ·have hi:=hb.1
     rw[xS (by omega)]
     exact List.getElem_mem _
    ·obtain⟨i,hi,rfl⟩:=List.mem_iff_getElem.mp hy
     have:=hb.2 i (by omega)
     rw[show(ns.getD i 0)=ns[i] from xS hi] at this
     exact this
  ·rw[List.mem_singleton.mp z] at e
   exact Nat.lt_irrefl _ (Heap.lt_size e)
  ·have z2:b=s.heap.objs.size+1:=z.trans (Heap.size_push _ _)
   exact Nat.lt_irrefl _ (Nat.lt_trans (Nat.lt_succ_self _) (z2 ▸ Heap.lt_size e)))
end
section
variable {X:Cx}
theorem Yt:∀ {ns:List Int}{its:List Value},Vals (ns.map V.int) its→IntsAre its ns
 |[],_,r=>by cases r;exact .nil
 |n::ns,_,r=>by
  cases r with
  |cons h t =>
   obtain⟨k,rfl⟩:=h
   exact .cons _ _ (Yt t)
theorem vG:∀ {ns:List Int}{its:List Value},IntsAre its ns→Vals (ns.map V.int) its
 |_,_,.nil=>.nil
 |_,_,.cons _ _ t=>.cons ⟨_,rfl⟩ (vG t)
def Ue (K:PySem.W.Frag):List V→Hp→VK→Prop:=fun xs H Q=>∃ (a:Addr) (ns:List Int),xs=[V.ref a]∧SqL K H a (ns.map V.int)∧ns.length<64∧∀ (p:Addr) (ms:List Int),H p=none→ms.Perm ns→ms.Pairwise (· ≤ ·)→Q (.ref p) (upd H p (.lst (ms.map V.int)))
theorem xn:xb X (.builtin "sorted") (Ue X.K):=by
 intro pins s σ H xs us Q I r h
 obtain⟨a,ns,rfl,ha,h64,q⟩:=h
 obtain⟨u,rfl,ru⟩:=r.one
 cases ru
 obtain⟨its,rv,p,hz⟩:=I.list ha
 have hl:=rv.length
 rw[List.length_map] at hl hz
 refine sorted_ints p.isList (Yt rv) (by omega) fun out ms a1 a2 a3=>?_
 have hn:H (s.heap.objs.size+1)=none:=I.hok.fresh (Nat.le_succ _)
 obtain⟨c,hc⟩:=sortedAll_at s.heap its out
 refine⟨.ref _,_,I.laid (a:=s.heap.objs.size+1) (o:=.lst (ms.map V.int)) (t':=s.toks) (fun _ _ e=>sortedAll_old e) (Nat.le_succ _) ⟨?_,out.toList,c,vG a1,?_⟩,rfl,q _ ms hn a2 a3⟩
 ·rw[List.length_map,a2.length_eq];exact hz
 ·exact hc
def ziH (K:PySem.W.Frag) (A:Around):R2:=fun x y H Q=>∃ (a b:Addr) (xs ys:List V),x=.ref a∧y=.ref b∧SqL K H a xs∧SqL K H b ys∧xs.length≠ys.length∧A.units<cLine∧Q (.bl true) H
theorem Wn:OpR X (compareOp .NotEq) (ziH X.K X.A):=by
 intro pins s σ H x y v u Q I rx ry h
 obtain⟨a,b,xs,ys,rfl,rfl,h1,h2,hl,hu,q⟩:=h
 cases rx;cases ry
 obtain⟨i1,r1,p1,_⟩:=I.list h1
 obtain⟨i2,r2,p2,_⟩:=I.list h2
 exact SeqAt.RcNeAt.lists_lengths p1.isList p2.isList (by simp;rw[← r1.length,← r2.length];exact hl) hu _ _ _ _ ⟨.bl _,H,I,rfl,q⟩
end
theorem Yc {X:Cx}{f:Value→Value→Sem Value}{r1 r2:R2}(h1:OpR X f r1) (h2:OpR X f r2):OpR X f (fun x y H Q=>r1 x y H Q∨r2 x y H Q):=by
 intro pins s σ H x y v u Q I rx ry h
 rcases h with h | h
 ·exact h1 pins s σ H x y v u Q I rx ry h
 ·exact h2 pins s σ H x y v u Q I rx ry h
end L2
namespace K04
open PySem L2
def Ext (l:Addr) (H H':Hp):Prop:=∀ b o,H b=some o→b≠l→H' b=some o
theorem Ext.trans {l:Addr}{H H1 H2:Hp}(a:Ext l H H1) (b:Ext l H1 H2):Ext l H H2:=fun c o e n=>b c o (a c o e n) n
theorem Ext.same {l:Addr}{H H':Hp}(a:Same H H'):Ext l H H':=fun c o e _=>a c o e
theorem Ext.new {l p:Addr}{H:Hp}{o:HO}(h:H p=none):Ext l H (upd H p o):=fun c u e _=>by rw[upd_ne (ne_of_none e h)];exact e
theorem Ext.at {l:Addr}{H:Hp}{o:HO}:Ext l H (upd H l o):=fun c u e n=>by rw[upd_ne n];exact e
theorem Same.new {p:Addr}{H:Hp}{o:HO}(h:H p=none):Same H (upd H p o):=fun c u e=>by rw[upd_ne (ne_of_none e h)];exact e
theorem XF {i:Nat}{v:V}{τ:St}{H:Hp}{A B:St→Hp→Prop}(h:A (τ.set i (some v)) H):vM i v τ H fun τ2 H4=>zag τ2 H4 fun b H5=>if b=true then A τ2 H5 else B τ2 H5:=by
 show if true=true then A (τ.set i (some v)) H else B (τ.set i (some v)) H
 exact vt h
theorem XR {ns:List Int}{lo hi:Option Int}{i:Nat}{y:V}(h:(wN (ns.map V.int) lo hi)[i]?=some y):∃ c,y=.int c:=by
 have hm:=List.mem_of_getElem? h
 unfold wN at hm
 obtain⟨c,_,e⟩:=List.mem_map.mp (List.mem_of_mem_drop (List.mem_of_mem_take hm))
 exact⟨c,e.symm⟩
theorem Xz:((1009:Int).natAbs.log2<9000):=by decide
theorem Xy:((2003:Int).natAbs.log2<9000):=by decide
end K04
namespace L2
open PySem PySem.Spec PyProof.Rows
section
variable {P:Program}{w:World}{H H':Hp}{h h':Heap}{a:Addr}{o:HO}
theorem ObjOk.thr (x:ObjOk P w H h a o):∃ u,h.get? a=some u:=by
 cases o with
 |lst xs=>obtain⟨_,_,_,_,e⟩:=x;exact⟨_,e⟩
 |tup xs=>obtain⟨_,_,_,_,e,_⟩:=x;exact⟨_,e⟩
 |dK kvs=>obtain⟨_,_,_,_,o,_,_,e,_⟩:=x;exact⟨_,e⟩
 |dT kvs=>obtain⟨_,_,_,_,o,_,_,e,_⟩:=x;exact⟨_,e⟩
 |set S n=>obtain⟨o,_,_,_,e,_⟩:=x;exact⟨_,e⟩
 |ins C dx fs=>obtain⟨_,_,_,e,_⟩:=x;exact⟨_,e⟩
 |own y=>obtain⟨_,e⟩:=x;exact⟨_,e⟩
 |xd fs=>obtain⟨_,⟨_,_,_,e,_⟩,_⟩:=x;exact⟨_,e⟩
 |rng lo hi=>obtain⟨_,_,_,e⟩:=x;exact⟨_,e⟩
 |frz ob u=>obtain⟨e,_⟩:=x;exact⟨_,e⟩
 |tbl ps=>exact⟨_,show h.get? a=some _ from x⟩
 |met f y=>exact⟨_,show h.get? a=some _ from x⟩
 |ext φ=>obtain⟨_,⟨_,e⟩,_⟩:=x;exact⟨_,e⟩
theorem HOk.thr (x:HOk P w H h) (e:H a=some o):∃ u,h.get? a=some u:=(x a o e).thr
theorem HOk.untr (x:HOk P w H h) (e:h.get? a=none):H a=none:=by
 cases q:H a with
 |none=>rfl
 |some u =>
  obtain⟨v,hv⟩:=x.thr q
  rw[e] at hv
  cases hv
end
end L2
namespace L2
open PySem
section
variable {X:Cx}{es:List Expr}{t:TA}{te:TE}
theorem ziQ {c j pos}(ha:PE X (.Constant c j pos) te) (hr:PA X es t):PA X (.Constant c j pos::es) (xq te t):=yx ha hr rfl
theorem ziO {xs c pos}(ha:PE X (.Tuple xs c pos) te) (hr:PA X es t):PA X (.Tuple xs c pos::es) (xq te t):=yx ha hr rfl
theorem ziP {f xs ks pos}(ha:PE X (.Call f xs ks pos) te) (hr:PA X es t):PA X (.Call f xs ks pos::es) (xq te t):=yx ha hr rfl
theorem ziR {l o r pos}(ha:PE X (.BinOp l o r pos) te) (hr:PA X es t):PA X (.BinOp l o r pos::es) (xq te t):=yx ha hr rfl
theorem xo {x pos}(ha:PE X (.Name x pos) te) (hr:PA X es t):PA X (.Name x pos::es) (xq te t):=yx ha hr rfl
end
end L2
namespace L2
open PySem PySem.Spec PyProof.Rows
theorem entry_dul:entryFor table "dict.update.loop" = some Builtin.«dict.update.loop»:=entryFor_of_tree (by kernel_rfl)
theorem plain_dul:plainId "dict.update.loop" = true:=by decide +kernel
theorem Yl:typeLookup (.type "list") "keys" = pure none:=am_miss_of_fast (by kernel_rfl)
section
variable {P:Program}{w:World}{A:Around}{E:Value→Shared→Prop}{s:Shared}
theorem Vp {a:Addr}{xs:Array Value}{Q:Option Value→Shared→Prop}(hl:PlainL s.heap a xs) (hA:A.handled=none)
  (q:∀ h' tk,(∀ b o,s.heap.get? b=some o→h'.get? b=some o)→Q none { s with heap:=h',toks:=tk }):wpAny (model P w) A (getAttr? (.ref a) "keys") Q E s:=by
 obtain⟨o,n,hx,hc,hd,hs⟩:=hl
 obtain⟨c,dct,dat,sl⟩:=o
 dsimp only at hc hd hs
 subst hc hd hs
 obtain⟨hp,g,dr,tk0,os⟩:=s
 have hT:∀ tk',(⟨hp,g,dr,tk',os⟩:Shared).TypeIs (.ref a) "list" := fun _=>⟨_,hx,rfl⟩
 have f1:=sub_AttributeError
 have f3:=F.slot_list_getattribute.lookup
 have f4:=F.slot_list_getattribute.bind (.ref a)
 have f5:=am_list_getattr_none
 unfold getAttr? getAttrBy? getAttrBy
 repeat (any_goals (first | assumption | exact hT _ | ((with_reducible show wpAny _ _ (call (Value.builtin "list.__getattribute__") _ _) _ _ _);refine call_meets F.slot_list_getattribute (hT _) am_entry_list_getattribute (F.args_list_getattribute_2 _ _) (meets_getattribute_miss_list a xs n sl "keys" _ Yl (by decide +kernel) (by decide +kernel)) ⟨hx,hA,fun h1 tk1 e1 ne=>?_⟩) | wp_step))
 obtain⟨t',u',he⟩:=ne.there
 show wpAny _ _ (getattributeRaised _ _ _ _ _ _ _) _ _ _
 unfold getattributeRaised hookOrError attributeErrorLeaves
 repeat (any_goals (first | assumption | wp_step))
 exact q _ _ ne.keeps
variable {K:Type} [DecidableEq K]{knd:KeyKind P w K}
theorem zaa {d I:Addr}{fp wr:List Addr}{n:Nat}{Is:Nat→Value→Prop}{St:Nat→Heap→Prop}{R:Except Value Flow→Shared→Prop}(W:Walks P w A.in1 I fp wr n Is St) (nf:d∉fp) (kvs:List (K×Value)) (hk:kvs.length=n) (hz:n≤1000)
  (h0:Heap) (hI:∀ i v,Is i v→∃ q k,v=.ref q∧(∃ o x,h0.get? q=some o∧o.cls=.type "tuple" ∧ o.data=.seq #[k,(kvs[i]?.map (·.2)).getD .none] x)∧∃ kk,(kvs[i]?.map (·.1))=some kk∧knd.is kk k=true)
  (hq:∀ i v q,Is i v→v=.ref q→q∉wr∧q≠d) :
  ∀ (r j:Nat) (t:Shared) (tk0:Tok),j+r=n→St j t.heap→t.heap.DictOf knd d (merged [] (kvs.take j))→(∀ b o,b∉wr→b≠d→h0.get? b=some o→t.heap.get? b=some o) →
   (∀ h' tk,h'.DictOf knd d (merged [] kvs)→(∀ b o,b∉wr→b≠d→t.heap.get? b=some o→h'.get? b=some o)→R (.ok (.ret .none)) { t with heap:=h',toks:=tk }) →
   codeAny (model P w) A (.builtin "dict.update.loop" ⟨[.ref d,.ref I,.int (j:Int) tk0,.none],[]⟩) R t:=by
 have nw:d∉wr:=fun z=>nf (W.sub _ z)
 intro r
 induction r with
 |zero =>
  intro j t tk0 hj st hd keep fin
  have ej:j=n:=by omega
  subst ej
  refine codeAny_builtin entry_dul (by
   rw[Around.under_plainId plain_dul _]
   show wpAny _ A.in1 (pyNext (.ref I) >>= _) _ _ t
   refine wpAny_bind (W.done t _ _ st fun h1 tk kk=>?_)
   show wpAny _ A.in1 (Builtin.Dict.addKeywords d [] >>= _) _ _ _
   rw[← hk,List.take_length] at hd
   obtain⟨o,ho,hdo⟩:=Heap.dictOf_iff.mp hd
   exact wpAny_bind (wpAny_pure (wpAny_pure (fin h1 tk (Heap.dictOf_iff.mpr ⟨o,kk d o nw ho,hdo⟩) fun b o n1 _ e=>kk b o n1 e))))
 |succ r ih =>
  intro j t tk0 hj st hd keep fin
  refine codeAny_builtin entry_dul (by
   rw[Around.under_plainId plain_dul _]
   show wpAny _ A.in1 (pyNext (.ref I) >>= _) _ _ t
   refine wpAny_bind (W.item j t _ _ (by omega) st fun v h1 tk iv st1 kk=>?_)
   obtain⟨q,k,rfl,⟨o,x,hq0,hc,hs⟩,kx,hkx,hki⟩:=hI j v iv
   obtain⟨nq1,nq2⟩:=hq j _ q iv rfl
   have hq1:=kk q o nq1 (keep q o nq1 nq2 hq0)
   obtain⟨od,hod,hdo⟩:=Heap.dictOf_iff.mp hd
   have hd1:h1.DictOf knd d (merged [] (kvs.take j)):=Heap.dictOf_iff.mpr ⟨od,kk d od nw hod,hdo⟩
   obtain⟨⟨k2,v2⟩,hkv⟩:∃ kv,kvs[j]?=some kv:=⟨kvs[j]'(by omega),by simp[show j<kvs.length by omega]⟩
   rw[hkv] at hs hkx
   cases hkx
   show wpAny _ A.in1 (holding [Value.ref q] (tryCatch (Builtin.Dict.pairItems (Value.ref q)) _ >>= _) >>= _) _ _ _
   refine wpAny_bind (wpAny_holding (wpAny_bind (wpAny_tryCatch ?_)))
   unfold Builtin.Dict.pairItems
   refine wpAny_bind (wpAny_typeOf (T := "tuple") ⟨o,hq1,hc⟩ ?_)
   rw[if_pos (by decide)]
   refine wpAny_bind (wpAny_seqItems hq1 hs (wpAny_pure ?_))
   show wpAny _ A.in1 (holding [k,v2] (dictSet d k v2)) _ _ _
   refine wpAny_holding (wpAny_dictSet_pairs hki hd1 (fun h2 hd2 sb=>?_) ?_)
   ·show wpAny _ A.in1 (pure _) _ _ _
    have hm:=merged_take_succ ([]:List (K×Value)) kvs j (k2,v2) hkv
    refine wpAny_pure ⟨plainId_quiet plain_dul _,ih (j+1) _ _ (by omega) (W.frame _ _ _ st1 fun b hb o e=>?_) (by rw[hm];exact hd2) (fun b o n1 n2 e=>?_) fun h3 tk3 hd3 kk3=>fin h3 tk3 hd3 fun b o n1 n2 e=>kk3 b o n1 n2 ?_⟩
    ·exact(sb.2 b fun z=>nf (z ▸ hb)).trans e
    ·exact(sb.2 b n2).trans (kk b o n1 (keep b o n1 n2 e))
    ·exact(sb.2 b n2).trans (kk b o n1 e)
   ·have:=merged_length_le ([]:List (K×Value)) (kvs.take j)
    rw[List.length_take] at this
    simp only[List.length_nil] at this
    exact Nat.le_trans (show _≤1000 by omega) (by decide))
end
section
variable {X:Cx}
theorem v6:∀ {xs:List V}{us:List Value}{i:Nat}{u:Value},Vals xs us→us[i]?=some u→∃ x,xs[i]?=some x∧RelV x u
 |_,_,0,_,.cons r _,h=>by cases h;exact⟨_,rfl,r⟩
 |_,_,i+1,_,.cons _ t,h=>by
  obtain⟨x,e,r⟩:=v6 t (by simpa using h)
  exact⟨x,by simpa using e,r⟩
theorem uj {pins:List (Addr×Obj)}{σ:St}{H:Hp}{s:Shared}(I:Inv X pins σ H s):∀ (qs:List Addr) (kvs:List (Key×V)),qs.length=kvs.length→(∀ (i:Nat) (q:Addr) (kv:Key×V),qs[i]?=some q→kvs[i]?=some kv→H q=some (.tup [kV kv.1,kv.2])) →
  ∃ vs:List (Key×Value),KV kvs vs∧∀ (i:Nat) (q:Addr),qs[i]?=some q→∃ o x k kv,s.heap.get? q=some o∧o.cls=.type "tuple" ∧ o.data=.seq #[k,kv.2] x∧vs[i]?=some kv∧(zm X.prog X.w).is kv.1 k=true
 |[],[],_,_=>⟨[],.nil,fun i q h=>by simp at h⟩
 |q::qs,kv::kvs,hl,h=>by
  obtain⟨vs,r,hv⟩:=uj I qs kvs (by simpa using hl) fun i q' kv' h1 h2=>h (i+1) q' kv' (by simpa using h1) (by simpa using h2)
  have h0:=h 0 q kv rfl rfl
  obtain⟨its,rv,it,_⟩:=I.tuple (SqT.of h0)
  obtain⟨uk,ux,rfl,rk,rx⟩:∃ uk ux,its=[uk,ux]∧RelV (kV kv.1) uk∧RelV kv.2 ux:=by
   cases rv with | cons r1 rv =>
   cases rv with | cons r2 rv =>
   cases rv
   exact⟨_,_,rfl,r1,r2⟩
  obtain⟨o,e,oc,n,od⟩:=it
  refine⟨(kv.1,ux)::vs,.cons ⟨rfl,rx⟩ r,fun i q' hi=>?_⟩
  cases i with
  |zero =>
   cases hi
   exact⟨o,n,uk,(kv.1,ux),e,oc,od,rfl,wK rk⟩
  |succ i=>exact hv i q' (by simpa using hi)
def Uh (K:PySem.W.Frag):List V→Hp→VK→Prop:=fun xs H Q=>∃ (a:Addr) (qs:List Addr) (kvs:List (Key×V)),xs=[V.ref a]∧H a=some (.lst (qs.map V.ref))∧qs.length=kvs.length∧kvs.length≤1000∧(∀ (i:Nat) (q:Addr) (kv:Key×V),qs[i]?=some q→kvs[i]?=some kv→H q=some (.tup [kV kv.1,kv.2])) ∧
 ∀ p,H p=none→Q (.ref p) (upd H p (.dK (mergeK [] kvs)))
theorem ww (hc:X.calm=true):xb X (.type "dict") (Uh X.K):=by
 intro pins s σ H xs us Q I r h
 obtain⟨a,qs,kvs,rfl,ha,hl,hz,hq,k⟩:=h
 obtain⟨u,rfl,ru⟩:=r.one
 cases ru
 obtain⟨its,rv,pl,_⟩:=I.list (SqL.of ha)
 have hA:X.A.handled=none:=I.ok.hd hc
 refine callType_codes (Q₁:=fun obj s₁=>obj=.ref s.heap.objs.size∧s₁={ s with heap:=s.heap.push { cls:=.type "dict",data:=.dict #[] } }) F.kt_called_dict (F.kt_typeCall_dict_1 _) F.entry_dict_init (kt_code_dict_new _ ⟨rfl,rfl⟩) ?_
 rintro obj s₁ ⟨rfl,rfl⟩
 have hnew:(s.heap.push { cls:=.type "dict",data:=.dict #[] }).DictOf (zm X.prog X.w) s.heap.objs.size []:=Heap.DictOf.new s.heap
 have lt:a<s.heap.objs.size:=by
  obtain⟨_,e,_⟩:=pl.isList
  exact Heap.lt_size e
 have pl1:PlainL (s.heap.push { cls:=.type "dict",data:=.dict #[] }) a its.toArray:=by
  obtain⟨o,n,e,r⟩:=pl
  exact⟨o,n,Heap.get?_push_of_some _ e,r⟩
 refine⟨hnew.typeIs,F.args_dict_init_2 _ _,?_⟩
 unfold Builtin.«dict.__init__»
 refine wpAny_bind ?_
 unfold Builtin.Dict.selfAndRest
 refine wpAny_bind (wpAny_notOrdered_dict hnew.typeIs ?_)
 show wpAny _ _ (pure (s.heap.objs.size,[Value.ref a])) _ _ _
 refine wpAny_pure ?_
 show wpAny _ _ (Builtin.Dict.updateFrom "dict.__init__" s.heap.objs.size (.ref a) [] .none) _ _ _
 unfold Builtin.Dict.updateFrom
 obtain⟨o,n,e,oc,od,os⟩:=pl1
 refine wpAny_bind (wpAny_typeOf (T := "list") ⟨o,e,oc⟩ ?_)
 rw[if_pos (by decide)]
 refine wpAny_bind (Vp ⟨o,n,e,oc,od,os⟩ hA fun h1 tk1 kk1=>?_)
 obtain⟨vs,rel,hvs⟩:=uj I qs kvs hl hq
 have hl1:h1.IsList a its.toArray:=⟨o,kk1 _ _ e,oc,n,os⟩
 show wpAny _ _ (rule _ >>= _) _ _ _
 refine wpAny_bind (wpAny_rule (wpAny_bind (wpAny_pyIter_list hl1 ?_)))
 have nd0:(s.heap.push { cls:=.type "dict",data:=.dict #[] }).get? s.heap.objs.size=some { cls:=.type "dict",data:=.dict #[] }:=Heap.get?_push_size _ rfl
 have nd1:=kk1 _ _ nd0
 have ltd:s.heap.objs.size<h1.objs.size:=Heap.lt_size nd1
 have lta:a<h1.objs.size:=Nat.lt_trans lt ltd
 have len:its.toArray.size=vs.length:=by
  have e1:=rv.length
  rw[List.length_map] at e1
  have e2:=rel.length
  simp
  omega
 have lvs:vs.length=kvs.length:=(rel.length).symm
 have W:=Walks.list (prog:=X.prog) (w:=X.w) (A:=X.A.in1.in1) hA h1.objs.size a (Nat.ne_of_lt lta) its.toArray
 have st:((h1.push { cls:=.type "list_iterator",data:=.fields #[.ref a,.int 0 0] }).IsListIter h1.objs.size a 0∧(h1.push { cls:=.type "list_iterator",data:=.fields #[.ref a,.int 0 0] }).IsList a its.toArray):=⟨⟨_,Heap.get?_push_size _ rfl,rfl,rfl⟩,hl1.push _⟩
 have nf:s.heap.objs.size∉[h1.objs.size,a]:=by
  intro z
  rcases List.mem_cons.mp z with z | z
  ·exact Nat.lt_irrefl _ (z ▸ ltd)
  ·exact Nat.lt_irrefl _ ((List.mem_singleton.mp z) ▸ lt)
 have item:∀ (i:Nat) (v:Value),its.toArray[i]?=some v→∃ q:Addr,v=Value.ref q∧qs[i]?=some q:=fun i v hv=>by
  have hv:its[i]?=some v:=by simpa using hv
  obtain⟨x,hx,rx⟩:=v6 rv hv
  rw[List.getElem?_map] at hx
  obtain⟨q,hq,rfl⟩:=Option.map_eq_some_iff.mp hx
  exact⟨q,rx,hq⟩
 have hd0:(h1.push { cls:=.type "list_iterator",data:=.fields #[.ref a,.int 0 0] }).DictOf (zm X.prog X.w) s.heap.objs.size []:=by
  obtain⟨od,hod,hdo⟩:=Heap.dictOf_iff.mp hnew
  exact Heap.dictOf_iff.mpr ⟨od,Heap.get?_push_of_some _ (kk1 _ _ hod),hdo⟩
 refine wpAny_pure ⟨plainId_quiet plain_dul _,zaa (A:=X.A.in1) (knd:=zm X.prog X.w) W nf vs len.symm (by omega) s.heap ?_ ?_ its.toArray.size 0 _ 0 (by omega) st hd0 ?_ ?_⟩
 ·intro i v hv
  obtain⟨q,rfl,hq'⟩:=item i v hv
  obtain⟨o,x,k',kv,e1,e2,e3,e4,e5⟩:=hvs i q hq'
  exact⟨q,k',rfl,⟨o,x,e1,e2,by rw[e4];exact e3⟩,kv.1,by rw[e4];rfl,e5⟩
 ·intro i v q hv ev
  obtain⟨q',rfl,hq'⟩:=item i v hv
  cases ev
  obtain⟨o,x,k',kv,e1,_⟩:=hvs i _ hq'
  have l1:=Heap.lt_size e1
  exact⟨fun z=>by rw[List.mem_singleton.mp z] at l1;exact Nat.lt_irrefl _ (Nat.lt_trans l1 ltd),fun z=>by rw[z] at l1;exact Nat.lt_irrefl _ l1⟩
 ·intro b o n1 n2 e
  exact Heap.get?_push_of_some _ (kk1 _ _ (Heap.get?_push_of_some _ e))
 ·intro h' tk hd' kk'
  refine⟨rfl,?_⟩
  refine⟨.ref s.heap.objs.size,_,I.laid (a:=s.heap.objs.size) (o:=.dK (mergeK [] kvs)) (t':=tk) (fun b o e=>?_) (Nat.le_refl _) (wq ?_ (beq_eq_false_iff_ne.mpr (Ne.symm (Nat.ne_of_lt I.big))) (KV.merge rel .nil) hd'),rfl,k _ (I.hok.fresh (Nat.le_refl _))⟩
  ·have l1:=Heap.lt_size e
   refine kk' b o (fun z=>?_) (fun z=>?_) (Heap.get?_push_of_some _ (kk1 _ _ (Heap.get?_push_of_some _ e)))
   ·rw[List.mem_singleton.mp z] at l1
    exact Nat.lt_irrefl _ (Nat.lt_trans l1 ltd)
   ·rw[z] at l1
    exact Nat.lt_irrefl _ l1
  ·have e1:=(KV.merge rel (.nil:KV ([]:List (Key×V)) [])).length
   have e2:=merged_length_le ([]:List (Key×Value)) vs
   simp only[List.length_nil] at e2
   exact Nat.le_trans (show _≤1000 by omega) (by decide)
end
def V4 (td ty:TE):TE:=fun σ H Q=>td σ H fun x H1=>∃ a,x=.ref a∧IsD H1 a∧ty σ H1 fun y H2=>∃ b kvs more,y=.ref b∧a≠b∧H2 a=some (.dK kvs)∧H2 b=some (.dK more)∧kvs.length+more.length≤1000∧Q .non (upd H2 a (.dK (mergeK kvs more)))
section
variable {X:Cx}{o e:Expr}{apos cpos:Pos}{td ty:TE}
theorem W2 (ho:PE X o td) (he:PE X e ty) (m:M1 X o "update" apos e cpos):PE X (.Call (.Attribute o "update" apos) [e] [] cpos) (V4 td ty):=by
 intro pins s σ H Q I h
 refine wpAny_Call_method m.base m.few m.line PySem.F.plainAttrs_dict PySem.F.slot_dict_update PySem.F.type_dict_update (thn (ho pins s σ H _ I h) fun u s1 hq0=>?_)
 obtain⟨x,H1,I1,rx,a,ex,d,q1⟩:=hq0
 subst ex
 obtain rfl:u=Value.ref a:=rx
 obtain⟨t1,t2,_⟩:=wo I1 d
 refine⟨t1,t2,?_⟩
 rw[m.trees]
 refine Calls.callWith_builtin rfl (Calls.evalArgs_plain (Calls.spliced_cons (thn (he pins s1 σ H1 _ I1 q1) fun iv s2 ⟨y,H2,I2,ry,b,kvs,more,ey,ne,ha,hb,hz,q2⟩=>Calls.spliced_nil ?_)))
 subst ey
 obtain rfl:iv=Value.ref b:=ry
 obtain⟨z1,hd1,vs1,rel1,dd1⟩:=wM I2.hok ha
 obtain⟨z2,hd2,vs2,rel2,dd2⟩:=wM I2.hok hb
 have l1:=rel1.length
 have l2:=rel2.length
 have rm:=KV.merge rel2 rel1
 have lm:=merged_length_le vs1 vs2
 have lm2:=rm.length
 refine call_meetsIn PySem.F.slot_dict_update dd1.typeIs PySem.F.entry_dict_update (PySem.F.args_dict_update_2 _ _) (meets_dict_update (zm X.prog X.w) a b ne hd2) ⟨vs1,vs2,dd1,dd2,Nat.le_trans (show _≤1000 by omega) (by decide),fun h' dd' _ hs=>?_⟩
 have he':∃ q,h'.get? a=some q:=let ⟨q,_,_,hq,_⟩:=dd';⟨q,hq⟩
 exact⟨.non,_,yQ (t':=s2.toks) I2 (by rw[ha];exact True.intro) hs he' (wq (Nat.le_trans (show _≤1000 by omega) (by decide)) hd1 rm dd'),rfl,q2⟩
end
end L2
namespace L2
open PySem PySem.W PyProof.Rows
section
variable {X:Cx}{o:Expr}{to:TE}{apos cpos:Pos}
def V7 (to:TE):TE:=fun σ H Q=>to σ H fun x H1=>∃ a kvs,x=.ref a∧H1 a=some (.dK kvs)∧Q .non (upd H1 a (.dK []))
theorem W7 (ho:PE X o to) (hbase:attributeBase o "clear" X.env (eval o X.env)=eval o X.env:=by rfl) (hline:(apos.endLine == cpos.line)=true:=by rfl):PE X (.Call (.Attribute o "clear" apos) [] [] cpos) (V7 to):=by
 intro pins s σ H Q I h
 refine wpAny_Call_method0_late hbase hline (thn (ho pins s σ H _ I h) fun v s1 hq0=>?_)
 obtain⟨x,H1,I1,rx,a,kvs,ex,e,q1⟩:=hq0
 subst ex
 obtain rfl:v=Value.ref a:=rx
 obtain⟨t1,t2,_⟩:=wo I1 (.inl ⟨_,.inl e⟩)
 exact⟨"dict", "dict.clear",PySem.F.plainAttrs_dict,PySem.F.slot_dict_clear,PySem.F.type_dict_clear,t1,t2,Calls.callWith_builtin rfl (PySem.evalArgs_none (VF I1 e fun s2 I2=>⟨.non,_,I2,rfl,q1⟩))⟩
end
end L2
namespace L2
open PySem PySem.Spec PyProof.Rows
section
variable {X:Cx}{pins:List (Addr×Obj)}{σ:St}{H G:Hp}{s:Shared}{d:Addr}{od:Obj}{kvs:List (Key×V)}
theorem Inv.froz (I:Inv X pins σ H s) (e:H d=some (.dK kvs)) (q0:s.heap.get? d=some od):Inv X pins σ (upd H d (.frz od (.dK kvs))) s:=by
 have ne:∀ {b:Addr}{o:HO},H b=some o→(∀ kvs,o≠.dK kvs)→upd H d (.frz od (.dK kvs)) b=some o:=fun {b o} q n=>by
  rw[upd_ne (fun z=>by rw[z,e] at q;injection q with q;exact n _ q.symm)];exact q
 have no:∀ {b:Addr},H b=none→upd H d (.frz od (.dK kvs)) b=none:=fun {b} q=>by
  rw[upd_ne (fun z=>by rw[z,e] at q;cases q)];exact q
 refine⟨I.ok,I.os,I.bare,⟨I.base.keep,I.base.slot,fun b o q n x=>no (I.base.free b o q n x),I.base.there,fun b xs q=>ne (I.base.tups b xs q) (fun _ z=>by cases z),fun b o u q=>ne (I.base.frzs b o u q) (fun _ z=>by cases z),fun b ps q=>?_⟩,I.loc,I.cell,no I.free,fun x c q=>no (I.freeC x c q),fun p hp=>?_,fun b o q=>?_,I.len⟩
 ·obtain⟨m,q⟩:=I.base.tbls b ps q
  exact⟨m,ne q (fun _ z=>by cases z)⟩
 ·obtain⟨p1,p2,p3⟩:=I.pin p hp
  exact⟨p1,no p2,p3⟩
 ·have st:∀ {b:Addr}{o:HO},H b=some o→ObjOk X.prog X.w (upd H d (.frz od (.dK kvs))) s.heap b o:=fun {b o} q=>(I.hok b o q).stay (fun c u _ q=>q) (fun c q=>ne q (fun _ z=>by cases z)) fun c xs q=>ne q (fun _ z=>by cases z)
  by_cases c:b=d
  ·subst c
   rw[upd_same] at q
   cases q
   exact⟨q0,st e⟩
  ·rw[upd_ne c] at q
   exact st q
theorem Inv.thaw (I:Inv X pins σ G s) (S:∀ o u,X.H₀ d≠some (.frz o u)) (g:G d=some (.frz od (.dK kvs))):Inv X pins σ (upd G d (.dK kvs)) s:=by
 have ne:∀ {b:Addr}{o:HO},G b=some o→(∀ ob u,o≠.frz ob u)→upd G d (.dK kvs) b=some o:=fun {b o} q n=>by
  rw[upd_ne (fun z=>by rw[z,g] at q;injection q with q;exact n _ _ q.symm)];exact q
 have no:∀ {b:Addr},G b=none→upd G d (.dK kvs) b=none:=fun {b} q=>by
  rw[upd_ne (fun z=>by rw[z,g] at q;cases q)];exact q
 refine⟨I.ok,I.os,I.bare,⟨I.base.keep,I.base.slot,fun b o q n x=>no (I.base.free b o q n x),I.base.there,fun b xs q=>ne (I.base.tups b xs q) (fun _ _ z=>by cases z),fun b o u q=>?_,fun b ps q=>?_⟩,I.loc,I.cell,no I.free,fun x c q=>no (I.freeC x c q),fun p hp=>?_,fun b o q=>?_,I.len⟩
 ·rw[upd_ne (fun(z:b=d)=>S o u (by rw[← z];exact q))]
  exact I.base.frzs b o u q
 ·obtain⟨m,q⟩:=I.base.tbls b ps q
  exact⟨m,ne q (fun _ _ z=>by cases z)⟩
 ·obtain⟨p1,p2,p3⟩:=I.pin p hp
  exact⟨p1,no p2,p3⟩
 ·have st:∀ {b:Addr}{o:HO},ObjOk X.prog X.w G s.heap b o→ObjOk X.prog X.w (upd G d (.dK kvs)) s.heap b o:=fun {b o} q=>q.stay (fun c u _ q=>q) (fun c q=>ne q (fun _ _ z=>by cases z)) fun c xs q=>ne q (fun _ _ z=>by cases z)
  by_cases c:b=d
  ·subst c
   rw[upd_same] at q
   cases q
   exact st (I.hok b _ g).2
  ·rw[upd_ne c] at q
   exact st (I.hok b o q)
theorem KV.getAt:∀ {kvs:List (Key×V)}{vs:List (Key×Value)},KV kvs vs→∀ {i:Nat}{p:Key×V},kvs[i]?=some p→∃ u,vs[i]?=some (p.1,u)∧RelV p.2 u
 |_,_,.nil,i,p,h=>by cases h
 |_,_,.cons (b:=q) r t,0,p,h=>by
  cases h
  exact⟨q.2,by rw[r.1];rfl,r.2⟩
 |_,_,.cons r t,i+1,p,h=>KV.getAt t (i:=i) h
end
section
variable {X:Cx}
def ziL (K:PySem.W.Frag) (A:Around):R2:=fun x y H Q=>∃ (a b:Addr) (xs ys:List V),x=.ref a∧y=.ref b∧SqL K H a xs∧SqL K H b ys∧xs.length≠ys.length∧A.units<cLine∧Q (.bl false) H
theorem Uu:OpR X (compareOp .Eq) (ziL X.K X.A):=by
 intro pins s σ H x y v u Q I rx ry h
 obtain⟨a,b,xs,ys,rfl,rfl,h1,h2,hl,hu,q⟩:=h
 cases rx;cases ry
 obtain⟨i1,r1,p1,_⟩:=I.list h1
 obtain⟨i2,r2,p2,_⟩:=I.list h2
 exact SeqAt.RcAt.lists_lengths p1.isList p2.isList (by simp;rw[← r1.length,← r2.length];exact hl) hu _ _ _ _ ⟨.bl _,H,I,rfl,q⟩
end
theorem Z9 {prog prog':Program}{w w':World}{es:List DictEntry}{kvs:List (Key×Value)}(h:Pairs (zm prog w) es kvs):Pairs (zm prog' w') es kvs:=by
 induction h with
 |nil=>exact .nil
 |cons h1 h2 _ ih=>exact .cons h1 h2 ih
theorem Z8 {prog:Program}{w:World}{es:List DictEntry}{kvs:List (Key×Value)}(h:Pairs (zm prog w) es kvs):∀ e∈es,∃ kv∈kvs,xY kv.1 e.key=true:=by
 induction h with
 |nil=>intro e he;cases he
 | @cons e kv es kvs h1 h2 _ ih =>
  intro e' he'
  rcases List.mem_cons.mp he' with z | z
  ·exact⟨kv,List.mem_cons_self ..,by rw[z];exact h1⟩
  ·obtain⟨kv',m,q⟩:=ih e' z
   exact⟨kv',List.mem_cons_of_mem _ m,q⟩
theorem wt {prog prog':Program}{w w':World}{h:Heap}{a:Addr}{kvs:List (Key×Value)}(hk:∀ p∈kvs,∃ i,p.1=Sum.inl i) (D:h.DictOf (zm prog w) a kvs):h.DictOf (zm prog' w') a kvs:=by
 obtain⟨o,es,ep,ho,ex,hd,ks,ps,nd⟩:=D
 refine⟨o,es,ep,ho,ex,hd,fun e he=>?_,Z9 ps,nd⟩
 obtain⟨k,h1,h2⟩:=ks e he
 obtain⟨kv,m,q⟩:=Z8 ps e (by simpa using he)
 obtain⟨i,hi⟩:=hk kv m
 have e1:k=kv.1:=(zm prog w).inj e.key k kv.1 h1 q
 refine⟨k,h1,?_⟩
 rw[h2,e1,hi]
 rfl
section
variable {X:Cx}
def EqP (X:Cx) (H:Hp) (x y:V) (b:Bool) (n:Nat):Prop:=∀ (pins:List (Addr×Obj)) (σ:St) (s:Shared),Inv X pins σ H s→∀ (A:Around) (u v:Value),A.units+n<cLine→RelV x u→RelV y v→SeqAt.EqAt A s u v b
theorem EqP.of {H:Hp}{x y:V}{b:Bool}{n:Nat}(h:EqD X.K H x y b n):EqP X H x y b n:=fun pins σ s I A u v hu r1 r2=>h.at I A u v hu r1 r2
theorem EqP.same {H:Hp}{a:Addr}{n:Nat}:EqP X H (.ref a) (.ref a) true n:=fun pins σ s I A u v hu rx ry=>by
 cases rx;cases ry
 exact SeqAt.EqAt.same _
theorem wm {pins:List (Addr×Obj)}{σ:St}{H:Hp}{s:Shared}{A:Around}{xs ys:List V}{i1 i2:List Value}{e:Nat→Bool}{n:Nat}(I:Inv X pins σ H s) (r1:Vals xs i1) (r2:Vals ys i2) (hu:A.units+n+2<cLine)
  (h:∀ (j:Nat) x y,xs[j]?=some x→ys[j]?=some y→EqP X H x y (e j) n):∀ (j:Nat) (h1:j<i1.toArray.size) (h2:j<i2.toArray.size),SeqAt.EqAt A.in1 s i1.toArray[j] i2.toArray[j] (e j):=fun j h1 h2=>by
 have g1:j<xs.length:=by rw[r1.length];simpa using h1
 have g2:j<ys.length:=by rw[r2.length];simpa using h2
 obtain⟨u1,e1,q1⟩:=r1.get (i:=j) (x:=xs[j]) (by simp[g1])
 obtain⟨u2,e2,q2⟩:=r2.get (i:=j) (x:=ys[j]) (by simp[g2])
 have f1:i1.toArray[j]=u1:=by
  obtain⟨_,z⟩:=List.getElem?_eq_some_iff.mp e1
  simpa using z
 have f2:i2.toArray[j]=u2:=by
  obtain⟨_,z⟩:=List.getElem?_eq_some_iff.mp e2
  simpa using z
 rw[f1,f2]
 exact(h j _ _ (by simp[g1]) (by simp[g2])) _ _ _ I A.in1 u1 u2 (by rw[yA];omega) q1 q2
theorem EqP.lst {H:Hp}{a b:Addr}{xs ys:List V}{n:Nat}(ha:SqL X.K H a xs) (hb:SqL X.K H b ys) (hl:xs.length=ys.length) (h:∀ (j:Nat) x y,xs[j]?=some x→ys[j]?=some y→EqP X H x y true n):EqP X H (.ref a) (.ref b) true (n+2):=fun pins σ s I A u v hu rx ry=>by
 by_cases hne:a=b
 ·subst hne;exact EqP.same _ _ _ I A u v hu rx ry
 ·cases rx;cases ry
  obtain⟨i1,r1,p1,_⟩:=I.list ha
  obtain⟨i2,r2,p2,_⟩:=I.list hb
  have l1:=r1.length
  have l2:=r2.length
  refine SeqAt.EqAt.of_refs hne ?_
  have q:=SeqAt.RcAt.lists (A:=A) (s:=s) (e:=fun _=>true) p1.isList p2.isList (by simp;omega) (by omega) (wm I r1 r2 (by omega) h)
  have e:((List.range i1.toArray.size).all fun _=>true)=true:=by simp
  rw[e] at q
  exact q
theorem EqP.tup {H:Hp}{a b:Addr}{xs ys:List V}{n:Nat}(ha:SqT X.K H a xs) (hb:SqT X.K H b ys) (hl:xs.length=ys.length) (h:∀ (j:Nat) x y,xs[j]?=some x→ys[j]?=some y→EqP X H x y true n):EqP X H (.ref a) (.ref b) true (n+2):=fun pins σ s I A u v hu rx ry=>by
 by_cases hne:a=b
 ·subst hne;exact EqP.same _ _ _ I A u v hu rx ry
 ·cases rx;cases ry
  obtain⟨i1,r1,p1,_⟩:=I.tuple ha
  obtain⟨i2,r2,p2,_⟩:=I.tuple hb
  have l1:=r1.length
  have l2:=r2.length
  refine SeqAt.EqAt.of_refs hne ?_
  have q:=SeqAt.RcAt.tuples (A:=A) (s:=s) (e:=fun _=>true) (show s.heap.IsTuple a i1.toArray from p1) (show s.heap.IsTuple b i2.toArray from p2) (by omega) (wm I r1 r2 (by omega) h)
  have z:i1.toArray.size=i2.toArray.size:=by simp;omega
  have e:((List.range i1.toArray.size).all fun _=>true)=true:=by simp
  rw[← z,Nat.min_self,beq_self_eq_true,Bool.and_true,e] at q
  exact q
theorem U5 {pins:List (Addr×Obj)}{σ:St}{H:Hp}{s:Shared}{A:Around}{n:Nat}(I:Inv X pins σ H s) (hu:A.units+n<cLine){kvb:List (Key×V)}{kb:List (Key×Value)}(rb:KV kvb kb) :
  ∀ {kva:List (Key×V)}{ka:List (Key×Value)},KV kva ka→(∀ p∈kva,∃ y,yw kvb p.1=some y∧EqP X H p.2 y true n)→PySem.W.KeqHits A s kb ka true
 |_,_,.nil,_=>.nil
 |(k,v)::r,(k',u)::r',.cons h t,hs=>by
  obtain⟨e1,e2⟩:=h
  cases e1
  obtain⟨y,hv,hE⟩:=hs (k,v) List.mem_cons_self
  have q:=rb.val k
  rw[hv] at q
  cases e:valueAt kb k with
  |none=>rw[e] at q;exact False.elim q
  |some y' =>
   rw[e] at q
   have he:=hE _ _ _ I A u y' hu e2 (show RelV y y' from q)
   have:=PySem.W.KeqHits.hit (k:=k) e he (U5 I hu rb t fun p hp=>hs p (List.mem_cons_of_mem _ hp))
   simpa using this
theorem KV.keysL {kvs:List (Key×V)}{vs:List (Key×Value)}(r:KV kvs vs) (h:∀ p∈kvs,∃ i,p.1=Sum.inl i):∀ p∈vs,∃ i,p.1=Sum.inl i:=by
 induction r with
 |nil=>intro p hp;cases hp
 | @cons x y xs ys h1 t ih =>
  intro p hp
  rcases List.mem_cons.mp hp with z | z
  ·obtain⟨i,hi⟩:=h x List.mem_cons_self
   exact⟨i,by rw[z,← h1.1];exact hi⟩
  ·exact ih (fun p hp=>h p (List.mem_cons_of_mem _ hp)) p z
theorem EqP.dct {H:Hp}{a b:Addr}{kva kvb:List (Key×V)}{n:Nat}(ha:H a=some (.dK kva)) (hb:H b=some (.dK kvb)) (hl:kva.length=kvb.length) (ia:∀ p∈kva,∃ i,p.1=Sum.inl i) (ib:∀ p∈kvb,∃ i,p.1=Sum.inl i)
  (h:∀ p∈kva,∃ y,yw kvb p.1=some y∧EqP X H p.2 y true n):EqP X H (.ref a) (.ref b) true (n+2):=fun pins σ s I A u v hu rx ry=>by
 by_cases hne:a=b
 ·subst hne;exact EqP.same _ _ _ I A u v hu rx ry
 ·cases rx;cases ry
  obtain⟨z1,d1,vs1,r1,o1⟩:=I.hok a _ ha
  obtain⟨z2,d2,vs2,r2,o2⟩:=I.hok b _ hb
  refine SeqAt.EqAt.of_refs hne fun prog w E Q hq=>?_
  have l1:=r1.length
  have l2:=r2.length
  have e:(vs1.length == vs2.length)=true:=by rw[← l1,← l2,hl];simp
  exact PySem.W.keq_eq d1 d2 (wt (r1.keysL ia) o1) (wt (r2.keysL ib) o2) (by omega) (fun _=>U5 I (by rw[yA];omega) r2 r1 h) (by rw[e];exact hq)
def zhd (X:Cx) (neg:Bool):R2:=fun x y H Q=>∃ (a b:Addr) (xs ys:List V) (n:Nat),x=.ref a∧y=.ref b∧((SqL X.K H a xs∧SqL X.K H b ys)∨(SqT X.K H a xs∧SqT X.K H b ys))∧xs.length=ys.length∧X.A.units+n+2<cLine ∧
 (∀ (j:Nat) x y,xs[j]?=some x→ys[j]?=some y→EqP X H x y true n)∧Q (.bl (!neg)) H
theorem Wo:OpR X (compareOp .Eq) (zhd X false):=by
 intro pins s σ H x y v u Q I rx ry h
 obtain⟨a,b,xs,ys,n,rfl,rfl,hq,hl,hu,hi,q⟩:=h
 cases rx;cases ry
 rcases hq with⟨h1,h2⟩ | ⟨h1,h2⟩
 ·obtain⟨i1,r1,p1,_⟩:=I.list h1
  obtain⟨i2,r2,p2,_⟩:=I.list h2
  refine SeqAt.eq_listAt (e:=fun _=>true) p1.isList p2.isList (by simp;rw[← r1.length,← r2.length,hl]) (by omega) (wm I r1 r2 hu hi) ⟨.bl true,H,I,?_,q⟩
  have e:((List.range i1.toArray.size).all fun _=>true)=true:=by simp
  rw[e]
  rfl
 ·obtain⟨i1,r1,p1,_⟩:=I.tuple h1
  obtain⟨i2,r2,p2,_⟩:=I.tuple h2
  have z:i1.toArray.size=i2.toArray.size:=by simp;rw[← r1.length,← r2.length,hl]
  refine SeqAt.eq_tupleAt (e:=fun _=>true) (show s.heap.IsTuple a i1.toArray from p1) (show s.heap.IsTuple b i2.toArray from p2) (by omega) (wm I r1 r2 hu hi) ⟨.bl true,H,I,?_,q⟩
  have e:((List.range i1.toArray.size).all fun _=>true)=true:=by simp
  rw[← z,Nat.min_self,beq_self_eq_true,Bool.and_true,e]
  rfl
theorem ve:OpR X (compareOp .NotEq) (zhd X true):=by
 intro pins s σ H x y v u Q I rx ry h
 obtain⟨a,b,xs,ys,n,rfl,rfl,hq,hl,hu,hi,q⟩:=h
 cases rx;cases ry
 rcases hq with⟨h1,h2⟩ | ⟨h1,h2⟩
 ·obtain⟨i1,r1,p1,_⟩:=I.list h1
  obtain⟨i2,r2,p2,_⟩:=I.list h2
  refine SeqAt.RcNeAt.lists (e:=fun _=>true) p1.isList p2.isList (by simp;rw[← r1.length,← r2.length,hl]) (by omega) (wm I r1 r2 hu hi) _ _ _ _ ⟨.bl false,H,I,?_,q⟩
  have e:((List.range i1.toArray.size).all fun _=>true)=true:=by simp
  rw[e]
  rfl
 ·obtain⟨i1,r1,p1,_⟩:=I.tuple h1
  obtain⟨i2,r2,p2,_⟩:=I.tuple h2
  have z:i1.toArray.size=i2.toArray.size:=by simp;rw[← r1.length,← r2.length,hl]
  refine SeqAt.RcNeAt.tuples (e:=fun _=>true) (show s.heap.IsTuple a i1.toArray from p1) (show s.heap.IsTuple b i2.toArray from p2) (by omega) (wm I r1 r2 hu hi) _ _ _ _ ⟨.bl false,H,I,?_,q⟩
  have e:((List.range i1.toArray.size).all fun _=>true)=true:=by simp
  rw[← z,Nat.min_self,beq_self_eq_true,Bool.and_true,e]
  rfl
end
structure Bx (p:Prop):Prop where
 of:p
theorem zU {X:Cx}{body:List Stmt}{q:TS→Prop}{t:TS}(h:Bx (PSs X body t)) (k:q t):∃ t,PSs X body t∧q t:=⟨t,h.of,k⟩
theorem XW {X:Cx}{e:Expr}{t:TT}(h:Bx (PW X e t)):Bx (PT X e t):=⟨h.of.pt⟩
section
variable {X:Cx}
theorem ze {i j pos}:Bx (PE X (.Constant (.int i) j pos) (tC (.int i))):=⟨yJ⟩
theorem xf {b j pos}:Bx (PE X (.Constant (.bool b) j pos) (tC (.bl b))):=⟨xW⟩
theorem xt {j pos}:Bx (PE X (.Constant .none j pos) (tC .non)):=⟨Uq⟩
variable {a b:Expr}{ta tb:TE}{pos:Pos}
theorem YZ {op:CmpOp}{t:TE}(h:Bx (PC X op a b t)) (h1:behindInMarks op b=false:=by first | exact nobehind _ (by decide) (by decide) | rfl):Bx (PE X (.Compare a [op] [b] pos) t):=⟨Us h.of h1⟩
theorem yS {op:CmpOp}{t:TE}(h:Bx (PC X op a b t)) (h1:behindInMarks op b=false:=by first | exact nobehind _ (by decide) (by decide) | rfl):Bx (PT X (.Compare a [op] [b] pos) (tB t)):=⟨Wf h.of h1⟩
theorem yB {e:Expr}{t:TE}(h:Bx (PE X e t)) (he:∀ whole,isTrue e X.env whole=(do let v ← whole;standAt e.pos;holding [v] (truthy v)):=by intro _;rfl):Bx (PT X e (tB t)):=⟨yG h.of he⟩
variable {a b:Expr}{ta tb:TE}{pos:Pos}
variable {tA tB':TT}{rest:List Expr}
theorem yf (ha:Bx (PT X a tA)):Bx (PW X (.BoolOp .And [a] pos) tA):=⟨WN ha.of⟩
theorem vZ (ha:Bx (PT X a tA)):Bx (PW X (.BoolOp .Or [a] pos) tA):=⟨wg ha.of⟩
theorem yj (ha:Bx (PT X a tA)) (hb:Bx (PW X (.BoolOp .And (b::rest) pos) tB')):Bx (PW X (.BoolOp .And (a::b::rest) pos) (zeI tA tB')):=⟨Ui ha.of hb.of⟩
theorem uV (ha:Bx (PT X a tA)) (hb:Bx (PW X (.BoolOp .Or (b::rest) pos) tB')):Bx (PW X (.BoolOp .Or (a::b::rest) pos) (tOr tA tB')):=⟨w4 ha.of hb.of⟩
theorem v0 (ha:Bx (PT X a tA)):Bx (PT X (.UnaryOp .Not a pos) (zeB tA)):=⟨yH ha.of⟩
theorem xr {op}{t:TE}(h:Bx (PE X a t)):Bx (PE X (.BoolOp op [a] pos) t):=⟨Z4 h.of⟩
theorem v4 (ha:Bx (PE X a ta)) (hb:Bx (PE X (.BoolOp .And (b::rest) pos) tb)):Bx (PE X (.BoolOp .And (a::b::rest) pos) (tAndV ta tb)):=⟨uh ha.of hb.of⟩
theorem uZ (ha:Bx (PE X a ta)) (hb:Bx (PE X (.BoolOp .Or (b::rest) pos) tb)):Bx (PE X (.BoolOp .Or (a::b::rest) pos) (zah ta tb)):=⟨zb6 ha.of hb.of⟩
end
section
variable {X:Cx}{st:Stmt}{rest:List Stmt}{t u:TS}{e:Expr}{te:TE}{pos:Pos}
theorem zt  : Bx (PSs X [] VZ):=⟨yn⟩
theorem w_pss_cons (h1:Bx (PS X st t)) (h2:Bx (PSs X rest u)):Bx (PSs X (st::rest) (zez t u)):=⟨zw h1.of h2.of⟩
theorem zf (h1:Bx (PS X st t)):Bx (PSs X [st] t):=⟨zE h1.of⟩
theorem zC (he:Bx (PE X e te)) (hs:swapsWith e none pos.line X.env=pure false:=by rfl):Bx (PS X (.Expr e pos) (V2 te)):=⟨vA he.of hs⟩
theorem zj (he:Bx (PE X e te)):Bx (PS X (.Return (some e) pos) (zeA te)):=⟨yq he.of⟩
theorem zH {c:Expr}{a b:List Stmt}{tc:TT}(hc:Bx (PT X c tc)) (ha:Bx (PSs X a t)) (hb:Bx (PSs X b u)):Bx (PS X (.If c a b pos) (zeD tc t u)):=⟨wF hc.of ha.of hb.of⟩
theorem uv  : Bx (PS X st X6):=⟨wE⟩
end
section
variable {X:Cx}{pos:Pos}
theorem zk {i:Nat}{x:Str}(hN:X.N.Nodup) (hi:X.N[i]?=some x) (hx:Loc X.env.scope x) (hf:X.fn x=true∨X.env.scope.names.lookup x=some .local:=by first | exact .inl rfl | exact .inr rfl | assumption):Bx (PG X (.Name x pos) (vM i)):=⟨xk hN hi hx hf⟩
theorem yv  : Bx (PGs X [] gNil):=⟨Z1⟩
theorem zG {e:Expr}{es:List Expr}{t:TG}{u:TGs}(h1:Bx (PG X e t)) (h2:Bx (PGs X es u)) (hs:(assignEach (e::es) X.env).map (·.2)=assign e X.env::(assignEach es X.env).map (·.2):=by rfl):Bx (PGs X (e::es) (U6 t u)):=⟨wG h1.of h2.of hs⟩
theorem yU {es:List Expr}{k:Nat}{t:TGs}{n:Nat}(hc:X.calm=true) (h:Bx (PGs X es t)) (hn:(assignEach es X.env).length=n:=by rfl) (hst:(assignEach es X.env).findIdx? (·.1)=none:=by rfl):Bx (PG X (.Tuple es k pos) (zhV X.K n t)):=⟨Wg hc h.of hn hst⟩
theorem w_ps_set {i:Nat}{x:Str}{e:Expr}{te:TE}{pos':Pos}(hN:X.N.Nodup) (hi:X.N[i]?=some x) (hx:Loc X.env.scope x) (he:Bx (PE X e te)) (hs:swapsWith e (some (.Name x pos')) pos.line X.env=pure false:=by rfl) (hf:X.fn x=true∨X.env.scope.names.lookup x=some .local:=by first | exact .inl rfl | exact .inr rfl | assumption):Bx (PS X (.Assign [.Name x pos'] e pos) (zaj te (vM i))):=⟨w6 hN hi hx he.of hs hf⟩
theorem YX {i:Nat}{x:Str}{e:Expr}{te:TE}{op:Operator}{ti:TIp}{pos':Pos}(hN:X.N.Nodup) (hi:X.N[i]?=some x) (hx:Loc X.env.scope x) (he:Bx (PE X e te)) (ho:PIp X op ti) (hf:X.fn x=true∨X.env.scope.names.lookup x=some .local:=by first | exact .inl rfl | exact .inr rfl | assumption):Bx (PS X (.AugAssign (.Name x pos') op e pos) (zeH i te ti)):=⟨Uj hN hi hx he.of ho hf⟩
theorem z5 {c:Expr}{body:List Stmt}{tc:TT}{tb:TS}(hp:PassesOwn (model X.prog X.w) X.A X.env X.xe) (hc:Bx (PT X c tc)) (hb:Bx (PSs X body tb)):Bx (PS X (.While c body [] pos) (X1 tc tb)):=⟨Xc hp hc.of hb.of⟩
end
section
variable {X:Cx}{tg:Expr}
theorem zz {l:Expr}{tl:TE}(hl:Bx (PE X l tl)):Bx (PI X tg l (U4 X.K tl)):=⟨xM hl.of⟩
theorem YY {l:Expr}{tl:TE}(hl:Bx (PE X l tl)):Bx (PI X tg l (zhU X.K tl)):=⟨Uk hl.of⟩
theorem z6 {a:Expr}{ta:TA}{p pos:Pos}(hg:Gl X "range") (hm:X.mg "range" = none) (ha:Bx (PA X [a] ta)) (hs:starEach [a] X.env=[(false,eval a X.env)]:=by rfl):Bx (PI X tg (.Call (.Name "range" p) [a] [] pos) (U3 ta)):=⟨ZZ hg hm ha.of hs⟩
theorem zM {iter:Expr}{body:List Stmt}{wi:TI}{g:TG}{tb:TS}{pos:Pos}(hp:PassesOwn (model X.prog X.w) X.A X.env X.xe) (hc:X.calm=true) (hi:Bx (PI X tg iter wi)) (hg:Bx (PG X tg g)) (hb:Bx (PSs X body tb)) (hs:∀ x,foldedSetIterable iter X.env x=pure x:=by intro _;rfl):Bx (PS X (.For tg iter body [] pos) (zeE wi g tb)):=⟨w8 hp hc hi.of hg.of hb.of hs⟩
end
section
variable {X:Cx}{a b c:Expr}{ta tb tc:TE}{pos:Pos}
theorem zl {op:Operator}{r:R2}(ho:OpR X (binaryOp op) r) (ha:Bx (PE X a ta)) (hb:Bx (PE X b tb)):Bx (PE X (.BinOp a op b pos) (tOp r ta tb)):=⟨zb7 ho ha.of hb.of⟩
theorem uX {op:UnaryOp}{r:V→Hp→VK→Prop}(ho:UnR X (unaryOp op) r) (ha:Bx (PE X a ta)):Bx (PE X (.UnaryOp op a pos) (tUn r ta)):=⟨Um ho ha.of⟩
theorem zS {op:CmpOp}{r:R2}(ho:OpR X (compareOp op) r) (ha:Bx (PE X a ta)) (hb:Bx (PE X b tb)) (hm:behindInMarks op b=false):Bx (PE X (.Compare a [op] [b] pos) (tOp r ta tb)):=⟨wH ho ha.of hb.of hm⟩
theorem zn {op:CmpOp}{r:R2}(ho:OpR X (compareOp op) r) (ha:Bx (PE X a ta)) (hb:Bx (PE X b tb)) (hm:behindInMarks op b=false):Bx (PT X (.Compare a [op] [b] pos) (VW (tOp r ta tb))):=⟨xj ho ha.of hb.of hm⟩
theorem xZ (ha:Bx (PE X a ta)) (he:∀ whole,isTrue a X.env whole=(do let v ← whole;standAt a.pos;holding [v] (truthy v))):Bx (PT X a (fun σ H Q=>ta σ H fun x H'=>∃ k,zes X.K x H' k∧Q k H')):=⟨Xb ha.of he⟩
end
section
variable {X:Cx}{o e value:Expr}{f:Str}{pos pos' tpos:Pos}{ta tv:TE}
theorem yc (he:Bx (PE X e ta)) (hb:attributeBase e f X.env (eval e X.env)=eval e X.env):Bx (PE X (.Attribute e f pos) (zeF X.K ta f)):=⟨Ur he.of hb⟩
theorem v3 (ha:Bx (PE X o ta)) (hv:Bx (PE X value tv)) (hs:swapsWith value (some (.Attribute o f pos')) pos.line X.env=pure false):Bx (PS X (.Assign [.Attribute o f pos'] value pos) (zhb X.K ta tv f)):=⟨ue ha.of hv.of hs⟩
end
section
variable {X:Cx}{e:Expr}{es:List Expr}{te:TE}{t:TA}{pos:Pos}
theorem zd  : Bx (PA X [] zai):=⟨zK⟩
theorem zo (ha:Bx (PE X e te)) (hr:Bx (PA X es t)) (hs:starEach (e::es) X.env=(false,eval e X.env)::starEach es X.env:=by rfl):Bx (PA X (e::es) (xq te t)):=⟨yx ha.of hr.of hs⟩
theorem zV {x1}(h:Bx (PA X es t)):Bx (PE X (.Tuple es x1 pos) (zew t)):=⟨Uo h.of⟩
theorem zD (h:Bx (PA X es t)):Bx (PE X (.List es pos) (zeC t)):=⟨Wh h.of⟩
end
section
variable {X:Cx}{CX:CXT}{k:Nat}{f C:Addr}{fd:FuncData}{ps:List Str}{sp:Sp}{dvs:List V}{ds:List Value}{E:XK}{x m:Str}{p pos apos:Pos}{e o:Expr}{es:List Expr}{ta:TE}{t:TA}
theorem VN {pl:Sem Bool}(he:Bx (PE X o ta)) (c:Cls X.K C) (hm:Meth X.K C m f) (F:FnOk X.prog X.w X.K X.mg X.base CX k f fd ps sp) (hr:Room k X.A) (hb:Binds X.K fd ps ds) (hd:Vals dvs ds) (hx:xV CX X E) (ha:Bx (PA X (e::es) t)) (hst:starEach (e::es) X.env=(false,eval e X.env)::starEach es X.env:=by rfl) (hpl:(backTo pos (starEach es X.env)).any (·.1)=false:=by rfl) (ht:eval (.Call (.Attribute o m apos) (e::es) [] pos) X.env=(do
   let ov ← eval o X.env
   standAt apos.atName
   let (f,first) ← holding [ov] (getMethod ov m pl)
   callWith pos f first (backTo pos (starEach (e::es) X.env)) (backToKw pos (keywordEach [] X.env))):=by rfl):Bx (PE X (.Call (.Attribute o m apos) (e::es) [] pos) (V1 C m sp dvs E ta t)):=⟨WZ he.of c hm F hr hb hd hx ha.of hst hpl ht⟩
end
section
variable {X:Cx}{x:Str}{p pos:Pos}{e:Expr}{es:List Expr}{t:TA}{id T:String}{r:List V→Hp→VK→Prop}
theorem zq (hc:xb X (.builtin id) r) (hg:Gl X x) (hm:X.mg x=none) (hv:bootBuiltins x=some (.builtin id)) (ha:Bx (PA X (e::es) t)) (hn:x ≠ "__name__" := by decide) (hdb:(x == ("__debug__" : Str))=false:=by decide) (he:starEach (e::es) X.env=(false,eval e X.env)::starEach es X.env:=by rfl) (hpl:(backTo pos (starEach es X.env)).any (·.1)=false:=by rfl):Bx (PE X (.Call (.Name x p) (e::es) [] pos) (tCB r t)):=⟨zW hc hg hm hv ha.of hn hdb he hpl⟩
theorem zP (hc:xb X (.type T) r) (hg:Gl X x) (hm:X.mg x=none) (hv:bootBuiltins x=some (.type T)) (ha:Bx (PA X (e::es) t)) (hn:x ≠ "__name__" := by decide) (hdb:(x == ("__debug__" : Str))=false:=by decide) (he:starEach (e::es) X.env=(false,eval e X.env)::starEach es X.env:=by rfl) (hpl:(backTo pos (starEach es X.env)).any (·.1)=false:=by rfl):Bx (PE X (.Call (.Name x p) (e::es) [] pos) (tCB r t)):=⟨vb hc hg hm hv ha.of hn hdb he hpl⟩
end
section
variable {X:Cx}{e:Expr}{te:TE}{lo hi:Option Expr}{tl th:TO}{pos p2:Pos}
theorem wQ  : Bx (PO X none Zj):=⟨WW⟩
theorem yT (h:Bx (PE X e te)):Bx (PO X (some e) (VY te)):=⟨po_some h.of⟩
theorem xc {r:V→Option Int→Option Int→Hp→VK→Prop}(hr:SlR X r) (he:Bx (PE X e te)) (hl:Bx (PO X lo tl)) (hu:Bx (PO X hi th)):Bx (PE X (.Subscript e (.Slice lo hi none p2) pos) (tSl r te tl th)):=⟨Xf hr he.of hl.of hu.of⟩
end
section
variable {X:Cx}{a b:Expr}{ta tb:TE}{pos:Pos}
theorem zJ {r:R2}(hr:IxR X r) (ha:Bx (PE X a ta)) (hb:Bx (PE X b tb)) (hs:YU b):Bx (PE X (.Subscript a b pos) (tOp r ta tb)):=⟨vC hr ha.of hb.of hs⟩
variable {o e:Expr}{es:List Expr}{to:TE}{t:TA}{name:Str}{apos cpos:Pos}{T id:String}{r:V→List V→Hp→VK→Prop}
theorem yk (pa:PlainAttrs T) (slot:Slot T name id) (hty:typeOf (.builtin id)=pure (.type "method_descriptor")) (hm:MtR X id r) (ho:Bx (PE X o to)) (ha:Bx (PA X (e::es) t)) (hbase:attributeBase o name X.env (eval o X.env)=eval o X.env:=by rfl) (hfew:((backTo cpos (starEach (e::es) X.env)).all (fun x=>!x.1)&&(backToKw cpos (keywordEach [] X.env)).all (fun x=>x.1.isSome)
   && decide ((e::es).length+([]:List Keyword).length+(if ([]:List Keyword).isEmpty then 0 else 1)<30))=true:=by rfl) (hline:(apos.endLine == cpos.line)=true:=by rfl) (hs:starEach (e::es) X.env=(false,eval e X.env)::starEach es X.env:=by rfl) (hplain:(backTo cpos (starEach es X.env)).any (·.1)=false:=by rfl):Bx (PE X (.Call (.Attribute o name apos) (e::es) [] cpos) (tBM X.K T r to t)):=⟨Vc pa slot hty hm ho.of ha.of hbase hfew hline hs hplain⟩
end
section
variable {X:Cx}{o i e value:Expr}{pos pos' tpos:Pos}{td ty tv:TE}
theorem zR (hu:X.A.units+1<cLine) (ho:Bx (PE X o td)) (hi:Bx (PE X i ty)) (hs:zet i):Bx (PE X (.Subscript o i pos) (V6 td ty)):=⟨vD hu ho.of hi.of hs⟩
theorem v5 (hu:X.A.units+1<cLine) (hi:Bx (PE X i ty)) (ho:Bx (PE X o td)):Bx (PC X .In i o (zeG ty td)):=⟨Wj hu hi.of ho.of⟩
theorem ym (hu:X.A.units+1<cLine) (hi:Bx (PE X i ty)) (ho:Bx (PE X o td)):Bx (PC X .NotIn i o (Zk ty td)):=⟨Z7 hu hi.of ho.of⟩
theorem xC (hu:X.A.units+1<cLine) (ho:Bx (PE X o td)) (hi:Bx (PE X i ty)) (hv:Bx (PE X value tv)) (hs:swapsWith value (some (.Subscript o i pos')) pos.line X.env=pure false):Bx (PS X (.Assign [.Subscript o i pos'] value pos) (Ub td ty tv)):=⟨vB hu ho.of hi.of hv.of hs⟩
end
section
variable {X:Cx}{pos:Pos}
theorem yC  : Bx (PE X (.Dict [] [] pos) X8):=⟨ug⟩
theorem wa  : Bx (PE X (.Dict [] [] pos) X7):=⟨uf⟩
end
section
theorem wP {X:Cx}{pos:Pos}:Bx (PPs X pos [] [] []):=⟨WV⟩
theorem x8 {X:Cx}{pos:Pos}{k v:Expr}{ks:List (Option Expr)}{vs:List Expr}{tk tv:TE}{trs:List (TE×TE)}(hk:Bx (PE X k tk)) (hv:Bx (PE X v tv)) (hr:Bx (PPs X pos ks vs trs)):Bx (PPs X pos (some k::ks) (v::vs) ((tk,tv)::trs)):=⟨Xd hk.of hv.of hr.of⟩
theorem wS {X:Cx}{pos:Pos}{keys:List (Option Expr)}{values:List Expr}{trs:List (TE×TE)}(h:Bx (PPs X pos keys values trs)) (hall:keys.all (·.isSome)=true) (hl:keys.length=values.length) (h0:keys≠[]) (h15:keys.length≤15):Bx (PE X (.Dict keys values pos) (V3 trs)):=⟨W6 h.of hall hl h0 h15⟩
end
section
variable {X:Cx}{o e f:Expr}{apos cpos:Pos}{td ty tx:TE}
theorem wb (hu:X.A.units+1<cLine) (ho:Bx (PE X o td)) (he:Bx (PE X e ty)) (m:M1 X o "get" apos e cpos):Bx (PE X (.Call (.Attribute o "get" apos) [e] [] cpos) (X9 td ty)):=⟨Xh hu ho.of he.of m⟩
end
section
variable {X:Cx}
theorem zh (i:Nat){x:Str}{pos:Pos}(hN:X.N[i]?=some x:=by rfl) (hv:Vis X.env.scope x:=by first | exact Or.inl rfl | exact Or.inr (Or.inl rfl) | exact Or.inr (Or.inr rfl)) (hd:(x == ("__debug__" : Str))=false:=by decide) (hcd:(x == ("__classdict__" : Str))=false:=by decide):Bx (PE X (.Name x pos) (zbH i)):=⟨pv i hN hv hd hcd⟩
end
section
theorem wO {X:Cx}{st:Stmt}{rest:List Stmt}{t u:TS}(h1:Bx (PS X st t)) (h2:Bx (PSs X rest u)):Bx (PSs X (st::rest) (VX t u)):=⟨WR h1.of h2.of⟩
theorem yu {X:Cx}:Bx (PTs X [] zag):=⟨WQ⟩
theorem yt {X:Cx}{c:Expr}{t:TT}(h:Bx (PT X c t)):Bx (PTs X [c] t):=⟨WO h.of⟩
end
section
variable {X:Cx}{tg iter elt:Expr}{ifs:List Expr}{scope:Scope}{pos:Pos}{N':List Str}{t:Nat}{caps:List Nat}{g:Blk→TG}{tc:Blk→TT}{te:Blk→TE}{wi:TI}
theorem yh (hc:X.calm=true) (S:CompOk X scope N' t caps) (hi:Bx (PI X tg iter wi)) (hg:∀ b,Bx (PG (cxB X scope N' b) tg (g b))) (ht:∀ b,Bx (PTs (cxB X scope N' b) ifs (tc b))) (he:∀ b,Bx (PE (cxB X scope N' b) elt (te b))) (hs:∀ x,foldedSetIterable iter X.env x=pure x:=by intro _;rfl):Bx (PE X (.ListComp elt [⟨tg,iter,ifs,0⟩] scope pos) (Y6 wi g tc te t caps)):=⟨Va hc S hi.of (fun x0=>(hg x0).of) (fun x0=>(ht x0).of) (fun x0=>(he x0).of) hs⟩
theorem yb {i:Nat}{y:Str}{py spos:Pos}(hc:X.calm=true) (hN:X.N.Nodup) (hiy:X.N[i]?=some y) (hy:Loc X.env.scope y) (S:CompOk X scope N' t caps) (hi:Bx (PI X tg iter wi)) (hg:∀ b,Bx (PG (cxB X scope N' b) tg (g b))) (ht:∀ b,Bx (PTs (cxB X scope N' b) ifs (tc b))) (he:∀ b,Bx (PE (cxB X scope N' b) elt (te b))) (hsw:swapsWith (.ListComp elt [⟨tg,iter,ifs,0⟩] scope pos) (some (.Name y py)) spos.line X.env=pure true:=by rfl) (hs:∀ x,foldedSetIterable iter X.env x=pure x:=by intro _;rfl) (hf:X.fn y=true∨X.env.scope.names.lookup y=some .local:=by first | exact .inl rfl | exact .inr rfl | assumption):Bx (PS X (.Assign [.Name y py] (.ListComp elt [⟨tg,iter,ifs,0⟩] scope pos) spos) (zaj (Y6 wi g tc te t caps) (vM i))):=⟨uI hc hN hiy hy S hi.of (fun x0=>(hg x0).of) (fun x0=>(ht x0).of) (fun x0=>(he x0).of) hsw hs hf⟩
end
section
variable {X:Cx}{k:Nat}{f C:Addr}{fd:FuncData}{ps:List Str}{sp:Sp}{x m:Str}{p pos apos:Pos}{e o:Expr}{es:List Expr}{ta:TE}{t:TA}
theorem zp (c:Callee X.prog X.w X.K X.mg X.base x f fd ps k sp) (hr:Room k X.A) (ha:Bx (PA X (e::es) t)) (hg:Gl X x:=by rfl) (hdb:(x == ("__debug__" : Str))=false:=by decide) (he:starEach (e::es) X.env=(false,eval e X.env)::starEach es X.env:=by rfl) (hpl:(backTo pos (starEach es X.env)).any (·.1)=false:=by rfl):Bx (PE X (.Call (.Name x p) (e::es) [] pos) (WH sp [] E0 t)):=⟨Wi c hr ha.of hg hdb he hpl⟩
theorem u4 (c:Maker X.prog X.w X.K X.mg X.base x C f fd ps k sp) (hr:Room (k+1) X.A) (ha:Bx (PA X (e::es) t)) (hg:Gl X x:=by rfl) (hdb:(x == ("__debug__" : Str))=false:=by decide) (he:starEach (e::es) X.env=(false,eval e X.env)::starEach es X.env:=by rfl) (hpl:(backTo pos (starEach es X.env)).any (·.1)=false:=by rfl):Bx (PE X (.Call (.Name x p) (e::es) [] pos) (WF C sp [] E0 t)):=⟨ziN c hr ha.of hg hdb he hpl⟩
theorem yg {pl:Sem Bool}(he:Bx (PE X o ta)) (ha:Bx (PA X (e::es) t)) (hst:starEach (e::es) X.env=(false,eval e X.env)::starEach es X.env:=by rfl) (hpl:(backTo pos (starEach es X.env)).any (·.1)=false:=by rfl) (ht:eval (.Call (.Attribute o m apos) (e::es) [] pos) X.env=(do
   let ov ← eval o X.env
   standAt apos.atName
   let (f,first) ← holding [ov] (getMethod ov m pl)
   callWith pos f first (backTo pos (starEach (e::es) X.env)) (backToKw pos (keywordEach [] X.env))):=by rfl):Bx (PE X (.Call (.Attribute o m apos) (e::es) [] pos) (v9 X m ta t)):=⟨Xg he.of ha.of hst hpl ht⟩
theorem zO {pl:Sem Bool}(he:Bx (PE X o ta)) (ht:eval (.Call (.Attribute o m apos) [] [] pos) X.env=(do
   let ov ← eval o X.env
   standAt apos.atName
   let (f,first) ← holding [ov] (getMethod ov m pl)
   callWith pos f first (backTo pos (starEach [] X.env)) (backToKw pos (keywordEach [] X.env))):=by rfl):Bx (PE X (.Call (.Attribute o m apos) [] [] pos) (v9 X m ta zai)):=⟨Z5 he.of ht⟩
end
section
theorem wx {X:Cx}{x:Str}{n:String}{pos:Pos}(hm:X.mg x=none) (hv:bootBuiltins x=some (.type n)) (hg:Gl X x:=by rfl) (hn:x ≠ "__name__" := by decide) (hd:(x == ("__debug__" : Str))=false:=by decide):Bx (PE X (.Name x pos) (tC (.ty n))):=⟨wj hm hv hg hn hd⟩
end
section
variable {X:Cx}{es:List Expr}{t:TA}{te:TE}
theorem zI {c j pos}(ha:Bx (PE X (.Constant c j pos) te)) (hr:Bx (PA X es t)):Bx (PA X (.Constant c j pos::es) (xq te t)):=⟨ziQ ha.of hr.of⟩
theorem XX {xs c pos}(ha:Bx (PE X (.Tuple xs c pos) te)) (hr:Bx (PA X es t)):Bx (PA X (.Tuple xs c pos::es) (xq te t)):=⟨ziO ha.of hr.of⟩
theorem zF {f xs ks pos}(ha:Bx (PE X (.Call f xs ks pos) te)) (hr:Bx (PA X es t)):Bx (PA X (.Call f xs ks pos::es) (xq te t)):=⟨ziP ha.of hr.of⟩
theorem wc {l o r pos}(ha:Bx (PE X (.BinOp l o r pos) te)) (hr:Bx (PA X es t)):Bx (PA X (.BinOp l o r pos::es) (xq te t)):=⟨ziR ha.of hr.of⟩
theorem zg {x pos}(ha:Bx (PE X (.Name x pos) te)) (hr:Bx (PA X es t)):Bx (PA X (.Name x pos::es) (xq te t)):=⟨xo ha.of hr.of⟩
end
section
variable {X:Cx}{o e:Expr}{apos cpos:Pos}{td ty:TE}
theorem wR (ho:Bx (PE X o td)) (he:Bx (PE X e ty)) (m:M1 X o "update" apos e cpos):Bx (PE X (.Call (.Attribute o "update" apos) [e] [] cpos) (V4 td ty)):=⟨W2 ho.of he.of m⟩
end
section
variable {X:Cx}{o:Expr}{to:TE}{apos cpos:Pos}
theorem u6 (ho:Bx (PE X o to)) (hbase:attributeBase o "clear" X.env (eval o X.env)=eval o X.env:=by rfl) (hline:(apos.endLine == cpos.line)=true:=by rfl):Bx (PE X (.Call (.Attribute o "clear" apos) [] [] cpos) (V7 to)):=⟨W7 ho.of hbase hline⟩
end
def Th (G:Hp) (Q:Hp→Prop) (H:Hp):Prop:=Q H∨∃ (d:Addr) (od:Obj) (kvs:List (Key×V)),(∀ o u,G d≠some (.frz o u))∧H d=some (.frz od (.dK kvs))∧Q (upd H d (.dK kvs))
def zey (G:Hp) (t:TE):TE:=fun σ H Q=>t σ H fun v=>Th G (Q v)
def zex (G:Hp) (t:TS):TS:=fun D σ H=>t ⟨fun σ=>Th G (D.nx σ),fun v=>Th G (D.rt v),fun σ=>Th G (D.bk σ),fun σ=>Th G (D.ct σ)⟩ σ H
section
variable {X:Cx}{pins:List (Addr×Obj)}{σ:St}{H G:Hp}{s:Shared}{d:Addr}{od:Obj}{kvs:List (Key×V)}
theorem Th.inv {Q:Hp→Prop}(I:Inv X pins σ H s) (h:Th X.H₀ Q H):∃ H',Inv X pins σ H' s∧Q H':=by
 rcases h with h | ⟨d,od,kvs,S,g,h⟩
 ·exact⟨_,I,h⟩
 ·exact⟨_,I.thaw S g,h⟩
theorem WX {e:Expr}{t:TE}(h:PE X e t):PE X e (zey X.H₀ t):=by
 intro pins s σ H Q I q
 refine thn (h pins s σ H _ I q) fun u s' hq0=>?_
 obtain⟨v,H',I',r,q'⟩:=hq0
 obtain⟨H2,I2,q2⟩:=Th.inv I' q'
 exact⟨v,H2,I2,r,q2⟩
theorem WS {st:Stmt}{t:TS}(h:PS X st t):PS X st (zex X.H₀ t):=by
 intro pins s σ H D I q
 refine thn (h pins s σ H _ I q) fun f s' q'=>?_
 cases f with
 |next=>obtain⟨σ',H',I',q'⟩:=q';obtain⟨H2,I2,q2⟩:=Th.inv I' q';exact⟨_,_,I2,q2⟩
 |cont=>obtain⟨σ',H',I',q'⟩:=q';obtain⟨H2,I2,q2⟩:=Th.inv I' q';exact⟨_,_,I2,q2⟩
 |brk=>obtain⟨σ',H',I',q'⟩:=q';obtain⟨H2,I2,q2⟩:=Th.inv I' q';exact⟨_,_,I2,q2⟩
 |ret v=>obtain⟨x,σ',H',I',r,q'⟩:=q';obtain⟨H2,I2,q2⟩:=Th.inv I' q';exact⟨_,_,_,I2,r,q2⟩
theorem Ym {P:Program}{w:World}{k:Key}{u:Value}(h:(zm P w).is k u=true):RelV (kV k) u:=by
 rw[uK] at h
 cases k with
 |inl i=>cases u<;>simp[xY,Value.isInt] at h<;>(subst h;exact⟨_,rfl⟩)
 |inr x=>cases u<;>simp[xY,Value.isStrOf] at h<;>(subst h;exact⟨_,rfl⟩)
theorem yP:entryFor table "dict_itemiterator.__iter__" = some Builtin.«dict_keyiterator.__iter__» :=
 entryFor_alias (id' := "dict_keyiterator.__iter__") (by kernel_rfl) rfl (by decide +kernel) (by kernel_rfl)
theorem xL {prog:Program}{w:World}{A:Around}{E:Value→Shared→Prop}{s:Shared}{it d:Addr}{i n ep:Nat}{ok ov:Value}{Q:Value→Shared→Prop}(hit:IsItemIter s.heap it d i n ep ok ov) (h:Q (.ref it) s):wpAny (model prog w) A (pyIter (.ref it)) Q E s:=by
 have ti:s.TypeIs (.ref it) "dict_itemiterator" := ⟨_,hit,rfl⟩
 refine wpAny_pyIter_slot ti F.slot_dict_itemiterator_iter (wpAny_call_entry F.slot_dict_itemiterator_iter ti yP ?_ (F.args_dict_itemiterator_iter_1 _))
 show wpAny _ _ (ret (.ref it)) _ _ s
 exact wpAny_pure ⟨_,rfl, "dict_itemiterator",_,ti,F.slot_dict_itemiterator_next.lookup,h⟩
abbrev YL:=Key×V→V→Hp→Hp→Prop
def yK:YL:=fun kv x H H'=>H'=H∧x=kV kv.1
def yI:YL:=fun kv x H H'=>∃ p,H p=none∧x=.ref p∧H'=upd H p (.tup [kV kv.1,kv.2])
noncomputable def Itd (yl:YL) (d:Addr) (od:Obj) (kvs:List (Key×V)):It :=
 ⟨fun i H=>H d=some (.frz od (.dK kvs))∧i<kvs.length,fun i H x H'=>∃ kv,kvs[i]?=some kv∧yl kv x H H',fun i H=>H d=some (.frz od (.dK kvs))∧kvs.length≤i⟩
theorem vx {P:Program}{w:World}{K:PySem.W.Frag}{es:List Expr}{n:Nat}{tp:Pos}{it d:Addr}{od:Obj}{kvs:List (Key×V)}{vs:List (Key×Value)}{ep:Nat}(rel:KV kvs vs)
  (da:∀ h:Heap,h.get? d=some od→Heap.DictAt (zm P w) h d vs ep):Turn P w K (.Tuple es n tp) (Itd yI d od kvs) [it] it (fun i h=>∃ ok ov,IsItemIter h it d i vs.length ep ok ov) where
 mem:=by simp
 obj:=fun i h ⟨ok,ov,st⟩ b hb=>by
  rw[List.mem_singleton.mp hb]
  exact⟨_,st,fun v z=>by
   have z':Data.fields _=Data.cell v:=z
   cases z'⟩
 keep:=fun i h h' ⟨ok,ov,st⟩ k=>⟨ok,ov,k it (by simp) _ st⟩
 item:=by
  intro X hP hw hK hc i pins s σ H E I hf st hg
  subst hP hw hK
  obtain⟨ok,ov,st⟩:=st
  have fi:=hf it (by simp)
  have d3:=(I.hok d _ hg.1).1
  have hx:kvs[i]?=some (kvs[i]'hg.2):=List.getElem?_eq_getElem hg.2
  obtain⟨u,hu,ru⟩:=rel.getAt hx
  refine wpAny_pyNext_items_item st (da _ d3) hu fun key h1 hkey O1 T1 z1 kk=>?_
  refine⟨_,rfl,wpAny_letOwnedTupleGo_items (s:={ s with heap:=h1 }) O1 fun h2 E2 sb=>?_⟩
  have te:s.heap.objs.size≠it:=(Nat.ne_of_lt (Heap.lt_size st)).symm
  have T2:=sb.extBut _ _ te T1
  have k2:∀ c o,c∉[it]→s.heap.get? c=some o→h2.get? c=some o:=fun c o hc q=>by
   have hc:c≠it:=by simpa using hc
   exact sb.extBut c o hc (kk c o hc q)
  have hn:H s.heap.objs.size=none:=I.fresh
  refine⟨.ref s.heap.objs.size,upd H s.heap.objs.size (.tup [kV (kvs[i]'hg.2).1,(kvs[i]'hg.2).2]),I.turnedLaid (t':=s.toks) (ch:=[it]) hf k2 (Nat.le_refl _) ⟨by show 2≤sizeLine;decide,[key,u],.cons (Ym hkey) (.cons ru .nil),⟨_,T2,rfl,_,rfl⟩⟩,rfl,
   ⟨_,hx,_,hn,rfl,rfl⟩,⟨_,_,E2⟩,fun c hc=>?_⟩
  rw[List.mem_singleton.mp hc,upd_ne te.symm]
  exact fi.1
 done:=by
  intro X hP hw hK hc i pins s σ H E I hf st hg
  subst hP hw hK
  obtain⟨ok,ov,st⟩:=st
  obtain⟨f0,f1,f2,f3,f4,f5⟩:=hf it (by simp)
  have d3:=(I.hok d _ hg.1).1
  have lv:=rel.length
  exact wpAny_pyNext_items_end (I.ok.hd hc) st (da _ d3) (List.getElem?_eq_none (by have:=hg.2;omega)) fun h' kk=>⟨rfl,I.turned (t':=s.toks) (fun b o hb q=>kk b o hb q) f0 f1 f3 f4 f5⟩
 self:=fun _ _ _ _ _ ⟨_,_,st⟩ h=>xL st h
theorem uC {P:Program}{w:World}{K:PySem.W.Frag}{tg:Expr}{it d:Addr}{od:Obj}{kvs:List (Key×V)}{vs:List (Key×Value)}{ep:Nat}(rel:KV kvs vs)
  (da:∀ h:Heap,h.get? d=some od→Heap.DictAt (zm P w) h d vs ep):Turn P w K tg (Itd yK d od kvs) [it] it (fun i h=>h.IsKeyIter it d i vs.length ep) where
 mem:=by simp
 obj:=fun i h ⟨o,o1,o2,o3⟩ b hb=>by
  rw[List.mem_singleton.mp hb]
  exact⟨_,o1,fun v z=>by rw[o3] at z;cases z⟩
 keep:=fun i h h' st k=>st.at fun o q=>k it (by simp) o q
 item:=by
  intro X hP hw hK hc i pins s σ H E I hf st hg
  subst hP hw hK
  obtain⟨f0,f1,f2,f3,f4,f5⟩:=hf it (by simp)
  have d3:=(I.hok d _ hg.1).1
  have hx:kvs[i]?=some (kvs[i]'hg.2):=List.getElem?_eq_getElem hg.2
  obtain⟨u,hu,ru⟩:=rel.getAt hx
  refine wpAny_pyNext_dict_item st (da _ d3) hu fun key h' hkey st4 sb=>?_
  obtain⟨oi,oi1,oi2,oi3⟩:=id st4
  exact⟨_,rfl,XE (s:={ s with heap:=h' }) oi1 oi2 oi3 (by decide) ⟨_,H,I.turned (t':=s.toks) (fun b o hb q=>sb.extBut b o hb q) f0 f1 f3 f4 f5,Ym hkey,⟨_,hx,rfl,rfl⟩,st4,fun b hb=>(hf b hb).1⟩⟩
 done:=by
  intro X hP hw hK hc i pins s σ H E I hf st hg
  subst hP hw hK
  obtain⟨f0,f1,f2,f3,f4,f5⟩:=hf it (by simp)
  have d3:=(I.hok d _ hg.1).1
  have lv:=rel.length
  exact wpAny_pyNext_dict_end (I.ok.hd hc) st (da _ d3) (List.getElem?_eq_none (by have:=hg.2;omega)) fun h' kk=>⟨rfl,I.turned (t':=s.toks) (fun b o hb q=>kk b o hb q) f0 f1 f3 f4 f5⟩
 self:=fun _ _ _ _ _ st h=>wpAny_pyIter_keyiter st h
def zbD (yl:YL) (G:Hp) (td:TE):TI:=fun σ H R=>td σ H fun x H1=>∃ (d:Addr) (kvs:List (Key×V)),x=.ref d∧H1 d=some (.dK kvs)∧∀ od:Obj,(∀ o u,G d≠some (.frz o u))→R (Itd yl d od kvs) (upd H1 d (.frz od (.dK kvs)))
theorem Yx {x:Addr}(I:Inv X pins σ H s) (e:H d=some (.dK kvs)):∀ o u,X.H₀ d≠some (.frz o u):=fun o u z=>by
 have:=I.base.frzs d o u z
 rw[e] at this;cases this
theorem Z0 {o:Expr}{es:List Expr}{n:Nat}{tp:Pos}{td:TE}{apos cpos:Pos}(ho:PE X o td)
  (hbase:attributeBase o "items" X.env (eval o X.env)=eval o X.env:=by rfl) (hline:(apos.endLine == cpos.line)=true:=by rfl):PI X (.Tuple es n tp) (.Call (.Attribute o "items" apos) [] [] cpos) (zbD yI X.H₀ td):=by
 intro pins s σ H R I h
 refine wpAny_Call_method0_late hbase hline (thn (ho pins s σ H _ I h) fun v s1 hq0=>?_)
 obtain⟨x,H1,I1,rx,d,kvs,ex,e,q⟩:=hq0
 subst ex
 obtain rfl:v=Value.ref d:=rx
 obtain⟨t1,t2,_⟩:=wo I1 (.inl ⟨_,.inl e⟩)
 obtain⟨z,hd,vs,rel,dd⟩:=wM I1.hok e
 refine⟨"dict", "dict.items",PySem.F.plainAttrs_dict,PySem.F.slot_dict_items,PySem.F.type_dict_items,t1,t2,Calls.callWith_builtin rfl (PySem.evalArgs_none ?_)⟩
 refine call_meetsIn PySem.F.slot_dict_items dd.typeIs PySem.F.entry_dict_items (PySem.F.args_dict_items_1 _) (meets_dict_items (zm X.prog X.w) d hd) ⟨⟨vs,dd⟩,?_⟩
 obtain⟨od,es',ep,q1,q2,q3,q4,q5,q6⟩:=dd
 have da:∀ h':Heap,h'.get? d=some od→Heap.DictAt (zm X.prog X.w) h' d vs ep:=fun _ q=>⟨od,es',q,q2,q3,q4,q5,q6⟩
 refine wpAny_pyIter_items (s:={ s1 with heap:=s1.heap.push _ }) (d:=d) ⟨_,Heap.get?_push_size _ rfl,rfl,rfl⟩ (da _ (Heap.get?_push_of_some _ q1)) ?_
 have hle:s1.heap.objs.size≤(s1.heap.push { cls:=.type "dict_items",data:=.fields #[.ref d] }).objs.size:=by rw[Heap.size_push];exact Nat.le_succ _
 have I1f:=I1.froz e q1
 refine⟨_,[(s1.heap.push { cls:=.type "dict_items",data:=.fields #[.ref d] }).objs.size],_,_,_,rfl,I1f.kept (t':=s1.toks) fun b u q=>Heap.get?_push_of_some _ (Heap.get?_push_of_some _ q),vx rel da,⟨_,_,Heap.get?_push_size _ rfl⟩,fun b hb=>?_,q od (Yx (x:=d) I1 e)⟩
 rw[List.mem_singleton.mp hb]
 exact I1f.fpOk hle (I1f.hok.fresh hle)
theorem Xe {tg l:Expr}{td:TE}(hl:PE X l td):PI X tg l (zbD yK X.H₀ td):=by
 intro pins s σ H R I h
 refine thn (hl pins s σ H _ I h) fun v s1 hq0=>?_
 obtain⟨x,H1,I1,rx,d,kvs,ex,e,q⟩:=hq0
 subst ex
 obtain rfl:v=Value.ref d:=rx
 obtain⟨z,hd,vs,rel,dd⟩:=wM I1.hok e
 obtain⟨od,es',ep,q1,q2,q3,q4,q5,q6⟩:=dd
 have da:∀ h':Heap,h'.get? d=some od→Heap.DictAt (zm X.prog X.w) h' d vs ep:=fun _ q=>⟨od,es',q,q2,q3,q4,q5,q6⟩
 refine wpAny_pyIter_dict hd (da _ q1) ?_
 have I1f:=I1.froz e q1
 refine⟨_,[s1.heap.objs.size],_,_,_,rfl,I1f.kept (t':=s1.toks) fun b u q=>Heap.get?_push_of_some _ q,uC rel da,⟨_,Heap.get?_push_size _ rfl,rfl,rfl⟩,fun b hb=>?_,q od (Yx (x:=d) I1 e)⟩
 rw[List.mem_singleton.mp hb]
 exact I1f.fpOk (Nat.le_refl _) (I1f.hok.fresh (Nat.le_refl _))
end
theorem for_view {yl:YL}{d:Addr}{od:Obj}{kvs:List (Key×V)}{g:TG}{tb:TS}{D:Ends}{σ:St}{H:Hp}(Pv:Nat→St→Hp→Prop) (h0:Pv 0 σ H) (hf:∀ i σ H,Pv i σ H→H d=some (.frz od (.dK kvs)))
  (hs:∀ i kv x σ H H',kvs[i]?=some kv→Pv i σ H→yl kv x H H'→g x σ H' fun σ2 H2=>tb { D with nx:=Pv (i+1),ct:=Pv (i+1),bk:=D.nx } σ2 H2) (hd:∀ σ H,Pv kvs.length σ H→D.nx σ H) :
  ∃ W:Nat→Nat→St→Hp→Prop,(∃ m,W 0 m σ H)∧∀ i m σ H,W i m σ H →
   ((Itd yl d od kvs).stop i H∧D.nx σ H)∨((Itd yl d od kvs).go i H∧∃ N:St→Hp→Prop,(∀ σ' H',N σ' H'→∃ m',m'<m∧W (i+1) m' σ' H')∧∀ x H',(Itd yl d od kvs).yld i H x H'→g x σ H' fun σ2 H2=>tb { D with nx:=N,ct:=N,bk:=D.nx } σ2 H2):=by
 refine⟨fun i m σ H=>m=kvs.length-i∧i≤kvs.length∧Pv i σ H,⟨_,rfl,Nat.zero_le _,h0⟩,?_⟩
 rintro i m σ H ⟨rfl,hi,p⟩
 have q:=hf i σ H p
 by_cases hlt:i<kvs.length
 ·refine .inr ⟨⟨q,hlt⟩,Pv (i+1),fun σ' H' z=>⟨_,by omega,rfl,hlt,z⟩,fun x H' ⟨kv,hk,y⟩=>hs i kv x σ H H' hk p y⟩
 ·have e:i=kvs.length:=by omega
  subst e
  exact .inl ⟨⟨q,Nat.le_refl _⟩,hd σ H p⟩
theorem YH {yl:YL}{d:Addr}{od:Obj}{kvs:List (Key×V)}{g:TG}{tc:TT}{te:TE}{Q:VK}{D:Addr}{τ0:St}{H0:Hp}(Pv:Nat→List V→St→Hp→Prop) (h0:Pv 0 [] τ0 H0) (hf:∀ i zs τ H,Pv i zs τ H→H d=some (.frz od (.dK kvs)))
  (hs:∀ i kv x zs τ H H',kvs[i]?=some kv→Pv i zs τ H→yl kv x H H'→g x τ H' fun τ2 H4=>tc τ2 H4 fun b H5 =>
   if b=true then te τ2 H5 fun y H6=>H6 D=some (.lst zs)∧zs.length<sizeLine∧Pv (i+1) (zs++[y]) τ2 (upd H6 D (.lst (zs++[y]))) else Pv (i+1) zs τ2 H5)
  (hd:∀ zs τ H,Pv kvs.length zs τ H→Q (.ref D) H):uT (Itd yl d od kvs) g tc te Q D τ0 H0 :=
 vR kvs.length Pv h0 (fun zs τ H p=>⟨⟨hf _ _ _ _ p,Nat.le_refl _⟩,hd zs τ H p⟩) fun i zs τ H hi p=>⟨⟨hf _ _ _ _ p,hi⟩,fun x H3 ⟨kv,hk,y⟩=>hs i kv x zs τ H H3 hk p y⟩
theorem uS {K:Type} [DecidableEq K]{xs:List (K×Addr×Value)}{k:K}(h:∀ (j:Nat) (p:Addr×Value),xs[j]?≠some (k,p)):atKey xs k=none:=by
 unfold atKey
 rw[Option.map_eq_none_iff,List.find?_eq_none]
 intro x hx e
 obtain⟨j,hj⟩:=List.getElem?_of_mem hx
 have e:x.1=k:=by simpa using e
 exact h j x.2 (by rw[hj,← e])
theorem uR {K:Type} [DecidableEq K]{xs:List (K×Addr×Value)}{k:K}{j:Nat}{p:Addr×Value}(nd:(xs.map (·.1)).Nodup) (h:xs[j]?=some (k,p)):atKey xs k=some p:=by
 unfold atKey
 have hm:=List.mem_of_getElem? h
 cases hf:xs.find? (fun x=>decide (x.1=k)) with
 |none =>
  rw[List.find?_eq_none] at hf
  exact absurd (hf _ hm) (by simp)
 |some y =>
  have h1:=List.find?_some hf
  have h2:=List.mem_of_find?_eq_some hf
  have e:y.1=k:=by simpa using h1
  obtain⟨i,hi⟩:=List.getElem?_of_mem h2
  have z:i=j:=by
   have a1:(xs.map (·.1))[i]?=some k:=by rw[List.getElem?_map,hi,← e];rfl
   have a2:(xs.map (·.1))[j]?=some k:=by rw[List.getElem?_map,h];rfl
   obtain⟨l1,q1⟩:=List.getElem?_eq_some_iff.mp a1
   obtain⟨l2,q2⟩:=List.getElem?_eq_some_iff.mp a2
   exact(List.getElem?_inj l1 nd).mp (a1.trans a2.symm)
  subst z
  rw[hi] at h
  cases h
  rfl
theorem XO {prog:Program}{w:World}{K:Type} [DecidableEq K]{knd:HeapKind prog w K}{A:Around}{E:Value→Shared→Prop}{s:Shared}{d a:Addr}{xs:List (K×Addr×Value)}{k:K}{v:Value}{Q:Value→Shared→Prop}
  (hr:knd.room A) (hk:knd.is s.heap k a) (hd:Heap.DictOfH knd s.heap d xs)
  (h1:∀ p,atKey xs k=some p→Q p.2 { s with toks:=s.toks+knd.draws k })
  (h2:atKey xs k=none→∀ h',Heap.DictOfH knd h' d (storedH xs k a v)→Heap.SameBut d s.heap h'→Q v { s with heap:=h',toks:=s.toks+knd.draws k })
  (hz:xs.length≤sizeLine):wpAny (model prog w) A (dictSetDefault d (.ref a) v) Q E s:=by
 obtain⟨o,es,ep,ho,ex,hdat,hes,his,nd⟩:=hd
 unfold dictSetDefault
 refine wpAny_holding (wpAny_bind (knd.pyHash hr hk ?_))
 refine wpAny_bind (wpAny_dictFind_heap hr (s:={ s with toks:=s.toks+knd.draws k }) hk ho hdat hes his nd (fun hn=>?_) fun j p hj=>?_)
 ·have hn':=uS hn
  refine wpAny_bind (wpAny_rule (wpAny_bind (wpAny_updateDictKeys (s:={ s with toks:=s.toks+knd.draws k }) ho hdat (wpAny_pure (h2 hn' _ ?_ ?_)) ?_ ?_)))
  ·have sb:Heap.SameBut d s.heap (s.heap.update d (Obj.mapDictKeys fun x=>x.push { hash:=knd.hash k,key:=.ref a,val:=v })):=⟨Heap.size_update _ _ _,fun b hb=>Heap.get?_update_ne _ _ _ _ hb⟩
   refine⟨_,es.push { hash:=knd.hash k,key:=.ref a,val:=v },ep+1,Heap.get?_update_self _ ho (by obtain⟨c,dd,dt,sl⟩:=o;cases hdat;rfl),?_,?_,?_,?_,?_⟩
   ·obtain⟨c,dd,dt,sl⟩:=o
    cases hdat
    exact ex
   ·obtain⟨c,dd,dt,sl⟩:=o
    cases hdat
    rfl
   ·rw[storedH_new hn',Array.toList_push,hes,List.map_append]
    rfl
   ·rw[storedH_new hn']
    intro x hx
    rcases List.mem_append.mp hx with z | z
    ·exact knd.keeps (his x z) ho hdat sb
    ·rw[List.mem_singleton.mp z]
     exact knd.keeps hk ho hdat sb
   ·rw[storedH_new hn',List.map_append,List.nodup_append]
    refine⟨nd,by simp,fun x hx y hy e=>?_⟩
    have hy:y=k:=by simpa using hy
    obtain⟨z,hz1,hz2⟩:=List.mem_map.mp hx
    obtain⟨j,hj⟩:=List.getElem?_of_mem hz1
    exact hn j z.2 (by rw[hj,← hy,← e,← hz2])
  ·exact⟨Heap.size_update _ _ _,fun b hb=>Heap.get?_update_ne _ _ _ _ hb⟩
  ·have:es.size=xs.length:=by
    rw[← Array.length_toList,hes,List.length_map]
   omega
  ·simp
 ·have e1:=uR nd hj
  refine wpAny_bind (wpAny_dictEntries (s:={ s with toks:=s.toks+knd.draws k }) ho hdat ?_)
  have:es[j]?=some (entryOfKey knd (k,p)):=by
   rw[← Array.getElem?_toList,hes,List.getElem?_map,hj]
   rfl
  rw[this]
  exact wpAny_bind (wpAny_rule (wpAny_pure (h1 p e1)))
theorem yr {prog:Program}{w:World}{K:Type} [DecidableEq K] (knd:HeapKind prog w K) (d a:Addr) (hd:(d == sysModules)=false) (v:Value) :
  MeetsIn prog w (Builtin.«dict.setdefault» ⟨[.ref d,.ref a,v],[]⟩) fun A R s=>knd.room A.in1∧s.TypeIs (.ref d) "dict" ∧ ∃ k xs,knd.is s.heap k a∧Heap.DictOfH knd s.heap d xs∧xs.length≤sizeLine ∧
   (∀ p,atKey xs k=some p→R (.ok (.ret p.2)) { s with toks:=s.toks+knd.draws k }) ∧
   (atKey xs k=none→∀ h',Heap.DictOfH knd h' d (storedH xs k a v)→Heap.SameBut d s.heap h'→R (.ok (.ret v)) { s with heap:=h',toks:=s.toks+knd.draws k }):=by
 intro A R s ⟨hr,ht,k,xs,hk,hx,hz,h1,h2⟩
 unfold Builtin.«dict.setdefault»
 refine wpAny_bind ?_
 unfold Builtin.Dict.keyAndDefault
 refine wpAny_bind (wpAny_notOrdered_dict ht ?_)
 show wpAny _ _ (pure (d,Value.ref a,some v)) _ _ _
 refine wpAny_pure ?_
 show wpAny _ _ (if (d == sysModules)=true then _ else _) _ _ _
 rw[if_neg (by rw[hd];simp)]
 refine wpAny_bind (XO hr hk hx (fun p hp=>?_) (fun hn h' hh sb=>?_) hz)
 ·exact wpAny_pure (h1 p hp)
 ·exact wpAny_pure (h2 hn h' hh sb)
def zhW (H:Hp) (a:Addr) (y v:V) (Q:V→Hp→Prop):Prop :=
 (∃ kvs k,H a=some (.dK kvs)∧y=kV k∧kvs.length<sizeLine∧(∀ x,yw kvs k=some x→Q x H)∧(yw kvs k=none→Q v (upd H a (.dK (putK kvs k v))))) ∨
 ∃ kvs k b,H a=some (.dT kvs)∧y=.ref b∧H b=some (.tup (k.map kV))∧kvs.length<sizeLine∧(∀ x,yw kvs k=some x→Q x H)∧(yw kvs k=none→Q v (upd H a (.dT (putK kvs k v))))
section
variable {X:Cx}{pins:List (Addr×Obj)}{σ:St}{H:Hp}{s:Shared}{a:Addr}{y v:V}{u r:Value}{A:Around}{E:Value→Shared→Prop}
theorem XQ {Q:Value→Shared→Prop}{C:V→Hp→Prop}(hu:A.units+1<cLine) (I:Inv X pins σ H s) (g:zhW H a y v C) (ry:RelV y u) (rv:RelV v r) (h:∀ x H' w' s',C x H'→Inv X pins σ H' s'→RelV x w'→Q w' s') :
  wpAny (model X.prog X.w) A (call (.builtin "dict.setdefault") [.ref a,u,r]) Q E s:=by
 rcases g with⟨kvs,k,e,ey,l,c1,c2⟩ | ⟨kvs,k,b,e,ey,eb,l,c1,c2⟩
 ·subst ey
  obtain⟨z,hd,vs,rel,dd⟩:=wM I.hok e
  have hz:vs.length≤sizeLine:=by rw[← rel.length];exact z
  have hl:(putK kvs k v).length≤sizeLine:=by have:=z7 kvs k v;omega
  refine call_meetsIn PySem.F.slot_dict_setdefault dd.typeIs PySem.F.entry_dict_setdefault (PySem.F.args_dict_setdefault_3 _ _ _) (kt_meets_setdefault (zm X.prog X.w) a (wK ry) hd r) ⟨vs,dd,hz,fun w' hw=>?_,fun hn h' dd' hs=>?_⟩
  ·have q:=rel.val k
   rw[hw] at q
   cases hv:yw kvs k with
   |none=>rw[hv] at q;exact False.elim q
   |some x =>
    rw[hv] at q
    exact h x H w' _ (c1 x hv) (I.tok _) q
  ·have q:=rel.val k
   rw[hn] at q
   cases hv:yw kvs k with
   |some x=>rw[hv] at q;exact False.elim q
   |none =>
    have he:∃ q,h'.get? a=some q:=let ⟨q,_,_,hq,_⟩:=dd';⟨q,hq⟩
    exact h v _ r _ (c2 hv) (yQ I (by rw[e];exact True.intro) hs he (wq hl hd (rel.put k rv) dd')) rv
 ·subst ey
  cases (show u=Value.ref b from ry)
  obtain⟨z,hd,xs,rel,dd⟩:=VD I.hok e
  have hz:xs.length≤sizeLine:=by rw[← Paired.length rel];exact z
  have hl:(putK kvs k v).length≤sizeLine:=by have:=z7 kvs k v;omega
  refine call_meetsIn PySem.F.slot_dict_setdefault dd.typeIs PySem.F.entry_dict_setdefault (PySem.F.args_dict_setdefault_3 _ _ _) (yr (tupleKind (zm X.prog X.w)) a b hd r) ⟨tupleKind_room_in1 hu,dd.typeIs,k,xs,xQ I.hok eb,dd,hz,fun p hp=>?_,fun hn h' dd' hs=>?_⟩
  ·have q:=rel.val k
   rw[hp] at q
   cases hv:yw kvs k with
   |none=>rw[hv] at q;exact False.elim q
   |some x =>
    rw[hv] at q
    exact h x H p.2 _ (c1 x hv) (I.tok _) q
  ·have q:=rel.val k
   rw[hn] at q
   cases hv:yw kvs k with
   |some x=>rw[hv] at q;exact False.elim q
   |none =>
    obtain⟨q,es,ep,hq,h2,h3,h4,_,h5⟩:=dd'
    refine h v _ r _ (c2 hv) (yQ I (by rw[e];exact True.intro) hs ⟨q,hq⟩ ⟨hl,hd,_,(rel.put k eb rv).keeps fun c ys ec=>?_,q,es,ep,hq,h2,h3,h4,h5⟩) rv
    rw[upd_ne (Vq ec e (fun z=>nomatch z))]
    exact ec
end
def V5 (td ty tx:TE):TE:=fun σ H Q=>td σ H fun x H1=>∃ a,x=.ref a∧IsD H1 a∧ty σ H1 fun y H2=>tx σ H2 fun z H3=>zhW H3 a y z Q
section
variable {X:Cx}{o e f:Expr}{apos cpos:Pos}{td ty tx:TE}
theorem W4 (hu:X.A.units+1<cLine) (ho:PE X o td) (he:PE X e ty) (hf:PE X f tx) (m:M2 X o "setdefault" apos e f cpos):PE X (.Call (.Attribute o "setdefault" apos) [e,f] [] cpos) (V5 td ty tx):=by
 intro pins s σ H Q I h
 refine wpAny_Call_method m.base m.few m.line PySem.F.plainAttrs_dict PySem.F.slot_dict_setdefault PySem.F.type_dict_setdefault (thn (ho pins s σ H _ I h) fun u s1 hq0=>?_)
 obtain⟨x,H1,I1,rx,a,ex,d,q1⟩:=hq0
 subst ex
 obtain rfl:u=Value.ref a:=rx
 obtain⟨t1,t2,_⟩:=wo I1 d
 refine⟨t1,t2,?_⟩
 rw[m.trees]
 refine Calls.callWith_builtin rfl (Calls.evalArgs_plain (Calls.spliced_cons (thn (he pins s1 σ H1 _ I1 q1) fun iv s2 ⟨y,H2,I2,ry,q2⟩ =>
  Calls.spliced_cons (thn (hf pins s2 σ H2 _ I2 q2) fun fv s3 ⟨z,H3,I3,rz,g⟩=>Calls.spliced_nil ?_))))
 exact XQ hu I3 g ry rz fun x H' w' s4 c I4 rw'=>⟨x,H',I4,rw',c⟩
end
def V0 (K:PySem.W.Frag) (ta:TA) (td:TE):TE:=fun σ H Q=>ta σ H fun vs H1=>td σ H1 fun dv H2=>∃ a ns,vs=[V.ref a]∧SqL K H2 a (ns.map V.int)∧(ns=[]→Q dv H2)∧∀ m:Int,m∈ns→(∀ y∈ns,m≤y)→Q (.int m) H2
theorem WY {X:Cx}{e dv:Expr}{ta:TA}{td:TE}{p kp pos:Pos}(hc:X.calm=true) (hg:Gl X "min") (hm:X.mg "min" = none) (ha:PA X [e] ta) (hd:PE X dv td) (hs:starEach [e] X.env=[(false,eval e X.env)]:=by rfl) :
  PE X (.Call (.Name "min" p) [e] [⟨some "default",dv,kp⟩] pos) (V0 X.K ta td):=by
 intro pins s σ H Q I h
 refine wpAny_Call_Name_kw (ld_blt I hg hm bt_min ?_)
 refine PyProof.Rows.callWith_kw (thn (ha pos pins s σ H _ I h) fun us s1 ⟨vs,H1,I1,r1,q1⟩=>PyProof.Rows.kws_cons (thn (hd pins s1 σ H1 _ I1 q1) fun u s2 ⟨y,H2,I2,r2,q2⟩=>PyProof.Rows.kws_nil ?_)) (by rw[hs];rfl) (by rw[hs];rfl)
 obtain⟨a,ns,rfl,hl,q0,q⟩:=q2
 obtain⟨z,rfl,rz⟩:=r1.one
 cases rz
 obtain⟨its,rv,pl,_⟩:=I2.list hl
 refine vK (I2.ok.hd hc) pl.isList rv fun v h' tk hv kk=>?_
 rcases hv with⟨e1,rfl⟩ | ⟨m,t,rfl,hm,hm2⟩
 ·exact⟨y,H2,I2.kept (t':=tk) kk,r2,q0 e1⟩
 ·exact⟨.int m,H2,I2.kept (t':=tk) kk,⟨_,rfl⟩,q m hm hm2⟩
end L2
namespace L2
namespace Srt
open PySem PyProof.Rows PySem.W
section
variable {prog:Program}{w:World}{A:Around}{E:Value→Shared→Prop}{s:Shared}
theorem uq:∀ {ns:List Int}{vs:List Value},vs.length=ns.length→(∀ (j:Nat) v n,vs[j]?=some v→ns[j]?=some n→∃ t,v=Value.int n t)→IntsAre vs ns
 |[],[],_,_=>.nil
 |n::ns,v::vs,hl,h=>by
  obtain⟨t,rfl⟩:=h 0 v n rfl rfl
  exact .cons _ _ (uq (by simpa using hl) fun j v n e1 e2=>h (j+1) v n (by simpa using e1) (by simpa using e2))
 |[],_::_,hl,_=>by simp at hl
 |_::_,[],hl,_=>by simp at hl
theorem wX {d:Addr}{kvs:List (Key×Value)}{ep:Nat}{ns:List Int}{Q:Value→Shared→Prop}(lo:(d == sysModules)=false) (hh:A.handled=none) (hD:s.heap.DictAt (zm prog w) d kvs ep) (hk:kvs.map (·.1)=ns.map Sum.inl) (h64:ns.length<64)
  (h:∀ (D:Addr) (h':Heap) (tk:Nat) (out:Array Value) (ms:List Int),(∀ b o,s.heap.get? b=some o→h'.get? b=some o)→s.heap.get? D=none→IntsAre out.toList ms→ms.Perm ns→ms.Pairwise (· ≤ ·)→(∃ c,h'.get? D=some (seqObj "list" out c))→Q (.ref D) { s with heap:=h',toks:=tk }) :
  wpAny (model prog w) A (call (.builtin "sorted") [.ref d]) Q E s:=by
 have big:64≤sizeLine:=by decide
 have hlen:kvs.length=ns.length:=by
  have:=congrArg List.length hk
  simpa using this
 refine Calls.call_function_entry kind_sorted plain_sorted entry_sorted (args_sorted1 _) ?_
 unfold Builtin.«sorted»
 refine wpAny_bind (m:=checkCount "sorted" 1 1 _) (wpAny_pure ?_)
 refine wpAny_bind (kdu_collect (A:=A.in1) (kdl_dict (knd:=zm prog w) (kvs:=kvs) (ep:=ep) lo) hh hD (by omega) fun h' tk acc hk' hacc=>?_)
 have hl:acc.toList.length=kvs.length:=by rw[Array.length_toList];exact hacc.1
 have hI:IntsAre acc.toList ns:=uq (by omega) fun j v n e1 e2=>by
  obtain⟨k,x,hx,hkk⟩:=hacc.2 j v (by rw[← Array.getElem?_toList];exact e1)
  have e3:(kvs.map (·.1))[j]?=some k:=by rw[List.getElem?_map,hx];rfl
  rw[hk,List.getElem?_map,e2] at e3
  obtain rfl:(Sum.inl n:Key)=k:=by simpa using e3
  rcases zB (k:=Sum.inl n) (v:=v) hkk with⟨i,t,e,rfl⟩ | ⟨i,t,e,rfl⟩
  ·injection e with e
   exact⟨t,by rw[e]⟩
  ·cases e
 refine wpAny_bind (wpAny_newList ?_ (by omega))
 have hoL:(h'.push (seqObj "list" acc.toList.toArray 0)).get? h'.objs.size=some (seqObj "list" acc.toList.toArray 0):=Heap.get?_push_size _ rfl
 refine(show wpAny _ _ _ _ _ { s with heap:=h'.push (seqObj "list" acc.toList.toArray 0),toks:=tk } from ?_)
 refine wpAny_bind (wpAny_holding (wpAny_call_entry slot_list_sort ⟨_,hoL,rfl⟩ entry_list_sort (list_sort_tree hoL hI (by omega) fun out ns' a1 a2 a3=>⟨_,rfl,?_⟩) (args_list_sort _)))
 refine wpAny_pure ⟨_,rfl,h h'.objs.size _ tk out ns' (fun b o e=>?_) ?_ a1 a2 a3 (sortedHeap_at hoL)⟩
 ·have e1:=hk' b o e
  have lt:=Heap.lt_size e1
  rw[sortedHeap_old (Nat.ne_of_lt lt) (by rw[size_push'];exact Nat.lt_succ_of_lt lt)]
  exact Heap.get?_push_of_some _ e1
 ·cases z:s.heap.get? h'.objs.size with
  |none=>rfl
  |some o=>exact absurd (Heap.lt_size (hk' _ _ z)) (Nat.lt_irrefl _)
end
section
variable {X:Cx}{pins:List (Addr×Obj)}{σ:St}{H:Hp}{s:Shared}{h':Heap}
theorem laidF {a:Addr}{o:HO}{t':Nat}(I:Inv X pins σ H s) (k:∀ b u,s.heap.get? b=some u→h'.get? b=some u) (hf:s.heap.get? a=none) (new:ObjOk X.prog X.w (upd H a o) h' a o) :
  Inv X pins σ (upd H a o) { s with heap:=h',toks:=t' }:=by
 have hn:H a=none:=I.hok.untr hf
 have ne:∀ b u,s.heap.get? b=some u→b≠a:=fun b u q z=>by rw[z,hf] at q;cases q
 refine I.un ⟨fun b u q _ _ _=>k b u q,fun b u q _ _ _=>⟨u.slots,k b u q⟩,fun b u q n _=>by rw[upd_ne (ne b u q)];exact n,fun b u q _=>⟨u,k b u q⟩,fun b xs q=>by rw[upd_ne (ne_of_none q hn)];exact q,
  fun b u xs q=>by rw[upd_ne (ne_of_none q hn)];exact q,fun b ps q=>⟨#[],by rw[upd_ne (ne_of_none q hn),q];simp⟩⟩ fun b u e=>?_
 by_cases hb:b=a
 ·subst hb;rw[upd_same] at e;cases e;exact new
 ·rw[upd_ne hb] at e
  exact(I.hok b u e).stay (fun c v _ q=>k c v q) (fun c q=>by rw[upd_ne (ne_of_none q hn)];exact q) fun c xs q=>by rw[upd_ne (ne_of_none q hn)];exact q
theorem KV.keys {κ:Type}:∀ {kvs:List (κ×V)}{vs:List (κ×Value)},KV kvs vs→kvs.map (·.1)=vs.map (·.1)
 |[],_,r=>by cases r;rfl
 |p::kvs,_,r=>by
  cases r with
  |cons h t=>rw[List.map_cons,List.map_cons,KV.keys t,h.1]
def Uf:List V→Hp→VK→Prop:=fun xs H Q=>∃ (a:Addr) (kvs:List (Key×V)) (ns:List Int),xs=[V.ref a]∧H a=some (.dK kvs)∧kvs.map (·.1)=ns.map Sum.inl∧ns.length<64 ∧
 ∀ (p:Addr) (ms:List Int),H p=none→ms.Perm ns→ms.Pairwise (· ≤ ·)→Q (.ref p) (upd H p (.lst (ms.map V.int)))
theorem wv (hc:X.calm=true:=by rfl):xb X (.builtin "sorted") Uf:=by
 intro pins s σ H xs us Q I r h
 obtain⟨a,kvs,ns,rfl,ha,hk,h64,q⟩:=h
 obtain⟨u,rfl,ru⟩:=r.one
 cases ru
 have big:64≤sizeLine:=by decide
 obtain⟨hz,lo,vs,rel,hD⟩:=wM I.hok ha
 obtain⟨ep,hat⟩:=hD.dictAt
 refine wX lo (I.ok.hd hc) hat (by rw[← KV.keys rel];exact hk) h64 fun D h' tk out ms k1 k2 a1 a2 a3 k3=>?_
 obtain⟨c,k3⟩:=k3
 exact⟨.ref D,_,laidF (o:=.lst (ms.map V.int)) I k1 k2 ⟨by rw[List.length_map,a2.length_eq];omega,out.toList,c,vG a1,by rw[Array.toArray_toList];exact k3⟩,rfl,q D ms (I.hok.untr k2) a2 a3⟩
end
end Srt
namespace Sco
open PySem PyProof.Rows
noncomputable def VA:Bool→Keyed→Array Keyed→Nat→Nat→Nat→StateT SortSt Sem (Option Nat):=sortPriv% PySem.Builtin.gallop
noncomputable def Xu:Array Keyed→Array Keyed→StateT SortSt Sem (Array Keyed):=sortPriv% PySem.Builtin.mergeLo
noncomputable def Xv:Array Keyed→Array Keyed→StateT SortSt Sem (Array Keyed):=sortPriv% PySem.Builtin.mergeHi
noncomputable def WJ:Nat→StateT SortSt Sem Unit:=sortPriv% PySem.Builtin.setMinGallop
noncomputable def vV (left:Bool) (key:Keyed) (arr:Array Keyed) (base i:Nat):StateT SortSt Sem (Option Bool) :=
 elem' arr (base+i) >>= fun x=>if left=true then lt' x key else lt' key x >>= fun o=>pure (o.map fun b=>!b)
section
variable {rk:Value→Int}
noncomputable def kf (rk:Value→Int) (l:List Keyed) (i:Nat):Int:=(l[i]?.map fun x=>rk x.1).getD 0
theorem vi {l:List Keyed}{i:Nat}(h:i<l.length):kf rk l i=rk l[i].1:=by
 unfold kf
 rw[List.getElem?_eq_getElem h]
 rfl
theorem zX {a:Array Keyed}{i:Nat}(h:i<a.size):rk a[i].1=kf rk a.toList i:=by
 rw[vi (by simpa using h)]
 simp
def SA (rk:Value→Int) (l:List Keyed):Prop:=l.Pairwise fun x y=>rk x.1≤rk y.1
theorem SA.le {l:List Keyed}(h:SA rk l){i j:Nat}(hij:i≤j) (hj:j<l.length):kf rk l i≤kf rk l j:=by
 rw[vi (by omega),vi hj]
 rcases Nat.lt_or_eq_of_le hij with z | z
 ·exact List.pairwise_iff_getElem.mp h i j (by omega) hj z
 ·subst z;exact Int.le_refl _
theorem SA.of {l:List Keyed}(h:∀ i j,i<j→j<l.length→kf rk l i≤kf rk l j):SA rk l:=by
 refine List.pairwise_iff_getElem.mpr fun i j hi hj hij=>?_
 have:=h i j hij hj
 rw[vi hi,vi hj] at this
 exact this
theorem SA.drop {l:List Keyed}(h:SA rk l) (n:Nat):SA rk (l.drop n):=h.sublist (List.drop_sublist n l)
theorem SA.take {l:List Keyed}(h:SA rk l) (n:Nat):SA rk (l.take n):=h.sublist (List.take_sublist n l)
theorem SA.app {l m:List Keyed}(h:SA rk l) (k:SA rk m) (c:∀ u∈l,∀ v∈m,rk u.1≤rk v.1):SA rk (l++m):=List.pairwise_append.mpr ⟨h,k,c⟩
theorem SA.one {x:Keyed}:SA rk [x]:=List.pairwise_singleton _ _
theorem SA.nil:SA rk []:=List.Pairwise.nil
theorem z9 {l:List Keyed}{n:Nat}{v:Keyed}(h:v∈l.drop n):∃ i,n≤i∧i<l.length∧rk v.1=kf rk l i:=by
 obtain⟨i,hi,e⟩:=List.getElem_of_mem h
 rw[List.length_drop] at hi
 refine⟨n+i,by omega,by omega,?_⟩
 rw[vi (by omega),← e,List.getElem_drop]
theorem zZ {l:List Keyed}{n:Nat}{v:Keyed}(h:v∈l.take n):∃ i,i<n∧i<l.length∧rk v.1=kf rk l i:=by
 obtain⟨i,hi,e⟩:=List.getElem_of_mem h
 rw[List.length_take] at hi
 refine⟨i,by omega,by omega,?_⟩
 rw[vi (by omega),← e,List.getElem_take]
theorem wp {l:List Keyed}{n k:Nat}{v:Keyed}(h:v∈(l.drop n).take k):∃ i,n≤i∧i<n+k∧i<l.length∧rk v.1=kf rk l i:=by
 obtain⟨i,hi,e⟩:=List.getElem_of_mem h
 rw[List.length_take,List.length_drop] at hi
 refine⟨n+i,by omega,by omega,by omega,?_⟩
 rw[vi (by omega),← e,List.getElem_take,List.getElem_drop]
end
section
variable {prog:Program}{w:World}{A:Around}{E:Value→Shared→Prop}{s:Shared}{it:List Keyed}{κ:SortKind}{rk:Value→Int}
def Cmp (prog:Program) (w:World) (A:Around) (s:Shared) (it:List Keyed) (κ:SortKind) (rk:Value→Int):Prop :=
 ∀ x∈it,∀ y∈it,∀ (Q:Bool→Shared→Prop) (E:Value→Shared→Prop),Q (decide (rk x.1<rk y.1)) s→wpAny (model prog w) A (keyLt' κ x.1 y.1) Q E s
theorem VU (C:Cmp prog w A s it κ rk){st:SortSt}(hk:kindOf st=κ){x y:Keyed}(hx:x∈it) (hy:y∈it){Q:Option Bool→SortSt→Prop}(h:Q (some (decide (rk x.1<rk y.1))) st):wpS (model prog w) A E s (lt' x y) Q st:=by
 rw[lt'_eq]
 refine wpS_bind (wpS_get ?_)
 rw[hk]
 refine wpS_bind (wpS_lift (wpAny_attempt (C x hx y hy _ _ ⟨rfl,?_⟩)))
 exact wpS_pure h
theorem t_elem {st:SortSt}{arr:Array Keyed}{i:Nat}(hi:i<arr.size){Q:Keyed→SortSt→Prop}(h:Q arr[i] st):wpS (model prog w) A E s (elem' arr i) Q st:=by
 rw[elem'_eq,getElem?_pos arr i hi]
 exact wpS_pure h
theorem v8 (C:Cmp prog w A s it κ rk){st:SortSt}(hk:kindOf st=κ){left:Bool}{key:Keyed}{arr:Array Keyed}{base i:Nat}(hkey:key∈it) (harr:∀ x∈arr,x∈it) (hi:base+i<arr.size)
  {Q:Option Bool→SortSt→Prop}(h:Q (some (decide (kf rk arr.toList (base+i)<if left=true then rk key.1 else rk key.1+1))) st):wpS (model prog w) A E s (vV left key arr base i) Q st:=by
 unfold vV
 refine wpS_bind (t_elem hi ?_)
 have hx:arr[base+i]∈it:=harr _ (Array.getElem_mem hi)
 have e:=zX (rk:=rk) hi
 cases left with
 |true =>
  refine VU C hk hx hkey ?_
  rw[e]
  exact h
 |false =>
  refine wpS_bind (VU C hk hkey hx ?_)
  refine wpS_pure ?_
  rw[e]
  have:(!decide (rk key.1<kf rk arr.toList (base+i)))=decide (kf rk arr.toList (base+i)<rk key.1+1):=by
   by_cases z:rk key.1<kf rk arr.toList (base+i)
   ·rw[decide_eq_true z,decide_eq_false (by omega)];rfl
   ·rw[decide_eq_false z,decide_eq_true (by omega)];rfl
  show Q (some (!decide (rk key.1<kf rk arr.toList (base+i)))) st
  rw[this]
  exact h
theorem yD (C:Cmp prog w A s it κ rk){st:SortSt}(hk:kindOf st=κ){left:Bool}{key:Keyed}{arr:Array Keyed}{base n hint:Nat}(hkey:key∈it) (harr:∀ x∈arr,x∈it) (hb:base+n≤arr.size) (hh:hint<n)
  (hs:∀ i j,i≤j→j<n→kf rk arr.toList (base+i)≤kf rk arr.toList (base+j))
  {Q:Option Nat→SortSt→Prop}(h:∀ k,k≤n→(∀ i,i<k→kf rk arr.toList (base+i)<if left=true then rk key.1 else rk key.1+1)→(∀ i,k≤i→i<n→(if left=true then rk key.1 else rk key.1+1)≤kf rk arr.toList (base+i))→Q (some k) st):wpS (model prog w) A E s (VA left key arr base n hint) Q st:=by
 refine wpS_bind (v8 C hk hkey harr (by omega) ?_)
 generalize ht:(if left=true then rk key.1 else rk key.1+1)=t at h ⊢
 have hbey:∀ {i:Nat}{Q:Option Bool→SortSt→Prop},i<n→Q (some (decide (kf rk arr.toList (base+i)<t))) st→wpS (model prog w) A E s (vV left key arr base i) Q st:=fun hi q=>v8 C hk hkey harr (by omega) (by rw[ht];exact q)
 generalize hf:(fun i=>kf rk arr.toList (base+i))=f at *
 have ef:∀ i,kf rk arr.toList (base+i)=f i:=fun i=>by rw[← hf]
 simp only[ef] at hs h hbey ⊢
 by_cases z0:f hint<t
 ·rw[decide_eq_true z0]
  simp only[if_true]
  refine wpS_bind (wpS_mono (wpS_forRange (I:=fun j c st'=>st'=st∧∃ a b,c=(none,a,b)∧a<b∧hint+a<n∧j+1≤b∧f (hint+a)<t) (Q:=fun c st'=>st'=st∧∃ a b,c=(none,a,b)∧a<b∧hint+a<n∧f (hint+a)<t∧(b≥n-hint∨(hint+b<n∧t≤f (hint+b)))) ?_ ?_ ⟨rfl,_,_,rfl,by omega,by omega,by omega,z0⟩) ?_)
  ·rintro j c st' _ hj ⟨rfl,a,b,rfl,ab,an,jb,l1⟩
   dsimp only
   by_cases q:b≥n-hint
   ·rw[if_pos q]
    exact wpS_pure ⟨rfl,a,b,rfl,ab,an,l1,.inl q⟩
   ·rw[if_neg q]
    refine wpS_bind (hbey (by omega) ?_)
    by_cases z:f (hint+b)<t
    ·rw[decide_eq_true z]
     exact wpS_pure ⟨rfl,_,_,rfl,by omega,by omega,by omega,z⟩
    ·rw[decide_eq_false z]
     exact wpS_pure ⟨rfl,a,b,rfl,ab,an,l1,.inr ⟨by omega,by omega⟩⟩
  ·rintro c st' ⟨rfl,a,b,rfl,ab,an,jb,l1⟩
   have e:max 0 n=n:=by omega
   rw[e] at jb
   exact⟨rfl,a,b,rfl,ab,an,l1,.inl (by omega)⟩
  ·rintro c st' ⟨rfl,a,b,rfl,ab,an,l1,l2⟩
   dsimp only
   have l3':∀ i,i<hint+a+1→f i<t:=fun i hi=>by
    have:=hs i (hint+a) (by omega) an
    omega
   have l4':∀ i,hint+min b (n-hint)≤i→i<n→t≤f i:=fun i hi hin=>by
    rcases l2 with l2 | ⟨l2,l3⟩
    ·omega
    ·have:=hs (hint+b) i (by omega) hin
     omega
   refine wpS_bind (wpS_mono (wpS_forRange (I:=fun j c st''=>st''=st'∧∃ a b,c=(none,a,b)∧a≤b∧b≤n∧b≤a+(n-j)∧(∀ i,i<a→f i<t)∧(∀ i,b≤i→i<n→t≤f i)) (Q:=fun c st''=>st''=st'∧∃ a b,c=(none,a,b)∧b≤n∧(∀ i,i<b→f i<t)∧(∀ i,b≤i→i<n→t≤f i)) ?_ ?_ ⟨rfl,_,_,rfl,by omega,by omega,by omega,l3',l4'⟩) ?_)
   ·rintro j c st'' _ hj ⟨rfl,a,b,rfl,ab,bn,bj,l1,l2⟩
    dsimp only
    by_cases q:a≥b
    ·rw[if_pos q]
     exact wpS_pure ⟨rfl,a,b,rfl,bn,fun i hi=>l1 i (by omega),l2⟩
    ·rw[if_neg q]
     refine wpS_bind (hbey (by omega) ?_)
     by_cases z:f (a+(b-a)/2)<t
     ·rw[decide_eq_true z]
      refine wpS_pure ⟨rfl,_,_,rfl,by omega,bn,by omega,fun i hi=>?_,l2⟩
      have:=hs i (a+(b-a)/2) (by omega) (by omega)
      omega
     ·rw[decide_eq_false z]
      refine wpS_pure ⟨rfl,_,_,rfl,by omega,by omega,by omega,l1,fun i hi hin=>?_⟩
      have:=hs (a+(b-a)/2) i (by omega) hin
      omega
   ·rintro c st'' ⟨rfl,a,b,rfl,ab,bn,bj,l1,l2⟩
    have e:max 0 n=n:=by omega
    rw[e] at bj
    exact⟨rfl,a,b,rfl,bn,fun i hi=>l1 i (by omega),l2⟩
   ·rintro c st'' ⟨rfl,a,b,rfl,bn,l1,l2⟩
    exact wpS_pure (h b bn l1 l2)
 ·rw[decide_eq_false z0]
  simp only[Bool.false_eq_true,if_false]
  refine wpS_bind (wpS_mono (wpS_forRange (I:=fun j c st'=>st'=st∧∃ a b,c=(none,a,b)∧a<b∧a≤hint∧j+1≤b∧t≤f (hint-a)) (Q:=fun c st'=>st'=st∧∃ a b,c=(none,a,b)∧a<b∧a≤hint∧t≤f (hint-a)∧(b≥hint+1∨(b≤hint∧f (hint-b)<t))) ?_ ?_ ⟨rfl,_,_,rfl,by omega,by omega,by omega,(by show t≤f (hint-0);rw[Nat.sub_zero];omega)⟩) ?_)
  ·rintro j c st' _ hj ⟨rfl,a,b,rfl,ab,an,jb,l1⟩
   dsimp only
   by_cases q:b≥hint+1
   ·rw[if_pos q]
    exact wpS_pure ⟨rfl,a,b,rfl,ab,an,l1,.inl q⟩
   ·rw[if_neg q]
    refine wpS_bind (hbey (by omega) ?_)
    by_cases z:f (hint-b)<t
    ·rw[decide_eq_true z]
     exact wpS_pure ⟨rfl,a,b,rfl,ab,an,l1,.inr ⟨by omega,z⟩⟩
    ·rw[decide_eq_false z]
     exact wpS_pure ⟨rfl,_,_,rfl,by omega,by omega,by omega,by omega⟩
  ·rintro c st' ⟨rfl,a,b,rfl,ab,an,jb,l1⟩
   have e:max 0 n=n:=by omega
   rw[e] at jb
   exact⟨rfl,a,b,rfl,ab,an,l1,.inl (by omega)⟩
  ·rintro c st' ⟨rfl,a,b,rfl,ab,an,l1,l2⟩
   dsimp only
   have l3':∀ i,i<hint+1-min b (hint+1)→f i<t:=fun i hi=>by
    rcases l2 with l2 | ⟨l2,l3⟩
    ·omega
    ·have:=hs i (hint-b) (by omega) (by omega)
     omega
   have l4':∀ i,hint-a≤i→i<n→t≤f i:=fun i hi hin=>by
    have:=hs (hint-a) i (by omega) hin
    omega
   refine wpS_bind (wpS_mono (wpS_forRange (I:=fun j c st''=>st''=st'∧∃ a b,c=(none,a,b)∧a≤b∧b≤n∧b≤a+(n-j)∧(∀ i,i<a→f i<t)∧(∀ i,b≤i→i<n→t≤f i)) (Q:=fun c st''=>st''=st'∧∃ a b,c=(none,a,b)∧b≤n∧(∀ i,i<b→f i<t)∧(∀ i,b≤i→i<n→t≤f i)) ?_ ?_ ⟨rfl,_,_,rfl,by omega,by omega,by omega,l3',l4'⟩) ?_)
   ·rintro j c st'' _ hj ⟨rfl,a,b,rfl,ab,bn,bj,l1,l2⟩
    dsimp only
    by_cases q:a≥b
    ·rw[if_pos q]
     exact wpS_pure ⟨rfl,a,b,rfl,bn,fun i hi=>l1 i (by omega),l2⟩
    ·rw[if_neg q]
     refine wpS_bind (hbey (by omega) ?_)
     by_cases z:f (a+(b-a)/2)<t
     ·rw[decide_eq_true z]
      refine wpS_pure ⟨rfl,_,_,rfl,by omega,bn,by omega,fun i hi=>?_,l2⟩
      have:=hs i (a+(b-a)/2) (by omega) (by omega)
      omega
     ·rw[decide_eq_false z]
      refine wpS_pure ⟨rfl,_,_,rfl,by omega,by omega,by omega,l1,fun i hi hin=>?_⟩
      have:=hs (a+(b-a)/2) i (by omega) hin
      omega
   ·rintro c st'' ⟨rfl,a,b,rfl,ab,bn,bj,l1,l2⟩
    have e:max 0 n=n:=by omega
    rw[e] at bj
    exact⟨rfl,a,b,rfl,bn,fun i hi=>l1 i (by omega),l2⟩
   ·rintro c st'' ⟨rfl,a,b,rfl,bn,l1,l2⟩
    exact wpS_pure (h b bn l1 l2)
end
section
variable {rk:Value→Int}
structure Lo (rk:Value→Int) (T o rest:List Keyed):Prop where
 p:(o++rest).Perm T
 s:SA rk o
 c:∀ u∈o,∀ v∈rest,rk u.1≤rk v.1
theorem Lo.step {T o rest c rest':List Keyed}(h:Lo rk T o rest) (p:rest.Perm (c++rest')) (sc:SA rk c) (hc:∀ u∈c,∀ v∈rest',rk u.1≤rk v.1):Lo rk T (o++c) rest':=by
 refine⟨?_,h.s.app sc fun u hu v hv=>h.c u hu v (p.mem_iff.mpr (List.mem_append.mpr (.inl hv))),fun u hu v hv=>?_⟩
 ·rw[List.append_assoc]
  exact(List.Perm.append_left o p.symm).trans h.p
 ·rcases List.mem_append.mp hu with z | z
  ·exact h.c u z v (p.mem_iff.mpr (List.mem_append.mpr (.inr hv)))
  ·exact hc u z v hv
theorem Lo.fin {T o rest c:List Keyed}(h:Lo rk T o rest) (p:rest.Perm c) (sc:SA rk c):(o++c).Perm T∧SA rk (o++c):=by
 have:=h.step (c:=c) (rest':=[]) (by rw[List.append_nil];exact p) sc (fun _ _ v hv=>by cases hv)
 exact⟨by have z:=this.p;rw[List.append_nil] at z;exact z,this.s⟩
structure Hi (rk:Value→Int) (T rest o:List Keyed):Prop where
 p:(rest++o.reverse).Perm T
 s:SA rk o.reverse
 c:∀ u∈rest,∀ v∈o,rk u.1≤rk v.1
theorem Hi.step {T o rest c rest':List Keyed}(h:Hi rk T rest o) (p:rest.Perm (rest'++c)) (sc:SA rk c) (hc:∀ u∈rest',∀ v∈c,rk u.1≤rk v.1):Hi rk T rest' (o++c.reverse):=by
 have e:(o++c.reverse).reverse=c++o.reverse:=by rw[List.reverse_append,List.reverse_reverse]
 refine⟨?_,?_,fun u hu v hv=>?_⟩
 ·rw[e,← List.append_assoc]
  exact(List.Perm.append_right o.reverse p.symm).trans h.p
 ·rw[e]
  exact sc.app h.s fun u hu v hv=>h.c u (p.mem_iff.mpr (List.mem_append.mpr (.inr hu))) v (List.mem_reverse.mp hv)
 ·rcases List.mem_append.mp hv with z | z
  ·exact h.c u (p.mem_iff.mpr (List.mem_append.mpr (.inl hu))) v z
  ·exact hc u hu v (List.mem_reverse.mp z)
theorem Hi.fin {T o rest c:List Keyed}(h:Hi rk T rest o) (p:rest.Perm c) (sc:SA rk c):(c++o.reverse).Perm T∧SA rk (c++o.reverse):=by
 have:=h.step (c:=c) (rest':=[]) (by rw[List.nil_append];exact p) sc (fun u hu _ _=>by cases hu)
 have e:(o++c.reverse).reverse=c++o.reverse:=by rw[List.reverse_append,List.reverse_reverse]
 have z:=this.p
 have y:=this.s
 rw[e] at z y
 exact⟨z,y⟩
def LoA (rk:Value→Int) (a b o:Array Keyed) (x y:Nat):Prop:=Lo rk (a.toList++b.toList) o.toList (a.toList.drop x++b.toList.drop y)
def HiA (rk:Value→Int) (a b o:Array Keyed) (x y:Nat):Prop:=Hi rk (a.toList++b.toList) (a.toList.take x++b.toList.take y) o.toList
def vv (rk:Value→Int) (a b r:Array Keyed):Prop:=r.toList.Perm (a.toList++b.toList)∧SA rk r.toList
theorem XJ (a:Array Keyed) (x:Nat):(a.extract x a.size).toList=a.toList.drop x:=by
 rw[Array.toList_extract,List.extract_eq_drop_take,List.take_of_length_le (by simp)]
theorem XI (a:Array Keyed) (x:Nat):(a.extract 0 x).toList=a.toList.take x:=by
 rw[Array.toList_extract,List.extract_eq_drop_take]
 simp
theorem VC (a:Array Keyed) (x k:Nat):(a.extract x (x+k)).toList=(a.toList.drop x).take k:=by
 rw[Array.toList_extract,List.extract_eq_drop_take]
 congr 1
 omega
theorem YB {a:Array Keyed}{x:Nat}(h:x<a.size):a.toList.drop x=a[x]::a.toList.drop (x+1):=by
 rw[List.drop_eq_getElem_cons (by simpa using h)]
 simp
theorem Zd {a:Array Keyed}{x:Nat}(h:x<a.size):a.toList.take (x+1)=a.toList.take x++[a[x]]:=by
 rw[List.take_succ_eq_append_getElem (by simpa using h)]
 simp
variable {a b:Array Keyed}{o:Array Keyed}{x y:Nat}
theorem LoA.pb (h:LoA rk a b o x y) (sa:SA rk a.toList) (sb:SA rk b.toList) (hy:y<b.size) (hc:x<a.size→kf rk b.toList y≤kf rk a.toList x):LoA rk a b (o.push b[y]) x (y+1):=by
 unfold LoA at h ⊢
 rw[Array.toList_push]
 have ey:=zX (rk:=rk) hy
 refine h.step ?_ SA.one fun u hu v hv=>?_
 ·rw[YB hy]
  exact List.perm_middle
 ·rw[List.mem_singleton.mp hu,ey]
  rcases List.mem_append.mp hv with z | z
  ·obtain⟨i,h1,h2,e⟩:=z9 (rk:=rk) z
   have:=sa.le h1 h2
   rw[Array.length_toList] at h2
   have:=hc (by omega)
   omega
  ·obtain⟨i,h1,h2,e⟩:=z9 (rk:=rk) z
   have:=sb.le (i:=y) (j:=i) (by omega) h2
   omega
theorem LoA.pa (h:LoA rk a b o x y) (sa:SA rk a.toList) (sb:SA rk b.toList) (hx:x<a.size) (hc:y<b.size→kf rk a.toList x≤kf rk b.toList y):LoA rk a b (o.push a[x]) (x+1) y:=by
 unfold LoA at h ⊢
 rw[Array.toList_push]
 have ex:=zX (rk:=rk) hx
 refine h.step ?_ SA.one fun u hu v hv=>?_
 ·rw[YB hx]
  exact List.Perm.refl _
 ·rw[List.mem_singleton.mp hu,ex]
  rcases List.mem_append.mp hv with z | z
  ·obtain⟨i,h1,h2,e⟩:=z9 (rk:=rk) z
   have:=sa.le (i:=x) (j:=i) (by omega) h2
   omega
  ·obtain⟨i,h1,h2,e⟩:=z9 (rk:=rk) z
   have:=sb.le h1 h2
   rw[Array.length_toList] at h2
   have:=hc (by omega)
   omega
theorem wU {l:List Keyed}{n k:Nat}:l.drop n=(l.drop n).take k++l.drop (n+k):=by
 rw[← List.drop_drop,List.take_append_drop]
theorem LoA.as {k:Nat}(h:LoA rk a b o x y) (sa:SA rk a.toList) (sb:SA rk b.toList) (hx:x+k≤a.size) (hc:∀ i,i<k→y<b.size→kf rk a.toList (x+i)≤kf rk b.toList y):LoA rk a b (o++a.extract x (x+k)) (x+k) y:=by
 unfold LoA at h ⊢
 rw[Array.toList_append,VC]
 refine h.step ?_ ((sa.drop x).take k) fun u hu v hv=>?_
 ·rw[← List.append_assoc,← wU]
 ·obtain⟨i,h1,h2,h3,e⟩:=wp (rk:=rk) hu
  rcases List.mem_append.mp hv with z | z
  ·obtain⟨j,h4,h5,e2⟩:=z9 (rk:=rk) z
   have:=sa.le (i:=i) (j:=j) (by omega) h5
   omega
  ·obtain⟨j,h4,h5,e2⟩:=z9 (rk:=rk) z
   have h6:=sb.le h4 h5
   rw[Array.length_toList] at h5
   have h7:=hc (i-x) (by omega) (by omega)
   rw[show x+(i-x)=i by omega] at h7
   omega
theorem LoA.bs {k:Nat}(h:LoA rk a b o x y) (sa:SA rk a.toList) (sb:SA rk b.toList) (hy:y+k≤b.size) (hc:∀ i,i<k→x<a.size→kf rk b.toList (y+i)≤kf rk a.toList x):LoA rk a b (o++b.extract y (y+k)) x (y+k):=by
 unfold LoA at h ⊢
 rw[Array.toList_append,VC]
 refine h.step ?_ ((sb.drop y).take k) fun u hu v hv=>?_
 ·have e:b.toList.drop y=(b.toList.drop y).take k++b.toList.drop (y+k):=wU
  refine(List.Perm.append_left _ (List.Perm.of_eq e)).trans ?_
  rw[← List.append_assoc,← List.append_assoc]
  exact List.Perm.append_right _ List.perm_append_comm
 ·obtain⟨i,h1,h2,h3,e⟩:=wp (rk:=rk) hu
  rcases List.mem_append.mp hv with z | z
  ·obtain⟨j,h4,h5,e2⟩:=z9 (rk:=rk) z
   have h6:=sa.le h4 h5
   rw[Array.length_toList] at h5
   have h7:=hc (i-y) (by omega) (by omega)
   rw[show y+(i-y)=i by omega] at h7
   omega
  ·obtain⟨j,h4,h5,e2⟩:=z9 (rk:=rk) z
   have:=sb.le (i:=i) (j:=j) (by omega) h5
   omega
theorem LoA.done (h:LoA rk a b o x y) (sa:SA rk a.toList) (sb:SA rk b.toList) (e:x=a.size∨y=b.size):vv rk a b (o++a.extract x++b.extract y):=by
 unfold vv
 rw[Array.toList_append,Array.toList_append,XJ,XJ,List.append_assoc]
 refine h.fin (List.Perm.refl _) ((sa.drop x).app (sb.drop y) fun u hu v hv=>?_)
 rcases e with e | e
 ·rw[List.drop_of_length_le (by simp[e])] at hu
  cases hu
 ·rw[List.drop_of_length_le (by simp[e])] at hv
  cases hv
theorem LoA.last (h:LoA rk a b o x y) (sa:SA rk a.toList) (sb:SA rk b.toList) (e:x+1=a.size) (hl:∀ i,i<b.size→kf rk b.toList i≤kf rk a.toList (a.size-1)):vv rk a b (o++b.extract y++a.extract x):=by
 unfold vv
 rw[Array.toList_append,Array.toList_append,XJ,XJ,List.append_assoc]
 refine h.fin List.perm_append_comm ((sb.drop y).app (sa.drop x) fun u hu v hv=>?_)
 obtain⟨i,h1,h2,e1⟩:=z9 (rk:=rk) hu
 obtain⟨j,h3,h4,e2⟩:=z9 (rk:=rk) hv
 rw[Array.length_toList] at h2 h4
 have:=hl i h2
 have ej:j=a.size-1:=by omega
 rw[ej] at e2
 omega
theorem HiA.pa (h:HiA rk a b o (x+1) y) (sa:SA rk a.toList) (sb:SA rk b.toList) (hx:x<a.size) (hy:y≤b.size) (hc:1≤y→kf rk b.toList (y-1)≤kf rk a.toList x):HiA rk a b (o.push a[x]) x y:=by
 unfold HiA at h ⊢
 rw[Array.toList_push]
 have ex:=zX (rk:=rk) hx
 refine h.step (c:=[a[x]]) ?_ SA.one fun u hu v hv=>?_
 ·rw[Zd hx,List.append_assoc,List.append_assoc]
  exact List.Perm.append_left _ List.perm_append_comm
 ·rw[List.mem_singleton.mp hv,ex]
  rcases List.mem_append.mp hu with z | z
  ·obtain⟨i,h1,h2,e⟩:=zZ (rk:=rk) z
   have:=sa.le (i:=i) (j:=x) (by omega) (by simpa using hx)
   omega
  ·obtain⟨i,h1,h2,e⟩:=zZ (rk:=rk) z
   have:=sb.le (i:=i) (j:=y-1) (by omega) (by rw[Array.length_toList];omega)
   have:=hc (by omega)
   omega
theorem HiA.pb (h:HiA rk a b o x (y+1)) (sa:SA rk a.toList) (sb:SA rk b.toList) (hy:y<b.size) (hx:x≤a.size) (hc:1≤x→kf rk a.toList (x-1)≤kf rk b.toList y):HiA rk a b (o.push b[y]) x y:=by
 unfold HiA at h ⊢
 rw[Array.toList_push]
 have ey:=zX (rk:=rk) hy
 refine h.step (c:=[b[y]]) ?_ SA.one fun u hu v hv=>?_
 ·rw[Zd hy,List.append_assoc]
 ·rw[List.mem_singleton.mp hv,ey]
  rcases List.mem_append.mp hu with z | z
  ·obtain⟨i,h1,h2,e⟩:=zZ (rk:=rk) z
   have:=sa.le (i:=i) (j:=x-1) (by omega) (by rw[Array.length_toList];omega)
   have:=hc (by omega)
   omega
  ·obtain⟨i,h1,h2,e⟩:=zZ (rk:=rk) z
   have:=sb.le (i:=i) (j:=y) (by omega) (by simpa using hy)
   omega
theorem xg {l:List Keyed}{k x:Nat}(h:k≤x):l.take x=l.take k++(l.drop k).take (x-k):=by
 have e:x=k+(x-k):=by omega
 rw[e,List.take_add,Nat.add_sub_cancel_left]
theorem VB (a:Array Keyed) (k x:Nat):(a.extract k x).toList=(a.toList.drop k).take (x-k):=by
 rw[Array.toList_extract,List.extract_eq_drop_take]
theorem HiA.as {k:Nat}(h:HiA rk a b o x y) (sa:SA rk a.toList) (sb:SA rk b.toList) (hk:k≤x) (hx:x≤a.size) (hy:y≤b.size) (hc:∀ i,k≤i→i<x→1≤y→kf rk b.toList (y-1)≤kf rk a.toList i):HiA rk a b (o++(a.extract k x).reverse) k y:=by
 unfold HiA at h ⊢
 rw[Array.toList_append,Array.toList_reverse,VB]
 refine h.step (c:=(a.toList.drop k).take (x-k)) ?_ ((sa.drop k).take _) fun u hu v hv=>?_
 ·rw[xg hk,List.append_assoc,List.append_assoc]
  exact List.Perm.append_left _ List.perm_append_comm
 ·obtain⟨j,h1,h2,h3,e⟩:=wp (rk:=rk) hv
  rcases List.mem_append.mp hu with z | z
  ·obtain⟨i,h4,h5,e2⟩:=zZ (rk:=rk) z
   have:=sa.le (i:=i) (j:=j) (by omega) h3
   omega
  ·obtain⟨i,h4,h5,e2⟩:=zZ (rk:=rk) z
   have:=sb.le (i:=i) (j:=y-1) (by omega) (by rw[Array.length_toList];omega)
   have:=hc j h1 (by omega) (by omega)
   omega
theorem HiA.bs {k:Nat}(h:HiA rk a b o x y) (sa:SA rk a.toList) (sb:SA rk b.toList) (hk:k≤y) (hx:x≤a.size) (hy:y≤b.size) (hc:∀ i,k≤i→i<y→1≤x→kf rk a.toList (x-1)≤kf rk b.toList i):HiA rk a b (o++(b.extract k y).reverse) x k:=by
 unfold HiA at h ⊢
 rw[Array.toList_append,Array.toList_reverse,VB]
 refine h.step (c:=(b.toList.drop k).take (y-k)) ?_ ((sb.drop k).take _) fun u hu v hv=>?_
 ·rw[xg (l:=b.toList) hk,List.append_assoc]
 ·obtain⟨j,h1,h2,h3,e⟩:=wp (rk:=rk) hv
  rcases List.mem_append.mp hu with z | z
  ·obtain⟨i,h4,h5,e2⟩:=zZ (rk:=rk) z
   have:=sa.le (i:=i) (j:=x-1) (by omega) (by rw[Array.length_toList];omega)
   have:=hc j h1 (by omega) (by omega)
   omega
  ·obtain⟨i,h4,h5,e2⟩:=zZ (rk:=rk) z
   have:=sb.le (i:=i) (j:=j) (by omega) h3
   omega
theorem HiA.done (h:HiA rk a b o x y) (sa:SA rk a.toList) (sb:SA rk b.toList) (e:x=0∨y=0):vv rk a b (a.extract 0 x++b.extract 0 y++o.reverse):=by
 unfold vv
 rw[Array.toList_append,Array.toList_append,Array.toList_reverse,XI,XI]
 refine h.fin (List.Perm.refl _) ((sa.take x).app (sb.take y) fun u hu v hv=>?_)
 rcases e with e | e
 ·subst e;cases hu
 ·subst e;cases hv
theorem HiA.first (h:HiA rk a b o x y) (sa:SA rk a.toList) (sb:SA rk b.toList) (e:y=1) (hl:∀ i,i<a.size→kf rk b.toList 0≤kf rk a.toList i):vv rk a b (b.extract 0 y++a.extract 0 x++o.reverse):=by
 unfold vv
 rw[Array.toList_append,Array.toList_append,Array.toList_reverse,XI,XI]
 refine h.fin List.perm_append_comm ((sb.take y).app (sa.take x) fun u hu v hv=>?_)
 obtain⟨i,h1,h2,e1⟩:=zZ (rk:=rk) hu
 obtain⟨j,h3,h4,e2⟩:=zZ (rk:=rk) hv
 rw[Array.length_toList] at h4
 have:=hl j h4
 have ei:i=0:=by omega
 rw[ei] at e1
 omega
end
section
variable {prog:Program}{w:World}{A:Around}{E:Value→Shared→Prop}{s:Shared}{it:List Keyed}{κ:SortKind}{rk:Value→Int}
structure Eqv (st st':SortSt):Prop where
 k:kindOf st'=kindOf st
 a:arrOf st'=arrOf st
 p:pendingOf st'=pendingOf st
 f:failedOf st'=failedOf st
theorem Eqv.refl (st:SortSt):Eqv st st:=⟨rfl,rfl,rfl,rfl⟩
theorem t_setMin {st st':SortSt}(e:Eqv st st'){g:Nat}{Q:Unit→SortSt→Prop}(h:∀ st'',Eqv st st''→Q () st''):wpS (model prog w) A E s (WJ g) Q st':=wpS_modify (h _ ⟨e.k,e.a,e.p,e.f⟩)
def In (it:List Keyed) (o:Array Keyed):Prop:=∀ x∈o,x∈it
theorem In.ext {o:Array Keyed}{i j:Nat}(h:In it o):In it (o.extract i j):=fun y hy=>by
 have hy:y∈(o.extract i j).toList:=Array.mem_def.mp hy
 rw[Array.toList_extract,List.extract_eq_drop_take] at hy
 exact h y (Array.mem_def.mpr (List.mem_of_mem_drop (List.mem_of_mem_take hy)))
theorem In.at {o:Array Keyed}{i:Nat}(h:In it o) (hi:i<o.size):o[i]∈it:=h _ (Array.getElem_mem hi)
theorem jn1 {α:Type}{P G:α→Prop}(J:∀ m,P m) (k:(∀ m,P m)→∀ m,G m):∀ m,G m:=k J
theorem jn2 {α β:Type}{H K G:α→β→Prop}(h:∃ P:α→β→Prop,(∀ m n,H m n→P m n)∧((∀ m n,H m n→P m n)→∀ m n,K m n→G m n)):∀ m n,K m n→G m n:=by
 obtain⟨P,J,k⟩:=h
 exact k J
def LoP (rk:Value→Int) (a b:Array Keyed) (m:Nat) (r:Option (Array Keyed)) (o:Array Keyed) (x y:Nat):Prop :=
 match r with
 |some o=>vv rk a b o
 |none=>LoA rk a b o x y∧x+1<a.size∧y<b.size∧m≤x+y
theorem Ze (C:Cmp prog w A s it κ rk){st:SortSt}(hk:kindOf st=κ){a b:Array Keyed}(ha:In it a) (hb:In it b) (za:1≤a.size) (zb:1≤b.size)
  (sa:SA rk a.toList) (sb:SA rk b.toList) (h0:kf rk b.toList 0≤kf rk a.toList 0) (hl:∀ i,i<b.size→kf rk b.toList i≤kf rk a.toList (a.size-1))
  {Q:Array Keyed→SortSt→Prop}(h:∀ o st',vv rk a b o→Eqv st st'→Q o st'):wpS (model prog w) A E s (Xu a b) Q st:=by
 refine wpS_bind (wpS_lift (wpAny_rule ⟨rfl,?_⟩))
 refine wpS_bind (t_elem (by omega) ?_)
 have n0:LoA rk a b #[] 0 0:=⟨List.Perm.refl _,SA.nil,fun u hu=>by cases hu⟩
 have b0:LoA rk a b #[b[0]] 0 1:=n0.pb sa sb (by omega) fun _=>h0
 dsimp only
 by_cases q1:(1 == b.size)=true
 ·rw[if_pos q1]
  exact wpS_pure (h _ _ (b0.done sa sb (.inr (by simpa using q1))) (Eqv.refl st))
 rw[if_neg q1]
 by_cases q2:(0+1 == a.size)=true
 ·rw[if_pos q2]
  exact wpS_pure (h _ _ (b0.last sa sb (by simpa using q2) hl) (Eqv.refl st))
 rw[if_neg q2]
 have q1:1≠b.size:=fun z=>q1 (by simp[z])
 have q2:1≠a.size:=fun z=>q2 (by simp[z])
 refine wpS_bind (wpS_get ?_)
 refine wpS_bind (wpS_mono (wpS_forRange (I:=fun i c st'=>Eqv st st'∧∃ o x y mg,c=(none,o,x,y,mg)∧LoA rk a b o x y∧x+1<a.size∧y<b.size∧i≤x+y) (Q:=fun c st'=>Eqv st st'∧∃ r o x y mg,c=(some r,o,x,y,mg)∧vv rk a b r) ?_ ?_ ⟨Eqv.refl st,_,_,_,_,rfl,b0,by omega,by omega,by omega⟩) ?_)
 ·rintro i c st1 _ hi ⟨ev,o,x,y,mg,rfl,ho,hx,hy,hm⟩
  dsimp only
  refine wpS_bind (wpS_mono (wpS_forRange (I:=fun j c st'=>Eqv st st'∧∃ o x y ca cb,c=(none,o,x,y,ca,cb)∧LoA rk a b o x y∧x+1<a.size∧y<b.size∧i+j≤x+y) (Q:=fun c st'=>Eqv st st'∧∃ r o x y ca cb,c=(r,o,x,y,ca,cb)∧LoP rk a b (i+1) r o x y) ?_ ?_ ⟨ev,_,_,_,_,_,rfl,ho,hx,hy,hm⟩) ?_)
  ·rintro j c st2 _ hj ⟨ev,o,x,y,ca,cb,rfl,ho,hx,hy,hm⟩
   dsimp only
   have hx1:x<a.size:=by omega
   have hx0:=ha.at (i:=x) hx1
   have hy0:=hb.at hy
   have ex:=zX (rk:=rk) hx1
   have ey:=zX (rk:=rk) hy
   refine wpS_bind (t_elem hy (wpS_bind (t_elem (by omega) (wpS_bind (VU C (ev.k.trans hk) hy0 hx0 ?_)))))
   by_cases bw:rk b[y].1<rk a[x].1
   ·rw[decide_eq_true bw]
    simp only[if_true]
    refine wpS_bind (t_elem hy ?_)
    have ho':=ho.pb sa sb hy fun _=>by omega
    by_cases q3:(y+1 == b.size)=true
    ·rw[if_pos q3]
     exact wpS_pure ⟨ev,_,_,_,_,_,_,rfl,ho'.done sa sb (.inr (by simpa using q3))⟩
    ·rw[if_neg q3]
     have q3:y+1≠b.size:=fun z=>q3 (by simp[z])
     by_cases q4:cb+1≥mg
     ·rw[if_pos q4]
      exact wpS_pure ⟨ev,_,_,_,_,_,_,rfl,ho',hx,by omega,by omega⟩
     ·rw[if_neg q4]
      exact wpS_pure ⟨ev,_,_,_,_,_,rfl,ho',hx,by omega,by omega⟩
   ·rw[decide_eq_false bw]
    simp only[Bool.false_eq_true,if_false]
    refine wpS_bind (t_elem (by omega) ?_)
    have ho':=ho.pa sa sb hx1 fun _=>by omega
    by_cases q3:(x+1+1 == a.size)=true
    ·rw[if_pos q3]
     exact wpS_pure ⟨ev,_,_,_,_,_,_,rfl,ho'.last sa sb (by simpa using q3) hl⟩
    ·rw[if_neg q3]
     have q3:x+1+1≠a.size:=fun z=>q3 (by simp[z])
     by_cases q4:ca+1≥mg
     ·rw[if_pos q4]
      exact wpS_pure ⟨ev,_,_,_,_,_,_,rfl,ho',by omega,hy,by omega⟩
     ·rw[if_neg q4]
      exact wpS_pure ⟨ev,_,_,_,_,_,rfl,ho',by omega,hy,by omega⟩
  ·rintro c st2 ⟨ev,o,x,y,ca,cb,rfl,ho,hx,hy,hm⟩
   exact⟨ev,_,_,_,_,_,_,rfl,ho,hx,hy,by omega⟩
  ·rintro c st2 ⟨ev,r,o,x,y,ca,cb,rfl,hp⟩
   dsimp only
   cases r with
   |some r=>exact wpS_pure ⟨ev,_,_,_,_,_,rfl,hp⟩
   |none =>
    obtain⟨ho,hx,hy,hm⟩:=hp
    refine wpS_bind (wpS_lift (wpAny_rule ⟨rfl,?_⟩))
    refine wpS_bind (wpS_mono (wpS_forRange (I:=fun _ c st'=>Eqv st st'∧∃ o x y mg ca cb,c=(none,o,x,y,mg,ca,cb)∧LoA rk a b o x y∧x+1<a.size∧y<b.size∧i+1≤x+y) (Q:=fun c st'=>Eqv st st'∧∃ r o x y mg ca cb,c=(r,o,x,y,mg,ca,cb)∧LoP rk a b (i+1) r o x y) ?_ ?_ ⟨ev,_,_,_,_,_,_,rfl,ho,hx,hy,hm⟩) ?_)
    ·rintro j c st3 _ hj ⟨ev,o,x,y,mg,ca,cb,rfl,ho,hx,hy,hm⟩
     dsimp only
     revert mg
     apply jn1
     case k =>
      intro J mg
      by_cases qm:¬ mg>1
      ·rw[if_neg qm]
       exact J mg
      ·rw[if_pos (Decidable.not_not.mp qm)]
       exact J (mg-1)
     case J =>
      intro mg
      refine wpS_bind (t_setMin ev fun st4 ev4=>?_)
      refine wpS_bind (t_elem hy ?_)
      have ey:=zX (rk:=rk) hy
      refine wpS_bind (yD C (ev4.k.trans hk) (hb.at hy) ha (by omega) (by omega) (fun i j hij hj=>sa.le (by omega) (by rw[Array.length_toList];omega)) fun k hk1 g1 g2=>?_)
      simp only[Bool.false_eq_true,if_false] at g1 g2
      dsimp only
      have HH:=And.intro ho (And.intro hx (And.intro hm (And.intro hk1 (And.intro g1 g2))))
      clear ho hx hm hk1 g1 g2
      revert HH
      revert o x
      refine jn2 (H:=fun o x=>LoA rk a b o x y∧x+1<a.size∧i+1≤x+y∧kf rk b.toList y≤kf rk a.toList x) ?_
      apply Exists.intro
      apply And.intro
      case right =>
       intro J o x ⟨ho,hx,hm,hk1,g1,g2⟩
       by_cases qk:¬ k>0
       ·rw[if_neg qk]
        have:=g2 0 (by omega) (by omega)
        exact J o x ⟨ho,hx,hm,by rw[Nat.add_zero] at this;omega⟩
       rw[if_pos (Decidable.not_not.mp qk)]
       have ho1:=ho.as (k:=k) sa sb (by omega) fun i hi _=>by have:=g1 i hi;omega
       by_cases qa:(x+k+1 == a.size)=true
       ·rw[if_pos qa]
        exact wpS_pure ⟨ev4,_,_,_,_,_,_,_,rfl,ho1.last sa sb (by simpa using qa) hl⟩
       rw[if_neg qa]
       have qa:x+k+1≠a.size:=fun z=>qa (by simp[z])
       by_cases qb:(x+k == a.size)=true
       ·rw[if_pos qb]
        exact wpS_pure ⟨ev4,_,_,_,_,_,_,_,rfl,ho1.done sa sb (.inl (by simpa using qb))⟩
       rw[if_neg qb]
       have qb:x+k≠a.size:=fun z=>qb (by simp[z])
       have:=g2 k (by omega) (by omega)
       exact J _ _ ⟨ho1,by omega,by omega,by omega⟩
      case left =>
       intro o x ⟨ho,hx,hm,hc⟩
       refine wpS_bind (t_elem hy ?_)
       have ho2:=ho.pb sa sb hy fun _=>hc
       by_cases qc:(y+1 == b.size)=true
       ·rw[if_pos qc]
        exact wpS_pure ⟨ev4,_,_,_,_,_,_,_,rfl,ho2.done sa sb (.inr (by simpa using qc))⟩
       rw[if_neg qc]
       have qc:y+1≠b.size:=fun z=>qc (by simp[z])
       refine wpS_bind (t_elem (by omega) ?_)
       have ex:=zX (rk:=rk) (show x<a.size by omega)
       refine wpS_bind (yD C (ev4.k.trans hk) (ha.at (i:=x) (by omega)) hb (by omega) (by omega) (fun i j hij hj=>sb.le (by omega) (by rw[Array.length_toList];omega)) fun k2 hk2 g1 g2=>?_)
       simp only[if_true] at g1 g2
       dsimp only
       have hy1:y+1<b.size:=by omega
       have hm1:i+1≤x+(y+1):=by omega
       generalize o.push b[y]=o2 at ho2 ⊢
       generalize y+1=y1 at hy1 hm1 hk2 ho2 g1 g2 ⊢
       have HH:=And.intro ho2 (And.intro hy1 (And.intro hm1 (And.intro hk2 (And.intro g1 g2))))
       clear ho2 hy1 hm1 hk2 g1 g2
       revert HH
       revert o2 y1
       refine jn2 (H:=fun o y=>LoA rk a b o x y∧y<b.size∧i+1≤x+y∧kf rk a.toList x≤kf rk b.toList y) ?_
       apply Exists.intro
       apply And.intro
       case right =>
        intro J o2 y1 ⟨ho2,hy1,hm1,hk2,g1,g2⟩
        by_cases qk2:¬ k2>0
        ·rw[if_neg qk2]
         have:=g2 0 (by omega) (by omega)
         exact J o2 y1 ⟨ho2,hy1,hm1,by rw[Nat.add_zero] at this;omega⟩
        rw[if_pos (Decidable.not_not.mp qk2)]
        have ho3:=ho2.bs (k:=k2) sa sb (by omega) fun i hi _=>by have:=g1 i hi;omega
        by_cases qd:(y1+k2 == b.size)=true
        ·rw[if_pos qd]
         exact wpS_pure ⟨ev4,_,_,_,_,_,_,_,rfl,ho3.done sa sb (.inr (by simpa using qd))⟩
        rw[if_neg qd]
        have qd:y1+k2≠b.size:=fun z=>qd (by simp[z])
        have:=g2 k2 (by omega) (by omega)
        exact J _ _ ⟨ho3,by omega,by omega,by omega⟩
       case left =>
        intro o y ⟨ho,hy,hm,hc⟩
        refine wpS_bind (t_elem (by omega) ?_)
        have ho4:=ho.pa sa sb (show x<a.size by omega) fun _=>hc
        by_cases qe:(x+1+1 == a.size)=true
        ·rw[if_pos qe]
         exact wpS_pure ⟨ev4,_,_,_,_,_,_,_,rfl,ho4.last sa sb (by simpa using qe) hl⟩
        rw[if_neg qe]
        have qe:x+1+1≠a.size:=fun z=>qe (by simp[z])
        have H:LoA rk a b (o.push a[x]) (x+1) y∧x+1+1<a.size∧y<b.size∧i+1≤x+1+y:=⟨ho4,by omega,hy,by omega⟩
        split
        ·exact wpS_pure ⟨ev4,_,_,_,_,_,_,_,rfl,H⟩
        ·exact wpS_pure ⟨ev4,_,_,_,_,_,_,rfl,H⟩
    ·rintro c st3 ⟨ev,o,x,y,mg,ca,cb,rfl,ho,hx,hy,hm⟩
     exact⟨ev,_,_,_,_,_,_,_,rfl,ho,hx,hy,hm⟩
    ·rintro c st3 ⟨ev,r,o,x,y,mg,ca,cb,rfl,hp⟩
     dsimp only
     cases r with
     |some r=>exact wpS_pure ⟨ev,_,_,_,_,_,rfl,hp⟩
     |none =>
      obtain⟨ho,hx,hy,hm⟩:=hp
      refine wpS_bind (t_setMin ev fun st4 ev4=>?_)
      exact wpS_pure ⟨ev4,_,_,_,_,rfl,ho,hx,hy,hm⟩
 ·rintro c st1 ⟨ev,o,x,y,mg,rfl,ho,hx,hy,hm⟩
  omega
 ·rintro c st1 ⟨ev,r,o,x,y,mg,rfl,hr⟩
  exact wpS_pure (h r st1 hr ev)
def HiP (rk:Value→Int) (a b:Array Keyed) (m:Nat) (r:Option (Array Keyed)) (o:Array Keyed) (x y:Nat):Prop :=
 match r with
 |some o=>vv rk a b o
 |none=>HiA rk a b o x y∧1≤x∧x<a.size∧2≤y∧y≤b.size∧m+x+y≤a.size+b.size
theorem HiA.pa1 {rk:Value→Int}{a b o:Array Keyed}{x y:Nat}(h:HiA rk a b o x y) (sa:SA rk a.toList) (sb:SA rk b.toList) (hx0:1≤x) (hx:x≤a.size) (hy:y≤b.size) (hc:1≤y→kf rk b.toList (y-1)≤kf rk a.toList (x-1)):HiA rk a b (o.push (a[x-1]'(by omega))) (x-1) y:=by
 have e:x=x-1+1:=by omega
 rw[e] at h
 exact h.pa sa sb (by omega) hy hc
theorem HiA.pb1 {rk:Value→Int}{a b o:Array Keyed}{x y:Nat}(h:HiA rk a b o x y) (sa:SA rk a.toList) (sb:SA rk b.toList) (hy0:1≤y) (hx:x≤a.size) (hy:y≤b.size) (hc:1≤x→kf rk a.toList (x-1)≤kf rk b.toList (y-1)):HiA rk a b (o.push (b[y-1]'(by omega))) x (y-1):=by
 have e:y=y-1+1:=by omega
 rw[e] at h
 exact h.pb sa sb (by omega) hx hc
theorem Zf (C:Cmp prog w A s it κ rk){st:SortSt}(hk:kindOf st=κ){a b:Array Keyed}(ha:In it a) (hb:In it b) (za:1≤a.size) (zb:1≤b.size)
  (sa:SA rk a.toList) (sb:SA rk b.toList) (h0:∀ i,i<a.size→kf rk b.toList 0≤kf rk a.toList i) (hl:kf rk b.toList (b.size-1)≤kf rk a.toList (a.size-1))
  {Q:Array Keyed→SortSt→Prop}(h:∀ o st',vv rk a b o→Eqv st st'→Q o st'):wpS (model prog w) A E s (Xv a b) Q st:=by
 refine wpS_bind (wpS_lift (wpAny_rule ⟨rfl,?_⟩))
 refine wpS_bind (t_elem (by omega) ?_)
 have n0:HiA rk a b #[] a.size b.size:=by
  refine⟨?_,SA.nil,fun u hu v hv=>by cases hv⟩
  rw[List.take_of_length_le (by simp),List.take_of_length_le (by simp)]
  simp
 have b0:HiA rk a b #[a[a.size-1]] (a.size-1) b.size:=n0.pa1 sa sb za (Nat.le_refl _) (Nat.le_refl _) fun _=>hl
 dsimp only
 by_cases q1:(a.size-1 == 0)=true
 ·rw[if_pos q1]
  exact wpS_pure (h _ _ (b0.done sa sb (.inl (by simpa using q1))) (Eqv.refl st))
 rw[if_neg q1]
 by_cases q2:(b.size == 1)=true
 ·rw[if_pos q2]
  exact wpS_pure (h _ _ (b0.first sa sb (by simpa using q2) h0) (Eqv.refl st))
 rw[if_neg q2]
 have q1:a.size-1≠0:=fun z=>q1 (by simp[z])
 have q2:b.size≠1:=fun z=>q2 (by simp[z])
 refine wpS_bind (wpS_get ?_)
 refine wpS_bind (wpS_mono (wpS_forRange (I:=fun i c st'=>Eqv st st'∧∃ x y o mg,c=(none,x,y,o,mg)∧HiA rk a b o x y∧1≤x∧x<a.size∧2≤y∧y≤b.size∧i+x+y≤a.size+b.size) (Q:=fun c st'=>Eqv st st'∧∃ r x y o mg,c=(some r,x,y,o,mg)∧vv rk a b r) ?_ ?_ ⟨Eqv.refl st,_,_,_,_,rfl,b0,by omega,by omega,by omega,by omega,by omega⟩) ?_)
 ·rintro i c st1 _ hi ⟨ev,x,y,o,mg,rfl,ho,hx,hx2,hy,hy2,hm⟩
  dsimp only
  refine wpS_bind (wpS_mono (wpS_forRange (I:=fun j c st'=>Eqv st st'∧∃ x y o ca cb,c=(none,x,y,o,ca,cb)∧HiA rk a b o x y∧1≤x∧x<a.size∧2≤y∧y≤b.size∧i+j+x+y≤a.size+b.size) (Q:=fun c st'=>Eqv st st'∧∃ r x y o ca cb,c=(r,x,y,o,ca,cb)∧HiP rk a b (i+1) r o x y) ?_ ?_ ⟨ev,_,_,_,_,_,rfl,ho,hx,hx2,hy,hy2,hm⟩) ?_)
  ·rintro j c st2 _ hj ⟨ev,x,y,o,ca,cb,rfl,ho,hx,hx2,hy,hy2,hm⟩
   dsimp only
   have hx0:=ha.at (i:=x-1) (by omega)
   have hy0:=hb.at (i:=y-1) (by omega)
   have ex:=zX (rk:=rk) (show x-1<a.size by omega)
   have ey:=zX (rk:=rk) (show y-1<b.size by omega)
   refine wpS_bind (t_elem (by omega) (wpS_bind (t_elem (by omega) (wpS_bind (VU C (ev.k.trans hk) hy0 hx0 ?_)))))
   by_cases bw:rk (b[y-1]'(by omega)).1<rk (a[x-1]'(by omega)).1
   ·rw[decide_eq_true bw]
    simp only[if_true]
    refine wpS_bind (t_elem (by omega) ?_)
    have ho':=ho.pa1 sa sb hx (by omega) hy2 fun _=>by omega
    by_cases q3:(x-1 == 0)=true
    ·rw[if_pos q3]
     exact wpS_pure ⟨ev,_,_,_,_,_,_,rfl,ho'.done sa sb (.inl (by simpa using q3))⟩
    ·rw[if_neg q3]
     have q3:x-1≠0:=fun z=>q3 (by simp[z])
     by_cases q4:ca+1≥mg
     ·rw[if_pos q4]
      exact wpS_pure ⟨ev,_,_,_,_,_,_,rfl,ho',by omega,by omega,by omega,by omega,by omega⟩
     ·rw[if_neg q4]
      exact wpS_pure ⟨ev,_,_,_,_,_,rfl,ho',by omega,by omega,by omega,by omega,by omega⟩
   ·rw[decide_eq_false bw]
    simp only[Bool.false_eq_true,if_false]
    refine wpS_bind (t_elem (by omega) ?_)
    have ho':=ho.pb1 sa sb (by omega) (by omega) hy2 fun _=>by omega
    by_cases q3:(y-1 == 1)=true
    ·rw[if_pos q3]
     exact wpS_pure ⟨ev,_,_,_,_,_,_,rfl,ho'.first sa sb (by simpa using q3) h0⟩
    ·rw[if_neg q3]
     have q3:y-1≠1:=fun z=>q3 (by simp[z])
     by_cases q4:cb+1≥mg
     ·rw[if_pos q4]
      exact wpS_pure ⟨ev,_,_,_,_,_,_,rfl,ho',by omega,by omega,by omega,by omega,by omega⟩
     ·rw[if_neg q4]
      exact wpS_pure ⟨ev,_,_,_,_,_,rfl,ho',by omega,by omega,by omega,by omega,by omega⟩
  ·rintro c st2 ⟨ev,x,y,o,ca,cb,rfl,ho,hx,hx2,hy,hy2,hm⟩
   exact⟨ev,_,_,_,_,_,_,rfl,ho,hx,hx2,hy,hy2,by omega⟩
  ·rintro c st2 ⟨ev,r,x,y,o,ca,cb,rfl,hp⟩
   dsimp only
   cases r with
   |some r=>exact wpS_pure ⟨ev,_,_,_,_,_,rfl,hp⟩
   |none =>
    obtain⟨ho,hx,hx2,hy,hy2,hm⟩:=hp
    refine wpS_bind (wpS_lift (wpAny_rule ⟨rfl,?_⟩))
    refine wpS_bind (wpS_mono (wpS_forRange (I:=fun _ c st'=>Eqv st st'∧∃ x y o mg ca cb,c=(none,x,y,o,mg,ca,cb)∧HiA rk a b o x y∧1≤x∧x<a.size∧2≤y∧y≤b.size∧i+1+x+y≤a.size+b.size) (Q:=fun c st'=>Eqv st st'∧∃ r x y o mg ca cb,c=(r,x,y,o,mg,ca,cb)∧HiP rk a b (i+1) r o x y) ?_ ?_ ⟨ev,_,_,_,_,_,_,rfl,ho,hx,hx2,hy,hy2,hm⟩) ?_)
    ·rintro j c st3 _ hj ⟨ev,x,y,o,mg,ca,cb,rfl,ho,hx,hx2,hy,hy2,hm⟩
     dsimp only
     revert mg
     apply jn1
     case k =>
      intro J mg
      by_cases qm:¬ mg>1
      ·rw[if_neg qm]
       exact J mg
      ·rw[if_pos (Decidable.not_not.mp qm)]
       exact J (mg-1)
     case J =>
      intro mg
      refine wpS_bind (t_setMin ev fun st4 ev4=>?_)
      refine wpS_bind (t_elem (by omega) ?_)
      have hy9:y-1<b.size:=by omega
      have ey:=zX (rk:=rk) hy9
      refine wpS_bind (yD C (ev4.k.trans hk) (hb.at (i:=y-1) (by omega)) ha (by omega) (by omega) (fun i j hij hj=>sa.le (by omega) (by rw[Array.length_toList];omega)) fun k hk1 g1 g2=>?_)
      simp only[Bool.false_eq_true,if_false,Nat.zero_add] at g1 g2
      dsimp only
      generalize hn1:x-k=n1
      have HH:=And.intro ho (And.intro hx (And.intro hx2 (And.intro hm (And.intro hk1 (And.intro hn1 (And.intro g1 g2))))))
      clear ho hx hx2 hm hk1 hn1 g1 g2
      revert HH
      revert o x
      refine jn2 (H:=fun x o=>HiA rk a b o x y∧1≤x∧x<a.size∧i+1+x+y≤a.size+b.size∧kf rk a.toList (x-1)≤kf rk b.toList (y-1)) ?_
      apply Exists.intro
      apply And.intro
      case right =>
       intro J x o ⟨ho,hx,hx2,hm,hk1,hn1,g1,g2⟩
       by_cases qk:¬ n1>0
       ·rw[if_neg qk]
        have:=g1 (x-1) (by omega)
        exact J x o ⟨ho,hx,hx2,hm,by omega⟩
       rw[if_pos (Decidable.not_not.mp qk)]
       have ho1:=ho.as (k:=k) sa sb (by omega) (by omega) hy2 fun i hi hi2 _=>by have:=g2 i hi hi2;omega
       by_cases qa:(k == 0)=true
       ·rw[if_pos qa]
        exact wpS_pure ⟨ev4,_,_,_,_,_,_,_,rfl,ho1.done sa sb (.inl (by simpa using qa))⟩
       rw[if_neg qa]
       have qa:k≠0:=fun z=>qa (by simp[z])
       have:=g1 (k-1) (by omega)
       exact J k _ ⟨ho1,by omega,by omega,by omega,by omega⟩
      case left =>
       intro x o ⟨ho,hx,hx2,hm,hc⟩
       refine wpS_bind (t_elem (by omega) ?_)
       have ho2:=ho.pb1 sa sb (by omega) (by omega) hy2 fun _=>hc
       by_cases qc:(y-1 == 1)=true
       ·rw[if_pos qc]
        exact wpS_pure ⟨ev4,_,_,_,_,_,_,_,rfl,ho2.first sa sb (by simpa using qc) h0⟩
       rw[if_neg qc]
       have qc:y-1≠1:=fun z=>qc (by simp[z])
       refine wpS_bind (t_elem (by omega) ?_)
       have hx9:x-1<a.size:=by omega
       have ex:=zX (rk:=rk) hx9
       refine wpS_bind (yD C (ev4.k.trans hk) (ha.at (i:=x-1) (by omega)) hb (by omega) (by omega) (fun i j hij hj=>sb.le (by omega) (by rw[Array.length_toList];omega)) fun k2 hk2 g1 g2=>?_)
       simp only[if_true,Nat.zero_add] at g1 g2
       dsimp only
       have hy1:2≤y-1∧y-1≤b.size∧i+1+x+(y-1)≤a.size+b.size:=⟨by omega,by omega,by omega⟩
       generalize o.push (b[y-1]'(by omega))=o2 at ho2 ⊢
       clear ey hy9 hc
       generalize y-1=y1 at hy1 hk2 ho2 g1 g2 ⊢
       generalize hn2:y1-k2=n2
       have HH:=And.intro ho2 (And.intro hy1 (And.intro hk2 (And.intro hn2 (And.intro g1 g2))))
       clear ho2 hy1 hk2 hn2 g1 g2
       revert HH
       revert o2 y1
       refine jn2 (H:=fun o y=>HiA rk a b o x y∧2≤y∧y≤b.size∧i+1+x+y≤a.size+b.size∧kf rk b.toList (y-1)≤kf rk a.toList (x-1)) ?_
       apply Exists.intro
       apply And.intro
       case right =>
        intro J o2 y1 ⟨ho2,⟨hy1,hy3,hm1⟩,hk2,hn2,g1,g2⟩
        by_cases qk2:¬ n2>0
        ·rw[if_neg qk2]
         have:=g1 (y1-1) (by omega)
         exact J o2 y1 ⟨ho2,hy1,hy3,hm1,by omega⟩
        rw[if_pos (Decidable.not_not.mp qk2)]
        have ho3:=ho2.bs (k:=k2) sa sb (by omega) (by omega) (by omega) fun i hi hi2 _=>by have:=g2 i hi hi2;omega
        by_cases qd:(k2 == 1)=true
        ·rw[if_pos qd]
         exact wpS_pure ⟨ev4,_,_,_,_,_,_,_,rfl,ho3.first sa sb (by simpa using qd) h0⟩
        rw[if_neg qd]
        have qd:k2≠1:=fun z=>qd (by simp[z])
        by_cases qd2:(k2 == 0)=true
        ·rw[if_pos qd2]
         exact wpS_pure ⟨ev4,_,_,_,_,_,_,_,rfl,ho3.done sa sb (.inr (by simpa using qd2))⟩
        rw[if_neg qd2]
        have qd2:k2≠0:=fun z=>qd2 (by simp[z])
        have:=g1 (k2-1) (by omega)
        exact J _ k2 ⟨ho3,by omega,by omega,by omega,by omega⟩
       case left =>
        intro o y ⟨ho,hy,hy2,hm,hc⟩
        refine wpS_bind (t_elem (by omega) ?_)
        have ho4:=ho.pa1 sa sb hx (by omega) hy2 fun _=>hc
        by_cases qe:(x-1 == 0)=true
        ·rw[if_pos qe]
         exact wpS_pure ⟨ev4,_,_,_,_,_,_,_,rfl,ho4.done sa sb (.inl (by simpa using qe))⟩
        rw[if_neg qe]
        have qe:x-1≠0:=fun z=>qe (by simp[z])
        have H:HiA rk a b (o.push (a[x-1]'(by omega))) (x-1) y∧1≤x-1∧x-1<a.size∧2≤y∧y≤b.size∧i+1+(x-1)+y≤a.size+b.size:=⟨ho4,by omega,by omega,hy,hy2,by omega⟩
        split
        ·exact wpS_pure ⟨ev4,_,_,_,_,_,_,_,rfl,H⟩
        ·exact wpS_pure ⟨ev4,_,_,_,_,_,_,rfl,H⟩
    ·rintro c st3 ⟨ev,x,y,o,mg,ca,cb,rfl,ho,hx,hx2,hy,hy2,hm⟩
     exact⟨ev,_,_,_,_,_,_,_,rfl,ho,hx,hx2,hy,hy2,hm⟩
    ·rintro c st3 ⟨ev,r,x,y,o,mg,ca,cb,rfl,hp⟩
     dsimp only
     cases r with
     |some r=>exact wpS_pure ⟨ev,_,_,_,_,_,rfl,hp⟩
     |none =>
      obtain⟨ho,hx,hx2,hy,hy2,hm⟩:=hp
      refine wpS_bind (t_setMin ev fun st4 ev4=>?_)
      exact wpS_pure ⟨ev4,_,_,_,_,rfl,ho,hx,hx2,hy,hy2,hm⟩
 ·rintro c st1 ⟨ev,x,y,o,mg,rfl,ho,hx,hx2,hy,hy2,hm⟩
  omega
 ·rintro c st1 ⟨ev,r,x,y,o,mg,rfl,hr⟩
  exact wpS_pure (h r st1 hr ev)
end
section
variable {prog:Program}{w:World}{A:Around}{E:Value→Shared→Prop}{s:Shared}{it T:List Keyed}{κ:SortKind}{n:Nat}{rk:Value→Int}
structure TB (it T:List Keyed) (κ:SortKind) (n:Nat) (st:SortSt):Prop where
 z:(arrOf st).size=n
 p:(arrOf st).toList.Perm T
 i:In it (arrOf st)
 k:kindOf st=κ
 f:failedOf st=none
theorem TB.perm {st:SortSt}(t:TB it T κ n st){xs:Array Keyed}(p:xs.Perm (arrOf st)):TB it T κ n (setArr st xs) :=
 ⟨p.size_eq.trans t.z,(Array.perm_iff_toList_perm.mp p).trans t.p,fun x hx=>t.i x (Array.mem_def.mpr ((Array.perm_iff_toList_perm.mp p).mem_iff.mp (Array.mem_def.mp hx))),t.k,t.f⟩
def ks (rk:Value→Int) (st:SortSt) (i:Nat):Int:=kf rk (arrOf st).toList i
theorem Yk {st st':SortSt}{i j:Nat}(h:(arrOf st')[i]?=(arrOf st)[j]?):ks rk st' i=ks rk st j:=by
 unfold ks kf
 rw[Array.getElem?_toList,Array.getElem?_toList,h]
def Sg (rk:Value→Int) (st:SortSt) (lo hi:Nat):Prop:=∀ i j,lo≤i→i≤j→j<hi→ks rk st i≤ks rk st j
theorem t_ltAt (C:Cmp prog w A s it κ rk){st:SortSt}(t:TB it T κ n st){i j:Nat}(hi:i<n) (hj:j<n){Q:Option Bool→SortSt→Prop}(h:Q (some (decide (ks rk st i<ks rk st j))) st):wpS (model prog w) A E s (ltAt' i j) Q st:=by
 rw[ltAt'_eq]
 refine wpS_bind (wpS_get ?_)
 have hi:i<(arrOf st).size:=by rw[t.z];exact hi
 have hj:j<(arrOf st).size:=by rw[t.z];exact hj
 refine wpS_bind (t_elem hi (wpS_bind (t_elem hj (VU C t.k (t.i.at hi) (t.i.at hj) ?_))))
 rw[zX (rk:=rk) hi,zX (rk:=rk) hj]
 exact h
structure Od (rk:Value→Int) (it T:List Keyed) (κ:SortKind) (n:Nat) (p:Array (Nat×Nat×Nat)) (lo:Nat) (f:Nat→Int) (st:SortSt):Prop where
 t:TB it T κ n st
 p:pendingOf st=p
 l:∀ i,i<lo→ks rk st i=f i
variable {p:Array (Nat×Nat×Nat)}{lo:Nat}{f:Nat→Int}
theorem t_rev {st:SortSt}(o:Od rk it T κ n p lo f st){i j:Nat}(hi:lo≤i) (hj:j≤n){Q:Unit→SortSt→Prop}(h:∀ st',Od rk it T κ n p lo f st'→(∀ k,ks rk st' k=if i≤k∧k<j then ks rk st (i+j-1-k) else ks rk st k)→Q () st'):wpS (model prog w) A E s (reverseSlice' i j) Q st:=by
 rw[reverseSlice'_eq]
 have hk:∀ k,ks rk (setArr st (mirror (arrOf st) i j ((j-i)/2))) k=if i≤k∧k<j then ks rk st (i+j-1-k) else ks rk st k:=fun k=>by
  have e:=getElem?_mirror_all (xs:=arrOf st) (i:=i) (j:=j) (by rw[o.t.z];exact hj) k
  by_cases q:i≤k∧k<j
  ·rw[if_pos q] at e ⊢
   exact Yk e
  ·rw[if_neg q] at e ⊢
   exact Yk e
 refine wpS_modify (h _ ⟨o.t.perm (mirror_perm _ _ _ _),o.p,fun k hk'=>?_⟩ hk)
 rw[hk k,if_neg (by omega)]
 exact o.l k hk'
theorem t_move {st:SortSt}(o:Od rk it T κ n p lo f st){i j:Nat}(hj:lo≤j) (hji:j≤i) (hi:i<n){Q:Unit→SortSt→Prop}(h:∀ st',Od rk it T κ n p lo f st'→(∀ k,ks rk st' k=if k=j then ks rk st i else if j<k∧k≤i then ks rk st (k-1) else ks rk st k)→Q () st'):wpS (model prog w) A E s (moveDown' i j) Q st:=by
 rw[moveDown'_eq]
 have hk:∀ k,ks rk (setArr st (bubble (arrOf st) i (i-j))) k=if k=j then ks rk st i else if j<k∧k≤i then ks rk st (k-1) else ks rk st k:=fun k=>by
  have e:=getElem?_bubble (xs:=arrOf st) (src:=i) (by rw[o.t.z];exact hi) (i-j) (by omega) k
  rw[show i-(i-j)=j by omega] at e
  by_cases q:k=j
  ·rw[if_pos q] at e ⊢
   exact Yk e
  ·rw[if_neg q] at e ⊢
   by_cases q2:j<k∧k≤i
   ·rw[if_pos q2] at e ⊢
    exact Yk e
   ·rw[if_neg q2] at e ⊢
    exact Yk e
 refine wpS_modify (h _ ⟨o.t.perm (bubble_perm _ _ _),o.p,fun k hk'=>?_⟩ hk)
 rw[hk k,if_neg (by omega),if_neg (by omega)]
 exact o.l k hk'
theorem zbG (C:Cmp prog w A s it κ rk){st:SortSt}(o:Od rk it T κ n p lo f st){m ok:Nat}(hm:lo+m≤n) (hok:ok≤m) (hm1:1≤m) (sg:Sg rk st lo (lo+ok)){Q:Bool→SortSt→Prop}(h:∀ st',Od rk it T κ n p lo f st'→Sg rk st' lo (lo+m)→Q true st'):wpS (model prog w) A E s (binarySort' lo m ok) Q st:=by
 rw[binarySort'_eq]
 refine wpS_bind (wpS_mono (wpS_forRange (I:=fun k c st'=>c=(none,())∧Od rk it T κ n p lo f st'∧Sg rk st' lo (lo+k)) (Q:=fun c st'=>c=(none,())∧Od rk it T κ n p lo f st'∧Sg rk st' lo (lo+m)) ?_ ?_ ⟨rfl,o,?_⟩) ?_)
 ·rintro k c st1 hk1 hk ⟨rfl,o1,sg1⟩
  dsimp only
  refine wpS_bind (wpS_mono (wpS_forRange (I:=fun jj c st'=>st'=st1∧∃ l r,c=(none,l,r)∧l≤r∧r≤k∧r≤l+(k-jj)∧(∀ i,i<l→ks rk st1 (lo+i)≤ks rk st1 (lo+k))∧(∀ i,r≤i→i<k→ks rk st1 (lo+k)≤ks rk st1 (lo+i))) (Q:=fun c st'=>st'=st1∧∃ l r,c=(none,l,r)∧l≤k∧(∀ i,i<l→ks rk st1 (lo+i)≤ks rk st1 (lo+k))∧(∀ i,l≤i→i<k→ks rk st1 (lo+k)≤ks rk st1 (lo+i))) ?_ ?_ ⟨rfl,_,_,rfl,by omega,Nat.le_refl _,by omega,fun i hi=>by omega,fun i h1 h2=>by omega⟩) ?_)
  ·rintro j c st2 _ hj ⟨rfl,l,r,rfl,hlr,hr,hf,g1,g2⟩
   dsimp only
   by_cases q:l≥r
   ·rw[if_pos q]
    exact wpS_pure ⟨rfl,_,_,rfl,by omega,g1,fun i h1 h2=>g2 i (by omega) h2⟩
   ·rw[if_neg q]
    refine wpS_bind (t_ltAt C o1.t (by omega) (by omega) ?_)
    by_cases z:ks rk st2 (lo+k)<ks rk st2 (lo+(l+r)/2)
    ·rw[decide_eq_true z]
     refine wpS_pure ⟨rfl,_,_,rfl,by omega,by omega,by omega,g1,fun i h1 h2=>?_⟩
     have:=sg1 (lo+(l+r)/2) (lo+i) (by omega) (by omega) (by omega)
     omega
    ·rw[decide_eq_false z]
     refine wpS_pure ⟨rfl,_,_,rfl,by omega,by omega,by omega,fun i h1=>?_,g2⟩
     have:=sg1 (lo+i) (lo+(l+r)/2) (by omega) (by omega) (by omega)
     omega
  ·rintro c st2 ⟨rfl,l,r,rfl,hlr,hr,hf,g1,g2⟩
   have e:max 0 k=k:=by omega
   rw[e] at hf
   exact⟨rfl,_,_,rfl,by omega,g1,fun i h1 h2=>g2 i (by omega) h2⟩
  ·rintro c st2 ⟨rfl,l,r,rfl,hl,g1,g2⟩
   dsimp only
   refine wpS_bind (t_move o1 (by omega) (by omega) (by omega) fun st3 o3 e3=>wpS_pure ⟨rfl,o3,fun i j h1 h2 h3=>?_⟩)
   rw[e3 i,e3 j]
   have ge:∀ x,lo≤x→x<lo+l→ks rk st2 x≤ks rk st2 (lo+k):=fun x a1 a2=>by
    have:=g1 (x-lo) (by omega)
    rw[show lo+(x-lo)=x by omega] at this
    exact this
   have le:∀ x,lo+l≤x→x<lo+k→ks rk st2 (lo+k)≤ks rk st2 x:=fun x a1 a2=>by
    have:=g2 (x-lo) (by omega) (by omega)
    rw[show lo+(x-lo)=x by omega] at this
    exact this
   by_cases c1:i=lo+l
   ·rw[if_pos c1]
    by_cases c2:j=lo+l
    ·rw[if_pos c2];exact Int.le_refl _
    ·rw[if_neg c2,if_pos (by omega)]
     exact le (j-1) (by omega) (by omega)
   ·rw[if_neg c1]
    by_cases c3:lo+l<i∧i≤lo+k
    ·rw[if_pos c3,if_neg (by omega),if_pos (by omega)]
     exact sg1 _ _ (by omega) (by omega) (by omega)
    ·rw[if_neg c3]
     by_cases c2:j=lo+l
     ·rw[if_pos c2]
      exact ge i h1 (by omega)
     ·rw[if_neg c2]
      by_cases c4:lo+l<j∧j≤lo+k
      ·rw[if_pos c4]
       exact sg1 _ _ h1 (by omega) (by omega)
      ·rw[if_neg c4]
       exact sg1 _ _ h1 h2 (by omega)
 ·rintro c st' ⟨rfl,o1,sg1⟩
  refine⟨rfl,o1,?_⟩
  rw[show max (max ok 1) m=m by omega] at sg1
  exact sg1
 ·intro i j h1 h2 h3
  by_cases q:ok=0
  ·have:i=j:=by omega
   rw[this]
   exact Int.le_refl _
  ·exact sg i j h1 h2 (by omega)
 ·rintro c st1 ⟨rfl,o1,sg1⟩
  exact wpS_pure (h st1 o1 sg1)
def Dn (rk:Value→Int) (st:SortSt) (lo m g:Nat):Prop:=(∀ i j,lo≤i→i≤j→j<lo+m→ks rk st j≤ks rk st i)∧g+1≤m∧∀ i,lo+m≤i+g+1→i<lo+m→ks rk st i=ks rk st (lo+m-1)
theorem zev (C:Cmp prog w A s it κ rk){st:SortSt}(o:Od rk it T κ n p lo f st){m k:Nat}(hm:lo+m≤n) (hk1:1≤k) (hk:k≤m) (sg:Sg rk st lo (lo+k)){c0:Option (Option Nat)×Nat}(hc:c0=(none,k)){g:Nat→Option (Option Nat)×Nat→StateT SortSt Sem (ForInStep (Option (Option Nat)×Nat))}
  (hg:∀ (x i:Nat) (R:ForInStep (Option (Option Nat)×Nat)→SortSt→Prop),1≤i→i<m→(ks rk st (lo+i)<ks rk st (lo+i-1)→R (.done (none,i)) st)→(¬ ks rk st (lo+i)<ks rk st (lo+i-1)→R (.yield (none,i+1)) st)→wpS (model prog w) A E s (g x (none,i)) R st){Q:Option (Option Nat)×Nat→SortSt→Prop}
  (h:∀ j,k≤j→j≤m→Sg rk st lo (lo+j)→(j=m∨ks rk st (lo+j)<ks rk st (lo+j-1))→Q (none,j) st):wpS (model prog w) A E s (forIn [k:m] c0 g) Q st:=by
 subst hc
 refine wpS_mono (wpS_forRange (I:=fun i c st'=>st'=st∧c=(none,i)∧Sg rk st lo (lo+i)) (Q:=fun c st'=>st'=st∧∃ j,c=(none,j)∧k≤j∧j≤m∧Sg rk st lo (lo+j)∧(j=m∨ks rk st (lo+j)<ks rk st (lo+j-1))) ?_ ?_ ⟨rfl,rfl,sg⟩) ?_
 ·rintro i c st1 hi1 hi ⟨rfl,rfl,sg1⟩
  refine hg i i _ (by omega) hi (fun z=>⟨rfl,i,rfl,hi1,by omega,sg1,.inr z⟩) fun z=>⟨rfl,rfl,fun a b h1 h2 h3=>?_⟩
  by_cases e:b=lo+i
  ·subst e
   by_cases e2:a=lo+i
   ·subst e2;exact Int.le_refl _
   ·have:=sg1 a (lo+i-1) h1 (by omega) (by omega)
    omega
  ·exact sg1 a b h1 h2 (by omega)
 ·rintro c st1 ⟨rfl,rfl,sg1⟩
  rw[show max k m=m by omega] at sg1 ⊢
  exact⟨rfl,m,rfl,hk,Nat.le_refl _,sg1,.inl rfl⟩
 ·rintro c st1 ⟨rfl,j,rfl,h1,h2,h3,h4⟩
  exact h j h1 h2 h3 h4
theorem jn3 {α:Type}{H:α→Prop}{G:Prop}(h:∃ P:α→Prop,(∀ m,H m→P m)∧((∀ m,H m→P m)→G)):G:=by
 obtain⟨P,J,k⟩:=h
 exact k J
theorem WE (C:Cmp prog w A s it κ rk){st:SortSt}(o:Od rk it T κ n p lo f st){m:Nat}(h1:1≤m) (hm:lo+m≤n){Q:Option Nat→SortSt→Prop}(h:∀ k st',1≤k→k≤m→Od rk it T κ n p lo f st'→Sg rk st' lo (lo+k)→Q (some k) st'):wpS (model prog w) A E s (countRun' lo m) Q st:=by
 rw[countRun'_eq]
 refine wpS_bind (zev C o hm (Nat.le_refl _) h1 (fun i j a b c=>by rw[show i=j by omega];exact Int.le_refl _) rfl (fun x i R i1 i2 y1 y2=>wpS_bind (t_ltAt C o.t (by omega) (by omega) (by
  dsimp only
  by_cases z:ks rk st (lo+i)<ks rk st (lo+i-1)
  ·rw[decide_eq_true z]
   exact wpS_pure (y1 z)
  ·rw[decide_eq_false z]
   exact wpS_pure (y2 z)))) fun k k1 k2 sg k3=>?_)
 dsimp only
 by_cases q:(k == m)=true
 ·rw[if_pos q]
  exact wpS_pure (h k st k1 k2 o sg)
 rw[if_neg q]
 have q:k≠m:=fun z=>q (by simp[z])
 have k3:ks rk st (lo+k)<ks rk st (lo+k-1):=k3.resolve_left q
 refine jn3 (H:=fun st2=>Od rk it T κ n p lo f st2∧Dn rk st2 lo (k+1) 0) ?_
 apply Exists.intro
 apply And.intro
 case right =>
  intro J
  by_cases qk:k>1
  ·rw[if_pos qk]
   refine wpS_bind (t_ltAt C o.t (by omega) (by omega) ?_)
   by_cases z:ks rk st lo<ks rk st (lo+k-1)
   ·rw[decide_eq_true z]
    exact wpS_pure (h k st k1 k2 o sg)
   ·rw[decide_eq_false z]
    simp only[Bool.false_eq_true,if_false]
    refine wpS_bind (t_rev o (by omega) (by omega) fun st2 o2 e2=>J st2 ⟨o2,fun i j a1 a2 a3=>?_,by omega,fun i a1 a2=>by rw[show i=lo+(k+1)-1 by omega]⟩)
    have eq:∀ x,lo≤x→x<lo+k→ks rk st x=ks rk st lo:=fun x b1 b2=>by
     have c1:=sg lo x (Nat.le_refl _) b1 b2
     have c2:=sg x (lo+k-1) b1 (by omega) (by omega)
     omega
    have eq2:∀ x,lo≤x→x<lo+k→ks rk st2 x=ks rk st lo:=fun x b1 b2=>by
     rw[e2 x,if_pos ⟨b1,b2⟩]
     exact eq _ (by omega) (by omega)
    have e4:ks rk st2 (lo+k)=ks rk st (lo+k):=by rw[e2,if_neg (by omega)]
    have e5:=eq (lo+k-1) (by omega) (by omega)
    by_cases c:j=lo+k
    ·subst c
     by_cases c2:i=lo+k
     ·subst c2;exact Int.le_refl _
     ·rw[e4,eq2 i a1 (by omega)]
      omega
    ·rw[eq2 j (by omega) (by omega),eq2 i a1 (by omega)]
     exact Int.le_refl _
  ·rw[if_neg qk]
   have:k=1:=by omega
   subst this
   refine J st ⟨o,fun i j a1 a2 a3=>?_,by omega,fun i a1 a2=>by rw[show i=lo+(1+1)-1 by omega]⟩
   rcases Nat.lt_or_eq_of_le a2 with c | c
   ·rw[show i=lo by omega,show j=lo+1 by omega]
    rw[Nat.add_sub_cancel] at k3
    omega
   ·subst c;exact Int.le_refl _
 case left =>
  intro st2 ⟨o2,d2⟩
  refine wpS_bind (wpS_lift (wpAny_rule ⟨rfl,?_⟩))
  refine wpS_bind (wpS_mono (wpS_forRange (I:=fun i c st'=>Od rk it T κ n p lo f st'∧∃ g,c=(none,i,g)∧Dn rk st' lo i g) (Q:=fun c st'=>Od rk it T κ n p lo f st'∧∃ j g,c=(none,j,g)∧k+1≤j∧j≤m∧Dn rk st' lo j g) ?_ ?_ ⟨o2,_,rfl,d2⟩) ?_)
  ·rintro i c st3 hi1 hi ⟨o3,g,rfl,⟨d1,d2,d3⟩⟩
   dsimp only
   refine wpS_bind (t_ltAt C o3.t (by omega) (by omega) ?_)
   by_cases z:ks rk st3 (lo+i)<ks rk st3 (lo+i-1)
   ·rw[decide_eq_true z]
    simp only[if_true]
    by_cases qg:g>0
    ·rw[if_pos qg]
     refine wpS_bind (t_rev o3 (by omega) (by omega) fun st4 o4 e4=>wpS_pure ⟨o4,_,rfl,?_⟩)
     have same:∀ x,lo≤x→x<n→ks rk st4 x=ks rk st3 x:=fun x b1 b2=>by
      rw[e4 x]
      by_cases c:lo+i-(g+1)≤x∧x<lo+i
      ·rw[if_pos c,d3 (lo+i-(g+1)+(lo+i)-1-x) (by omega) (by omega),d3 x (by omega) (by omega)]
      ·rw[if_neg c]
     refine⟨fun a b a1 a2 a3=>?_,by omega,fun x a1 a2=>by rw[show x=lo+(i+1)-1 by omega]⟩
     rw[same a a1 (by omega),same b (by omega) (by omega)]
     by_cases c:b=lo+i
     ·subst c
      by_cases c2:a=lo+i
      ·subst c2;exact Int.le_refl _
      ·have:=d1 a (lo+i-1) a1 (by omega) (by omega)
       omega
     ·exact d1 a b a1 a2 (by omega)
    ·rw[if_neg qg]
     refine wpS_pure ⟨o3,_,rfl,fun a b a1 a2 a3=>?_,by omega,fun x a1 a2=>by rw[show x=lo+(i+1)-1 by omega]⟩
     by_cases c:b=lo+i
     ·subst c
      by_cases c2:a=lo+i
      ·subst c2;exact Int.le_refl _
      ·have:=d1 a (lo+i-1) a1 (by omega) (by omega)
       omega
     ·exact d1 a b a1 a2 (by omega)
   ·rw[decide_eq_false z]
    simp only[Bool.false_eq_true,if_false]
    refine wpS_bind (t_ltAt C o3.t (by omega) (by omega) ?_)
    by_cases z2:ks rk st3 (lo+i-1)<ks rk st3 (lo+i)
    ·rw[decide_eq_true z2]
     exact wpS_pure ⟨o3,_,_,rfl,hi1,by omega,d1,d2,d3⟩
    ·rw[decide_eq_false z2]
     refine wpS_pure ⟨o3,_,rfl,fun a b a1 a2 a3=>?_,by omega,fun x a1 a2=>?_⟩
     ·by_cases c:b=lo+i
      ·subst c
       by_cases c2:a=lo+i
       ·subst c2;exact Int.le_refl _
       ·have:=d1 a (lo+i-1) a1 (by omega) (by omega)
        omega
      ·exact d1 a b a1 a2 (by omega)
     ·rw[show lo+(i+1)-1=lo+i by omega]
      by_cases c:x=lo+i
      ·rw[c]
      ·have:=d3 x (by omega) (by omega)
       omega
  ·rintro c st3 ⟨o3,g,rfl,d3⟩
   rw[show max (k+1) m=m by omega] at d3 ⊢
   exact⟨o3,_,_,rfl,by omega,Nat.le_refl _,d3⟩
  ·rintro c st3 ⟨o3,j,g,rfl,j1,j2,d3⟩
   dsimp only
   refine jn3 (H:=fun st4=>Od rk it T κ n p lo f st4∧∀ i j',lo≤i→i≤j'→j'<lo+j→ks rk st4 j'≤ks rk st4 i) ?_
   apply Exists.intro
   apply And.intro
   case right =>
    intro J
    by_cases qg:g>0
    ·rw[if_pos qg]
     refine wpS_bind (t_rev o3 (by have:=d3.2.1;omega) (by omega) fun st4 o4 e4=>J st4 ⟨o4,fun a b a1 a2 a3=>?_⟩)
     have same:∀ x,lo≤x→x<n→ks rk st4 x=ks rk st3 x:=fun x b1 b2=>by
      have:=d3.2.1
      rw[e4 x]
      by_cases c:lo+j-(g+1)≤x∧x<lo+j
      ·rw[if_pos c,d3.2.2 (lo+j-(g+1)+(lo+j)-1-x) (by omega) (by omega),d3.2.2 x (by omega) (by omega)]
      ·rw[if_neg c]
     rw[same a a1 (by omega),same b (by omega) (by omega)]
     exact d3.1 a b a1 a2 a3
    ·rw[if_neg qg]
     exact J st3 ⟨o3,d3.1⟩
   case left =>
    intro st4 ⟨o4,d4⟩
    refine wpS_bind (t_rev o4 (by omega) (by omega) fun st5 o5 e5=>?_)
    have sg5:Sg rk st5 lo (lo+j):=fun a b a1 a2 a3=>by
     rw[e5 a,e5 b,if_pos ⟨a1,by omega⟩,if_pos ⟨by omega,a3⟩]
     exact d4 _ _ (by omega) (by omega) (by omega)
    refine wpS_bind (zev C o5 hm (by omega) j2 sg5 rfl (fun x i R i1 i2 y1 y2=>wpS_bind (t_ltAt C o5.t (by omega) (by omega) (by
     dsimp only
     by_cases z:ks rk st5 (lo+i)<ks rk st5 (lo+i-1)
     ·rw[decide_eq_true z]
      exact wpS_pure (y1 z)
     ·rw[decide_eq_false z]
      exact wpS_pure (y2 z)))) fun k' b1 b2 b3 b4=>?_)
    exact wpS_pure (h k' st5 (by omega) b2 o5 b3)
theorem Sg.sa {st:SortSt}(h:Sg rk st 0 (arrOf st).size):SA rk (arrOf st).toList:=SA.of fun i j hij hj=>h i j (Nat.zero_le _) (by omega) (by simpa using hj)
theorem sets_get:∀ (l:List Keyed) (s b:Nat) (a:Array Keyed) (i:Nat),b+s+l.length≤a.size→((l.zipIdx s).foldl (fun a (q,j)=>a.setIfInBounds (b+j) q) a)[i]?=if b+s≤i∧i<b+s+l.length then l[i-(b+s)]? else a[i]?
 |[],s,b,a,i,h=>by
  rw[if_neg (by simp)]
  rfl
 |q::l,s,b,a,i,h=>by
  rw[List.length_cons] at h
  rw[List.zipIdx_cons,List.foldl_cons,sets_get l (s+1) b _ i (by rw[Array.size_setIfInBounds];omega)]
  rw[Array.getElem?_setIfInBounds]
  by_cases c:b+s=i
  ·subst c
   rw[if_neg (by omega),if_pos rfl,if_pos (by omega),if_pos (by rw[List.length_cons];omega),Nat.sub_self]
   rfl
  ·rw[if_neg c]
   by_cases d:b+(s+1)≤i∧i<b+(s+1)+l.length
   ·rw[if_pos d,if_pos (by rw[List.length_cons];omega)]
    rw[show i-(b+s)=(i-(b+(s+1)))+1 by omega,List.getElem?_cons_succ]
   ·rw[if_neg d,if_neg (by rw[List.length_cons];omega)]
theorem ZV (l:List Keyed) (b:Nat) (a:Array Keyed) (h:b+l.length≤a.size):(l.zipIdx.foldl (fun a (q,j)=>a.setIfInBounds (b+j) q) a).toList=a.toList.take b++l++a.toList.drop (b+l.length):=by
 apply List.ext_getElem?
 intro i
 rw[Array.getElem?_toList,sets_get l 0 b a i h,Nat.add_zero]
 have lt:(a.toList.take b).length=b:=by rw[List.length_take,Array.length_toList];omega
 by_cases c:i<b
 ·rw[if_neg (by omega),List.append_assoc,List.getElem?_append_left (by omega),List.getElem?_take_of_lt c,Array.getElem?_toList]
 ·by_cases d:i<b+l.length
  ·rw[if_pos (by omega),List.append_assoc,List.getElem?_append_right (by omega),lt,List.getElem?_append_left (by omega)]
  ·rw[if_neg (by omega),List.getElem?_append_right (by rw[List.length_append];omega),List.length_append,lt,List.getElem?_drop,Array.getElem?_toList]
   congr 1
   omega
theorem zbE {x st:SortSt}{Q:PUnit→SortSt→Prop}(h:Q ⟨⟩ x):wpS (model prog w) A E s (set x:StateT SortSt Sem PUnit) Q st:=by
 unfold wpS
 rw[StateT.run_set]
 exact wpAny_pure ⟨rfl,h⟩
theorem Zg (C:Cmp prog w A s it κ rk){st:SortSt}(t:TB it T κ n st){n1 p1 p2:Nat}(hp:pendingOf st = #[(0,n1,p1),(n1,n-n1,p2)]) (h1:1≤n1) (h2:n1<n) (sg1:Sg rk st 0 n1) (sg2:Sg rk st n1 n){Q:Bool→SortSt→Prop}
  (h:∀ st',TB it T κ n st'→pendingOf st' = #[(0,n,p1)]→Sg rk st' 0 n→Q true st'):wpS (model prog w) A E s (mergeAt' 0) Q st:=by
 refine wpS_bind (wpS_get ?_)
 have hq:=hp
 unfold pendingOf at hq
 rw[hq]
 have e0 : #[(0,n1,p1),(n1,n-n1,p2)][0]?=some (0,n1,p1):=rfl
 have e1 : #[(0,n1,p1),(n1,n-n1,p2)][0+1]?=some (n1,n-n1,p2):=rfl
 rw[e0,e1]
 dsimp only
 have ep:(#[(0,n1,p1),(n1,n-n1,p2)].setIfInBounds 0 (0,n1+(n-n1),p1)).eraseIdxIfInBounds (0+1) = #[(0,n,p1)]:=by
  rw[show n1+(n-n1)=n by omega]
  apply Array.toList_inj.mp
  simp[Array.setIfInBounds,Array.eraseIdxIfInBounds]
 rw[ep]
 refine wpS_bind (zbE ?_)
 have t2:TB it T κ n (setPending st #[(0,n,p1)]):=⟨t.z,t.p,t.i,t.k,t.f⟩
 have hz:=t.z
 have hn1:n1<(arrOf st).size:=by omega
 refine wpS_bind (t_elem hn1 ?_)
 have en1:=zX (rk:=rk) hn1
 refine wpS_bind (yD C t2.k (t.i.at hn1) t.i (by omega) (by omega) (fun i j hij hj=>by rw[Nat.zero_add,Nat.zero_add];exact sg1 i j (Nat.zero_le _) hij hj) fun k hk1 g1 g2=>?_)
 simp only[Bool.false_eq_true,if_false,Nat.zero_add] at g1 g2
 rw[en1] at g1 g2
 dsimp only
 by_cases q1:(n1-k == 0)=true
 ·rw[if_pos q1]
  have q1:n1-k=0:=by simpa using q1
  refine wpS_pure (h _ t2 rfl fun i j _ hij hj=>?_)
  show ks rk st i≤ks rk st j
  by_cases c:j<n1
  ·exact sg1 i j (Nat.zero_le _) hij c
  ·by_cases d:i<n1
   ·have:=g1 i (by omega)
    have:=sg2 n1 j (Nat.le_refl _) (by omega) hj
    unfold ks at this ⊢
    omega
   ·exact sg2 i j (by omega) hij hj
 rw[if_neg q1]
 have q1:n1-k≠0:=fun z=>q1 (by simp[z])
 have hn2:0+k+(n1-k)-1<(arrOf st).size:=by omega
 refine wpS_bind (t_elem hn2 ?_)
 have en2:=zX (rk:=rk) hn2
 refine wpS_bind (yD C t2.k (t.i.at hn2) t.i (by omega) (by omega) (fun i j hij hj=>sg2 _ _ (by omega) (by omega) (by omega)) fun m hm1 g3 g4=>?_)
 simp only[if_true] at g3 g4
 rw[en2,show 0+k+(n1-k)-1=n1-1 by omega] at g3 g4
 dsimp only
 by_cases q2:(m == 0)=true
 ·rw[if_pos q2]
  have q2:m=0:=by simpa using q2
  refine wpS_pure (h _ t2 rfl fun i j _ hij hj=>?_)
  show ks rk st i≤ks rk st j
  by_cases c:j<n1
  ·exact sg1 i j (Nat.zero_le _) hij c
  ·by_cases d:i<n1
   ·have a1:=g4 (j-n1) (by omega) (by omega)
    rw[show n1+(j-n1)=j by omega] at a1
    have a2:=sg1 i (n1-1) (Nat.zero_le _) (by omega) (by omega)
    unfold ks at a2 ⊢
    omega
   ·exact sg2 i j (by omega) hij hj
 rw[if_neg q2]
 have q2:m≠0:=fun z=>q2 (by simp[z])
 have lL:(arrOf st).toList.length=n:=by rw[Array.length_toList];exact hz
 have ea:((arrOf st).extract (0+k) n1).toList=((arrOf st).toList.drop k).take (n1-k):=by rw[Nat.zero_add];exact VB _ _ _
 have eb:((arrOf st).extract n1 (n1+m)).toList=((arrOf st).toList.drop n1).take m:=VC _ _ _
 have ka:∀ i,i<n1-k→kf rk (((arrOf st).toList.drop k).take (n1-k)) i=kf rk (arrOf st).toList (k+i):=fun i hi=>by
  unfold kf
  rw[List.getElem?_take_of_lt hi,List.getElem?_drop]
 have kb:∀ i,i<m→kf rk (((arrOf st).toList.drop n1).take m) i=kf rk (arrOf st).toList (n1+i):=fun i hi=>by
  unfold kf
  rw[List.getElem?_take_of_lt hi,List.getElem?_drop]
 have la:(((arrOf st).toList.drop k).take (n1-k)).length=n1-k:=by rw[List.length_take,List.length_drop];omega
 have lb:(((arrOf st).toList.drop n1).take m).length=m:=by rw[List.length_take,List.length_drop];omega
 have sa:SA rk ((arrOf st).extract (0+k) n1).toList:=by
  rw[ea]
  refine SA.of fun i j hij hj=>?_
  rw[la] at hj
  rw[ka i (by omega),ka j hj]
  exact sg1 _ _ (Nat.zero_le _) (by omega) (by omega)
 have sb:SA rk ((arrOf st).extract n1 (n1+m)).toList:=by
  rw[eb]
  refine SA.of fun i j hij hj=>?_
  rw[lb] at hj
  rw[kb i (by omega),kb j hj]
  exact sg2 _ _ (by omega) (by omega) (by omega)
 have za:((arrOf st).extract (0+k) n1).size=n1-k:=by rw[← Array.length_toList,ea,la]
 have zb:((arrOf st).extract n1 (n1+m)).size=m:=by rw[← Array.length_toList,eb,lb]
 have fin:∀ (o:Array Keyed) (st3:SortSt),vv rk ((arrOf st).extract (0+k) n1) ((arrOf st).extract n1 (n1+m)) o→Eqv (setPending st #[(0,n,p1)]) st3→TB it T κ n (setArr st3 (o.toList.zipIdx.foldl (fun a (q,j)=>a.setIfInBounds (0+k+j) q) (arrOf st3)))∧Sg rk (setArr st3 (o.toList.zipIdx.foldl (fun a (q,j)=>a.setIfInBounds (0+k+j) q) (arrOf st3))) 0 n:=fun o st3 ⟨po,so⟩ ev=>by
  rw[ea,eb] at po
  have hf:failedOf st3=none:=ev.f.trans t.f
  have ha:arrOf st3=arrOf st:=ev.a
  have lo:o.toList.length=n1-k+m:=by rw[po.length_eq,List.length_append,la,lb]
  have el:=ZV o.toList (0+k) (arrOf st3) (by rw[ha,lo];omega)
  rw[ha,lo,show 0+k+(n1-k+m)=n1+m by omega,Nat.zero_add] at el
  have el2:(o.toList.zipIdx.foldl (fun a (q,j)=>a.setIfInBounds (0+k+j) q) (arrOf st3)).toList=(arrOf st).toList.take k++o.toList++(arrOf st).toList.drop (n1+m):=by
   rw[ha,Nat.zero_add]
   exact el
  have perm:((arrOf st).toList.take k++o.toList++(arrOf st).toList.drop (n1+m)).Perm (arrOf st).toList:=by
   have e3:(arrOf st).toList=(arrOf st).toList.take k++(((arrOf st).toList.drop k).take (n1-k)++((arrOf st).toList.drop n1).take m)++(arrOf st).toList.drop (n1+m):=by
    have a1:(arrOf st).toList.take k++((arrOf st).toList.drop k).take (n1-k)=(arrOf st).toList.take n1:=(xg hk1).symm
    have a2:(arrOf st).toList.take n1++((arrOf st).toList.drop n1).take m=(arrOf st).toList.take (n1+m):=by rw[List.take_add]
    rw[← List.append_assoc,a1,a2,List.take_append_drop]
   exact(List.Perm.append_right _ (List.Perm.append_left _ po)).trans (List.Perm.of_eq e3.symm)
  have size:(o.toList.zipIdx.foldl (fun a (q,j)=>a.setIfInBounds (0+k+j) q) (arrOf st3)).size=n:=by
   rw[← Array.length_toList,el2,perm.length_eq,lL]
  refine⟨⟨size,?_,fun x hx=>?_,ev.k.trans t.k,hf⟩,?_⟩
  ·show(o.toList.zipIdx.foldl (fun a (q,j)=>a.setIfInBounds (0+k+j) q) (arrOf st3)).toList.Perm T
   rw[el2]
   exact perm.trans t.p
  ·have hx:x∈(o.toList.zipIdx.foldl (fun a (q,j)=>a.setIfInBounds (0+k+j) q) (arrOf st3)).toList:=Array.mem_def.mp hx
   rw[el2] at hx
   exact t.i x (Array.mem_def.mpr (perm.mem_iff.mp hx))
  ·have key:SA rk ((arrOf st).toList.take k++o.toList++(arrOf st).toList.drop (n1+m)):=by
    have sT:SA rk ((arrOf st).toList.take k):=by
     refine SA.of fun i j hij hj=>?_
     rw[List.length_take] at hj
     have x1:∀ i,i<k→kf rk ((arrOf st).toList.take k) i=kf rk (arrOf st).toList i:=fun i hi=>by unfold kf;rw[List.getElem?_take_of_lt hi]
     rw[x1 i (by omega),x1 j (by omega)]
     exact sg1 i j (Nat.zero_le _) (by omega) (by omega)
    have sD:SA rk ((arrOf st).toList.drop (n1+m)):=by
     refine SA.of fun i j hij hj=>?_
     rw[List.length_drop] at hj
     have x1:∀ i,kf rk ((arrOf st).toList.drop (n1+m)) i=kf rk (arrOf st).toList (n1+m+i):=fun i=>by unfold kf;rw[List.getElem?_drop]
     rw[x1 i,x1 j]
     exact sg2 _ _ (by omega) (by omega) (by omega)
    have oo:∀ u∈o.toList,kf rk (arrOf st).toList n1≤rk u.1∧rk u.1≤kf rk (arrOf st).toList (n1-1):=fun u hu=>by
     rcases List.mem_append.mp (po.mem_iff.mp hu) with z | z
     ·obtain⟨i,c1,c2,c3,e⟩:=wp (rk:=rk) z
      have d1:=g2 i (by omega) (by omega)
      have d2:=sg1 i (n1-1) (Nat.zero_le _) (by omega) (by omega)
      unfold ks at d2
      omega
     ·obtain⟨i,c1,c2,c3,e⟩:=wp (rk:=rk) z
      have d1:=g3 (i-n1) (by omega)
      rw[show n1+(i-n1)=i by omega] at d1
      have d2:=sg2 n1 i (Nat.le_refl _) (by omega) (by omega)
      unfold ks at d2
      omega
    refine(sT.app so fun u hu v hv=>?_).app sD fun u hu v hv=>?_
    ·obtain⟨i,c1,c2,e⟩:=zZ (rk:=rk) hu
     have:=g1 i c1
     have:=(oo v hv).1
     omega
    ·obtain⟨j,c1,c2,e⟩:=z9 (rk:=rk) hv
     rw[lL] at c2
     have d1:=g4 (j-n1) (by omega) (by omega)
     rw[show n1+(j-n1)=j by omega] at d1
     rcases List.mem_append.mp hu with z | z
     ·obtain⟨i,c3,c4,e2⟩:=zZ (rk:=rk) z
      have d2:=sg1 i (n1-1) (Nat.zero_le _) (by omega) (by omega)
      unfold ks at d2
      omega
     ·have:=(oo u z).2
      omega
   intro i j _ hij hj
   show kf rk (o.toList.zipIdx.foldl (fun a (q,j)=>a.setIfInBounds (0+k+j) q) (arrOf st3)).toList i≤kf rk (o.toList.zipIdx.foldl (fun a (q,j)=>a.setIfInBounds (0+k+j) q) (arrOf st3)).toList j
   rw[el2]
   exact key.le hij (by rw[perm.length_eq,lL];exact hj)
 have fin2:∀ (o:Array Keyed) (st3:SortSt),vv rk ((arrOf st).extract (0+k) n1) ((arrOf st).extract n1 (n1+m)) o→Eqv (setPending st #[(0,n,p1)]) st3→Q (failedOf (setArr st3 (o.toList.zipIdx.foldl (fun a (q,j)=>a.setIfInBounds (0+k+j) q) (arrOf st3)))).isNone (setArr st3 (o.toList.zipIdx.foldl (fun a (q,j)=>a.setIfInBounds (0+k+j) q) (arrOf st3))):=fun o st3 fo ev=>by
  obtain⟨x1,x2⟩:=fin o st3 fo ev
  rw[x1.f]
  exact h _ x1 ev.p x2
 have a0:∀ i,i<n1-k→kf rk ((arrOf st).extract n1 (n1+m)).toList 0≤kf rk ((arrOf st).extract (0+k) n1).toList i:=fun i hi=>by
  rw[ea,eb,ka i hi,kb 0 (by omega),Nat.add_zero]
  have:=g2 (k+i) (by omega) (by omega)
  omega
 have al:∀ i,i<m→kf rk ((arrOf st).extract n1 (n1+m)).toList i≤kf rk ((arrOf st).extract (0+k) n1).toList (n1-k-1):=fun i hi=>by
  rw[ea,eb,kb i hi,ka _ (by omega),show k+(n1-k-1)=n1-1 by omega]
  have:=g3 i hi
  omega
 by_cases q3:n1-k≤m
 ·rw[if_pos q3]
  refine wpS_bind (Ze C t2.k t.i.ext t.i.ext (by omega) (by omega) sa sb (a0 0 (by omega)) (fun i hi=>by rw[zb] at hi;rw[za];exact al i hi) fun o st3 fo ev=>?_)
  exact wpS_bind (wpS_modify (wpS_bind (wpS_get (wpS_pure (fin2 o st3 fo ev)))))
 ·rw[if_neg q3]
  refine wpS_bind (Zf C t2.k t.i.ext t.i.ext (by omega) (by omega) sa sb (fun i hi=>by rw[za] at hi;exact a0 i hi) (by rw[za,zb];exact al (m-1) (by omega)) fun o st3 fo ev=>?_)
  exact wpS_bind (wpS_modify (wpS_bind (wpS_get (wpS_pure (fin2 o st3 fo ev)))))
end
end Sco
namespace Sco
open PySem PyProof.Rows PySem.W
section
variable {prog:Program}{w:World}{A:Around}{E:Value→Shared→Prop}{s:Shared}{it T:List Keyed}{κ:SortKind}{n:Nat}{rk:Value→Int}
theorem Yh:∀ z,z≤66→2≤z→z≤2*minRun' z z 0∧minRun' z z 0≤z∧1≤minRun' z z 0:=by decide
theorem VT (C:Cmp prog w A s it κ rk){st:SortSt}(t:TB it T κ n st) (hp:pendingOf st = #[]) (h2:2≤n) (h66:n≤66){Q:Unit→SortSt→Prop}(h:∀ st',TB it T κ n st'→Sg rk st' 0 n→Q () st'):wpS (model prog w) A E s sortRuns' Q st:=by
 obtain⟨r1,r2,r3⟩:=Yh n h66 h2
 rw[sortRuns'_eq]
 refine wpS_bind (wpS_get ?_)
 rw[t.z]
 dsimp only
 refine wpS_bind (wpS_mono (wpS_forRange (I:=fun i c st'=>TB it T κ n st'∧∃ lo,c=(none,lo)∧i≤lo∧((lo=0∧pendingOf st' = #[])∨(1≤lo∧lo≤n∧(lo=n∨minRun' n n 0≤lo)∧Sg rk st' 0 lo∧∃ p1,pendingOf st' = #[(0,lo,p1)])∨(lo=n∧∃ n1 p1 p2,1≤n1∧n1<n∧Sg rk st' 0 n1∧Sg rk st' n1 n∧pendingOf st' = #[(0,n1,p1),(n1,n-n1,p2)])))
  (Q:=fun c st'=>TB it T κ n st'∧∃ lo,c=(none,lo)∧((Sg rk st' 0 n∧∃ p1,pendingOf st' = #[(0,n,p1)])∨∃ n1 p1 p2,1≤n1∧n1<n∧Sg rk st' 0 n1∧Sg rk st' n1 n∧pendingOf st' = #[(0,n1,p1),(n1,n-n1,p2)])) ?_ ?_ ⟨t,0,rfl,Nat.le_refl _,.inl ⟨rfl,hp⟩⟩) ?_)
 ·rintro i c st1 _ hi ⟨t1,lo,rfl,hil,hc⟩
  dsimp only
  by_cases q1:lo≥n
  ·rw[if_pos q1]
   refine wpS_pure ⟨t1,lo,rfl,?_⟩
   rcases hc with⟨l0,_⟩ | ⟨l1,l2,l3,s1,p1,hpd⟩ | ⟨l0,hpd⟩
   ·omega
   ·have:lo=n:=by omega
    subst this
    exact .inl ⟨s1,p1,hpd⟩
   ·exact .inr hpd
  rw[if_neg q1]
  have old:∀ {st2:SortSt},Sg rk st1 0 lo→(∀ i,i<lo→ks rk st2 i=ks rk st1 i)→Sg rk st2 0 lo:=fun s1 l i j h1 h2 h3=>by
   rw[l i (by omega),l j h3]
   exact s1 i j h1 h2 h3
  refine wpS_bind (WE (p:=pendingOf st1) (f:=ks rk st1) C ⟨t1,rfl,fun _ _=>rfl⟩ (by omega) (by omega) fun fd st0 f1 f2 o0 s0=>?_)
  dsimp only
  by_cases q2:fd<minRun' n n 0
  ·rw[if_pos q2]
   refine wpS_bind (wpS_lift (wpAny_rule ⟨rfl,?_⟩))
   refine wpS_bind (zbG C o0 (by omega) (by omega) (by omega) s0 fun st2 o2 s2=>?_)
   simp only[Bool.not_true,Bool.false_eq_true,if_false]
   refine wpS_bind (wpS_get ?_)
   rcases hc with⟨l0,hpd⟩ | ⟨l1,l2,l3,s1,p1,hpd⟩ | ⟨l0,_⟩
   ·subst l0
    rw[o2.p,hpd]
    refine wpS_bind (wpS_modify (wpS_pure ⟨⟨o2.t.z,o2.t.p,o2.t.i,o2.t.k,o2.t.f⟩,_,rfl,by omega,.inr (.inl ⟨by omega,by omega,by omega,by rw[Nat.zero_add] at s2 ⊢;exact s2,0,?_⟩)⟩))
    show(pendingOf st2).push _=_
    rw[o2.p,hpd,Nat.zero_add]
    rfl
   ·have hRe:min (n-lo) (minRun' n n 0)=n-lo:=by omega
    have hpd2:pendingOf st2 = #[(0,lo,p1)]:=o2.p.trans hpd
    rw[hpd2]
    refine wpS_bind (wpS_mono (wpS_forRange (I:=fun _ c st'=>st'=st2∧c=(none,())) (Q:=fun c st'=>st'=st2∧c=(none,())) ?_ (fun _ _ h=>h) ⟨rfl,rfl⟩) ?_)
    ·rintro j c st3 _ hj ⟨rfl,rfl⟩
     refine wpS_bind (wpS_get ?_)
     rw[hpd2]
     exact wpS_pure ⟨rfl,rfl⟩
    ·rintro c st3 ⟨rfl,rfl⟩
     refine wpS_bind (wpS_modify (wpS_bind (wpS_modify (wpS_pure ⟨⟨o2.t.z,o2.t.p,o2.t.i,o2.t.k,o2.t.f⟩,_,rfl,by omega,.inr (.inr ⟨by omega,lo,power' n (2*0+lo) (2*0+lo+lo+min (n-lo) (minRun' n n 0)) n,0,by omega,by omega,old s1 o2.l,by rw[hRe,show lo+(n-lo)=n by omega] at s2;exact s2,?_⟩)⟩))))
     show((pendingOf st3).modify ((pendingOf st3).size-1) _).push _=_
     rw[hpd2,hRe]
     apply Array.toList_inj.mp
     simp[Array.modify]
     rfl
   ·omega
  ·rw[if_neg q2]
   obtain⟨st2,e2⟩:∃ st2,st2=st0:=⟨_,rfl⟩
   rw[← e2] at o0 s0 ⊢
   have o2:=o0
   have s2:=s0
   refine wpS_bind (wpS_get ?_)
   rcases hc with⟨l0,hpd⟩ | ⟨l1,l2,l3,s1,p1,hpd⟩ | ⟨l0,_⟩
   ·subst l0
    rw[o2.p,hpd]
    refine wpS_bind (wpS_modify (wpS_pure ⟨⟨o2.t.z,o2.t.p,o2.t.i,o2.t.k,o2.t.f⟩,_,rfl,by omega,.inr (.inl ⟨by omega,by omega,by omega,by rw[Nat.zero_add] at s2 ⊢;exact s2,0,?_⟩)⟩))
    show(pendingOf st2).push _=_
    rw[o2.p,hpd,Nat.zero_add]
    rfl
   ·have hRe:fd=n-lo:=by omega
    have hpd2:pendingOf st2 = #[(0,lo,p1)]:=o2.p.trans hpd
    rw[hpd2]
    refine wpS_bind (wpS_mono (wpS_forRange (I:=fun _ c st'=>st'=st2∧c=(none,())) (Q:=fun c st'=>st'=st2∧c=(none,())) ?_ (fun _ _ h=>h) ⟨rfl,rfl⟩) ?_)
    ·rintro j c st3 _ hj ⟨rfl,rfl⟩
     refine wpS_bind (wpS_get ?_)
     rw[hpd2]
     exact wpS_pure ⟨rfl,rfl⟩
    ·rintro c st3 ⟨rfl,rfl⟩
     refine wpS_bind (wpS_modify (wpS_bind (wpS_modify (wpS_pure ⟨⟨o2.t.z,o2.t.p,o2.t.i,o2.t.k,o2.t.f⟩,_,rfl,by omega,.inr (.inr ⟨by omega,lo,power' n (2*0+lo) (2*0+lo+lo+fd) n,0,by omega,by omega,old s1 o2.l,by rw[hRe,show lo+(n-lo)=n by omega] at s2;exact s2,?_⟩)⟩))))
     show((pendingOf st3).modify ((pendingOf st3).size-1) _).push _=_
     rw[hpd2,hRe]
     apply Array.toList_inj.mp
     simp[Array.modify]
     rfl
   ·omega
 ·rintro c st1 ⟨t1,lo,rfl,hil,hc⟩
  refine⟨t1,lo,rfl,?_⟩
  rcases hc with⟨l0,_⟩ | ⟨l1,l2,l3,s1,p1,hpd⟩ | ⟨l0,hpd⟩
  ·omega
  ·have:lo=n:=by omega
   subst this
   exact .inl ⟨s1,p1,hpd⟩
  ·exact .inr hpd
 ·rintro c st1 ⟨t1,lo,rfl,hc⟩
  dsimp only
  refine wpS_bind (wpS_mono (wpS_forRange (I:=fun i c st'=>TB it T κ n st'∧c=(none,())∧((Sg rk st' 0 n∧∃ p1,pendingOf st' = #[(0,n,p1)])∨i=0∧∃ n1 p1 p2,1≤n1∧n1<n∧Sg rk st' 0 n1∧Sg rk st' n1 n∧pendingOf st' = #[(0,n1,p1),(n1,n-n1,p2)])) (Q:=fun c st'=>TB it T κ n st'∧c=(none,())∧Sg rk st' 0 n) ?_ ?_ ⟨t1,rfl,hc.imp id fun x=>⟨rfl,x⟩⟩) ?_)
  ·rintro i c st2 _ hi ⟨t2,rfl,hc⟩
   refine wpS_bind (wpS_get ?_)
   rcases hc with⟨sf,p1,hpd⟩ | ⟨i0,n1,p1,p2,h1,h2,s1,s2,hpd⟩
   ·rw[hpd]
    exact wpS_pure ⟨t2,rfl,sf⟩
   ·rw[hpd]
    refine wpS_bind (Zg C t2 hpd h1 h2 s1 s2 fun st3 t3 hp3 sf=>?_)
    exact wpS_pure ⟨t3,rfl,.inl ⟨sf,_,hp3⟩⟩
  ·rintro c st2 ⟨t2,rfl,hc⟩
   rcases hc with⟨sf,_⟩ | ⟨i0,_⟩
   ·exact⟨t2,rfl,sf⟩
   ·omega
  ·rintro c st2 ⟨t2,rfl,sf⟩
   exact wpS_pure (h st2 t2 sf)
end
def PrV (h:Heap) (v:Value) (p:Int×Int):Prop:=∃ x o t u n,v=.ref x∧h.get? x=some o∧o.cls=.type "tuple" ∧ o.data=.seq #[.int p.1 t,.int p.2 u] n
noncomputable def rkP (p:Int×Int):Int:=p.1*1000+p.2
section
variable {prog:Program}{w:World}{A:Around}{E:Value→Shared→Prop}{s:Shared}
theorem zb4 {x y:Value}{p q:Int×Int}(hx:PrV s.heap x p) (hy:PrV s.heap y q) (bp:0≤p.2∧p.2<1000) (bq:0≤q.2∧q.2<1000){Q:Bool→Shared→Prop}(h:Q (decide (rkP p<rkP q)) s):wpAny (model prog w) A (keyLt' (tuples' true) x y) Q E s:=by
 obtain⟨x,o,t,u,n,rfl,ho,_,hd⟩:=hx
 obtain⟨y,o',t',u',n',rfl,ho',_,hd'⟩:=hy
 unfold rkP at h
 refine kat_lt ho hd ho' hd' (kat_cons (wpAny_eqBool_int ?_))
 by_cases e1:p.1=q.1
 ·refine kat_go (fun _=>kat_yes (kat_cons (wpAny_eqBool_int ?_))) fun z=>absurd e1 (by simpa using z)
  by_cases e2:p.2=q.2
  ·refine kat_go (fun _=>kat_yes (kat_nil ?_)) fun z=>absurd e2 (by simpa using z)
   have e:decide (p.1*1000+p.2<q.1*1000+q.2)=false:=decide_eq_false (by omega)
   rw[e] at h
   exact h
  ·refine kat_go (fun z=>absurd (by simpa using z) e2) fun _=>kat_no (kat_one _ _ (lt_int ?_))
   have e:decide (p.1*1000+p.2<q.1*1000+q.2)=decide (p.2<q.2):=decide_eq_decide.mpr (by omega)
   rw[e] at h
   exact h
 ·refine kat_go (fun z=>absurd (by simpa using z) e1) fun _=>kat_no (oneLt_int ?_)
  have e:decide (p.1*1000+p.2<q.1*1000+q.2)=decide (p.1<q.1):=decide_eq_decide.mpr (by omega)
  rw[e] at h
  exact h
theorem ZX:∀ {vs:List Value},(∀ v∈vs,(∃ p,PrV s.heap v p))→∃ fs:List Value,KatTups s.heap vs fs∧fs.length=vs.length∧∀ f∈fs,∃ i t,f=.int i t
 |[],_=>⟨[],.nil,rfl,fun f hf=>by cases hf⟩
 |v::vs,h=>by
  obtain⟨fs,k,hl,hi⟩:=ZX (vs:=vs) fun v hv=>h v (List.mem_cons_of_mem _ hv)
  obtain⟨⟨i,j⟩,x,o,t,u,n,rfl,ho,hc,hd⟩:=h v List.mem_cons_self
  refine⟨.int i t::fs,.cons ho hc hd rfl k,by simp[hl],fun f hf=>?_⟩
  rcases List.mem_cons.mp hf with rfl | hf
  ·exact⟨i,t,rfl⟩
  ·exact hi f hf
theorem WU {vs:List Value}(h:∀ v∈vs,(∃ p,PrV s.heap v p)) (hne:0<vs.length){Q:SortKind→Shared→Prop}(q:Q (tuples' true) s):wpAny (model prog w) A (keyKind' vs.toArray) Q E s:=by
 obtain⟨fs,k,hl,hi⟩:=ZX h
 refine kat_kind (T:=.type "int") k (by omega) (fun v hv=>?_) rfl q
 obtain⟨i,t,rfl⟩:=hi v hv
 exact Looks.of_pure rfl
theorem um {vs:List Value}{p:Keyed}(h:p∈vs.toArray.zip vs.toArray):p.1∈vs∧p.2∈vs:=by
 have h:p∈(vs.toArray.zip vs.toArray).toList:=Array.mem_def.mp h
 rw[Array.toList_zip] at h
 obtain⟨a,b⟩:=p
 exact List.of_mem_zip h
theorem PrV.keeps {h h':Heap}{v:Value}{p:Int×Int}(q:PrV h v p) (k:∀ b o,h.get? b=some o→o.cls=.type "tuple" → h'.get? b=some o):PrV h' v p:=by
 obtain⟨x,o,t,u,n,e,ho,hc,hd⟩:=q
 exact⟨x,o,t,u,n,e,k _ _ ho hc,hc,hd⟩
theorem uU:∀ vs:List Value,(vs.toArray.zip vs.toArray).toList.map (fun p:Keyed=>p.2)=vs:=fun vs=>by
 rw[Array.toList_zip]
 exact List.map_snd_zip (Nat.le_refl _)
theorem vY {vs:List Value}{p:Keyed}(h:p∈(vs.toArray.zip vs.toArray).toList):p.1=p.2:=by
 rw[Array.toList_zip] at h
 obtain⟨i,hi,e⟩:=List.getElem_of_mem h
 rw[List.getElem_zip] at e
 rw[← e]
theorem WT {vs:List Value}{val:Value→Int×Int}(h:∀ v∈vs,PrV s.heap v (val v)) (hb:∀ v∈vs,0≤(val v).2∧(val v).2<1000) (h2:2≤vs.length) (h66:vs.length≤66){Q:Unit→SortSt→Prop}
  (q:∀ st':SortSt,failedOf st'=none→((arrOf st').map (·.2)).toList.Perm vs→((arrOf st').map (·.2)).toList.Pairwise (fun x y=>rkP (val x)≤rkP (val y))→Q () st') :
  wpS (model prog w) A E s sortRuns' Q (SortSt.mk' (tuples' true) (vs.toArray.zip vs.toArray) #[] 7 none):=by
 have hz:(vs.toArray.zip vs.toArray).size=vs.length:=by simp
 refine VT (it:=(vs.toArray.zip vs.toArray).toList) (T:=(vs.toArray.zip vs.toArray).toList) (κ:=tuples' true) (n:=vs.length) (rk:=fun v=>rkP (val v)) (fun x hx y hy Q E hq=>?_) ⟨hz,List.Perm.refl _,fun x hx=>Array.mem_def.mp hx,rfl,rfl⟩ rfl h2 h66 fun st' t sg=>q st' t.f ?_ ?_
 ·have mx:=(um (Array.mem_def.mpr hx)).1
  have my:=(um (Array.mem_def.mpr hy)).1
  exact zb4 (h _ mx) (h _ my) (hb _ mx) (hb _ my) hq
 ·rw[Array.toList_map]
  have:=t.p.map (fun p:Keyed=>p.2)
  rw[uU] at this
  exact this
 ·rw[Array.toList_map,List.pairwise_map]
  have sa:SA (fun v=>rkP (val v)) (arrOf st').toList:=Sg.sa (by rw[t.z];exact sg)
  refine sa.imp_of_mem fun {x y} hx hy hxy=>?_
  rw[← vY (t.p.mem_iff.mp hx),← vY (t.p.mem_iff.mp hy)]
  exact hxy
theorem wf {a:Addr}{vs:List Value}{n:Nat}{P:PySem.Fin→Shared→Prop}(ho:s.heap.get? a=some (seqObj "list" vs.toArray n)){val:Value→Int×Int}(hp:∀ v∈vs,PrV s.heap v (val v)) (hb:∀ v∈vs,0≤(val v).2∧(val v).2<1000) (h66:vs.length≤66)
  (h:∀ o:Array Value,o.toList.Perm vs→o.toList.Pairwise (fun x y=>rkP (val x)≤rkP (val y))→P (.done (.ret .none)) { s with heap:=sortedHeap s.heap a vs o }):wpAny (model prog w) A (Builtin.«list.sort» ⟨[.ref a],[]⟩) P E s:=by
 have big:66≤sizeLine:=by decide
 have ha:=Heap.lt_size ho
 rw[list_sort_plain]
 refine wpAny_bind (listItems_at ho rfl (wpAny_bind (listUpdate_at ho rfl ?_ (by simp;omega) (Nat.zero_le _))))
 have o1:=get?_update_seq ho (fun _=>(#[]:Array Value))
 refine wpAny_bind (seqEpoch_at o1 rfl (wpAny_bind (wpAny_newTuple (wpAny_bind (wpAny_newList (wpAny_holding ?_) (Nat.zero_le _))) (by show vs.length≤_;omega))))
 generalize hH:Heap.push (Heap.push (s.heap.update a (Obj.mapSeq fun _=>(#[]:Array Value))) (seqObj "tuple" vs.toArray 0)) (seqObj "list" #[] 0)=H6
 have hs:∀ o:Array Value,sortedHeap s.heap a vs o=H6.update a (Obj.mapSeq fun _=>o):=fun o=>by rw[← hH];rfl
 have o6:=Heap.get?_push_of_some (seqObj "list" #[] 0) (Heap.get?_push_of_some (seqObj "tuple" vs.toArray 0) o1)
 rw[hH] at o6
 have hp6:∀ v∈vs,PrV H6 v (val v):=fun v hv=>(hp v hv).keeps fun b o e hc=>by
  have hb:a≠b:=fun z=>by
   rw[← z,ho] at e
   cases e
   have hc:Value.type "list" = .type "tuple" := hc
   injection hc with hc
   exact absurd hc (by decide)
  rw[← hH]
  refine Heap.get?_push_of_some _ (Heap.get?_push_of_some _ ?_)
  rw[Heap.get?_update_other _ _ hb]
  exact e
 have e6:({ s with heap:=Heap.push (Heap.push (s.heap.update a (Obj.mapSeq fun _=>(#[]:Array Value))) (seqObj "tuple" vs.toArray 0)) (seqObj "list" #[] 0) }:Shared)={ s with heap:=H6 }:=by rw[hH]
 refine(show wpAny (model prog w) A _ P E { s with heap:=H6 } from ?_)
 dsimp only
 have hz0:((vs.toArray.zip vs.toArray).map (fun p:Keyed=>p.2)).size=vs.length:=by simp
 by_cases q:vs.toArray.size<2
 ·rw[if_pos q,if_pos q]
  refine wpAny_bind (wpAny_pure ?_)
  rw[StateT.run_pure]
  refine wpAny_bind (wpAny_pure (wpAny_bind (seqEpoch_at o6 rfl (wpAny_bind (listUpdate_at o6 rfl ?_ (Nat.zero_le _) (by show((vs.toArray.zip vs.toArray).map (fun p:Keyed=>p.2)).size≤_;omega))))))
  simp only[bne_self_eq_false,Bool.false_eq_true,if_false]
  refine wpAny_pure ?_
  rw[← hs]
  have e:((vs.toArray.zip vs.toArray).map (fun p:Keyed=>p.2)).toList=vs:=by rw[Array.toList_map];exact uU vs
  refine h _ (by rw[e]) ?_
  rw[e]
  have q:vs.length<2:=by simpa using q
  match vs,q with
  |[],_=>exact List.Pairwise.nil
  |[x],_=>exact List.pairwise_singleton _ _
 ·rw[if_neg q,if_neg q]
  have q:2≤vs.length:=by simp at q;omega
  refine wpAny_bind (WU (fun v hv=>⟨_,hp6 v hv⟩) (by omega) ?_)
  refine wpAny_bind (wpAny_mono (WT (s:={ s with heap:=H6 }) hp6 hb q h66 (Q:=fun _ st'=>failedOf st'=none∧((arrOf st').map (·.2)).toList.Perm vs∧((arrOf st').map (·.2)).toList.Pairwise (fun x y=>rkP (val x)≤rkP (val y))) fun st' a1 a2 a3=>⟨a1,a2,a3⟩) ?_ fun _ _ e=>e)
  rintro⟨⟨⟩,st'⟩ s' ⟨rfl,hf,hz,hm⟩
  have hz':((arrOf st').map (·.2)).size=vs.length:=by rw[← Array.length_toList,hz.length_eq]
  refine wpAny_bind (seqEpoch_at o6 rfl (wpAny_bind (listUpdate_at o6 rfl ?_ (Nat.zero_le _) (by show((arrOf st').map (·.2)).size≤_;omega))))
  rw[hf]
  simp only[bne_self_eq_false,Bool.false_eq_true,if_false]
  refine wpAny_pure ?_
  rw[← hs]
  exact h _ hz hm
theorem wW {l:Addr}{vs:List Value}{Q:Value→Shared→Prop}(hl:s.heap.IsList l vs.toArray){val:Value→Int×Int}(hp:∀ v∈vs,PrV s.heap v (val v)) (hb:∀ v∈vs,0≤(val v).2∧(val v).2<1000) (h66:vs.length≤66)
  (h:∀ o:Array Value,o.toList.Perm vs→o.toList.Pairwise (fun x y=>rkP (val x)≤rkP (val y))→Q (.ref (s.heap.objs.size+1)) { s with heap:=sortedAll s.heap vs o }):wpAny (model prog w) A (call (.builtin "sorted") [.ref l]) Q E s:=by
 have big:66≤sizeLine:=by decide
 refine Calls.call_function_entry kind_sorted plain_sorted entry_sorted (args_sorted1 _) ?_
 unfold Builtin.«sorted»
 refine wpAny_bind (m:=checkCount "sorted" 1 1 _) (wpAny_pure (wpAny_bind (collect_list hl (wpAny_bind (wpAny_newList ?_ (by show vs.length≤_;omega))) (by omega))))
 have hz:(Heap.update (Heap.push s.heap (seqObj "list" #[] 0)) s.heap.objs.size (Obj.mapSeq fun x=>x++vs.toArray)).objs.size=s.heap.objs.size+1:=(Heap.size_update _ _ _).trans (size_push' _ _)
 have hk:∀ b o,s.heap.get? b=some o→(Heap.push (Heap.update (Heap.push s.heap (seqObj "list" #[] 0)) s.heap.objs.size (Obj.mapSeq fun x=>x++vs.toArray)) (seqObj "list" vs.toArray 0)).get? b=some o:=fun b o e=>by
  refine Heap.get?_push_of_some _ ?_
  rw[Heap.get?_update_other _ _ (Nat.ne_of_gt (Heap.lt_size e))]
  exact Heap.get?_push_of_some _ e
 have ho:=Heap.get?_push_size (Heap.update (Heap.push s.heap (seqObj "list" #[] 0)) s.heap.objs.size (Obj.mapSeq fun x=>x++vs.toArray)) (o:=seqObj "list" vs.toArray 0) rfl
 refine(show wpAny _ _ _ _ _ { s with heap:=Heap.push (Heap.update (Heap.push s.heap (seqObj "list" #[] 0)) s.heap.objs.size (Obj.mapSeq fun x=>x++vs.toArray)) (seqObj "list" vs.toArray 0) } from ?_)
 rw[hz] at ho ⊢
 refine wpAny_bind (wpAny_holding (wpAny_call_entry slot_list_sort ⟨_,ho,rfl⟩ entry_list_sort ?_ (args_list_sort _)))
 refine wf ho (fun v hv=>(hp v hv).keeps fun b o e _=>hk b o e) hb h66 fun o z m=>⟨_,rfl,wpAny_pure ⟨_,rfl,h o z m⟩⟩
end
section
variable {X:Cx}
abbrev PT:=Addr×Int×Int
theorem Z2 {α β:Type}{f:α→β}:∀ {l m:List β},l.Perm m→∀ ps:List α,ps.map f=m→∃ qs:List α,qs.Perm ps∧qs.map f=l:=by
 intro l m h
 induction h with
 |nil =>
  intro ps e
  exact⟨ps,List.Perm.refl _,e⟩
 | @cons x l m _ ih =>
  intro ps e
  cases ps with
  |nil=>cases e
  |cons p ps =>
   rw[List.map_cons] at e
   injection e with e1 e2
   obtain⟨qs,h1,h2⟩:=ih ps e2
   exact⟨p::qs,h1.cons p,by rw[List.map_cons,h2,e1]⟩
 |swap x y l =>
  intro ps e
  match ps,e with
  |p::q::ps,e =>
   rw[List.map_cons,List.map_cons] at e
   injection e with e1 e2
   injection e2 with e2 e3
   exact⟨q::p::ps,List.Perm.swap _ _ _,by rw[List.map_cons,List.map_cons,e1,e2,e3]⟩
 |trans _ _ ih1 ih2 =>
  intro ps e
  obtain⟨qs,h1,h2⟩:=ih2 ps e
  obtain⟨rs,h3,h4⟩:=ih1 qs h2
  exact⟨rs,h3.trans h1,h4⟩
noncomputable def vlH (H:Hp):Value→Int×Int
 |.ref a=>match H a with
  |some (.tup [.int i,.int j])=>(i,j)
  |_=>(0,0)
 |_=>(0,0)
def PsAt (H:Hp) (ps:List PT):Prop:=∀ p∈ps,H p.1=some (.tup [.int p.2.1,.int p.2.2])∧0≤p.2.2∧p.2.2<1000
theorem PsAt.vl {H:Hp}{ps:List PT}(h:PsAt H ps){p:PT}(hp:p∈ps):vlH H (.ref p.1)=p.2:=by
 show(match H p.1 with
  |some (.tup [.int i,.int j])=>(i,j)
  |_=>(0,0))=p.2
 rw[(h p hp).1]
theorem PsAt.prv {pins:List (Addr×Obj)}{σ:St}{H:Hp}{s:Shared}{ps:List PT}(I:Inv X pins σ H s) (h:PsAt H ps):∀ v∈ps.map (fun p=>Value.ref p.1),PrV s.heap v (vlH H v):=fun v hv=>by
 obtain⟨p,hp,rfl⟩:=List.mem_map.mp hv
 rw[h.vl hp]
 obtain⟨_,vs,rr,ob,e1,e2,n,e3⟩:=(show ObjOk X.prog X.w H s.heap p.1 (.tup [.int p.2.1,.int p.2.2]) from I.hok p.1 _ (h p hp).1)
 cases rr with
 |cons r1 rr =>
  cases rr with
  |cons r2 rr =>
   cases rr
   obtain⟨t1,rfl⟩:=r1
   obtain⟨t2,rfl⟩:=r2
   exact⟨p.1,ob,t1,t2,n,rfl,e1,e2,e3⟩
theorem xF:∀ {ps:List PT}{us:List Value},Vals (ps.map fun p=>V.ref p.1) us→us=ps.map fun p=>Value.ref p.1
 |[],_,h=>by cases h;rfl
 |p::ps,_,h=>by
  cases h with
  |cons r t =>
   cases r
   rw[List.map_cons,xF t]
theorem xK:∀ (ps:List PT),Vals (ps.map fun p=>V.ref p.1) (ps.map fun p=>Value.ref p.1)
 |[]=>.nil
 |p::ps=>.cons rfl (xK ps)
def Ud (K:PySem.W.Frag):List V→Hp→VK→Prop:=fun xs H Q=>∃ (a:Addr) (ps:List PT),xs=[V.ref a]∧SqL K H a (ps.map fun p=>V.ref p.1)∧ps.length≤66∧PsAt H ps ∧
 ∀ (l:Addr) (qs:List PT),H l=none→qs.Perm ps→qs.Pairwise (fun x y=>rkP x.2≤rkP y.2)→Q (.ref l) (upd H l (.lst (qs.map fun p=>V.ref p.1)))
theorem wY {H:Hp}{ps:List PT}(h:PsAt H ps){o:Array Value}(po:o.toList.Perm (ps.map fun p=>Value.ref p.1)) (so:o.toList.Pairwise (fun x y=>rkP (vlH H x)≤rkP (vlH H y))):∃ qs:List PT,qs.Perm ps∧qs.Pairwise (fun x y=>rkP x.2≤rkP y.2)∧o.toList=qs.map fun p=>Value.ref p.1:=by
 obtain⟨qs,h1,h2⟩:=Z2 po ps rfl
 refine⟨qs,h1,?_,h2.symm⟩
 rw[← h2,List.pairwise_map] at so
 refine so.imp_of_mem fun {x y} hx hy hxy=>?_
 rw[h.vl (h1.mem_iff.mp hx),h.vl (h1.mem_iff.mp hy)] at hxy
 exact hxy
theorem call_sortX:xb X (.builtin "sorted") (Ud X.K):=by
 intro pins s σ H xs us Q I r h
 obtain⟨a,ps,rfl,ha,h66,hy,q⟩:=h
 obtain⟨u,rfl,ru⟩:=r.one
 cases ru
 obtain⟨its,rv,p,hz⟩:=I.list ha
 have hl:=xF rv
 subst hl
 refine wW p.isList (hy.prv I) (fun v hv=>?_) (by rw[List.length_map];exact h66) fun o z m=>?_
 ·obtain⟨p,hp,rfl⟩:=List.mem_map.mp hv
  rw[hy.vl hp]
  exact(hy p hp).2
 ·obtain⟨qs,h1,h2,h3⟩:=wY hy z m
  have hn:H (s.heap.objs.size+1)=none:=I.hok.fresh (Nat.le_succ _)
  obtain⟨c,hc⟩:=sortedAll_at s.heap (ps.map fun p=>Value.ref p.1) o
  refine⟨.ref _,_,I.laid (a:=s.heap.objs.size+1) (o:=.lst (qs.map fun p=>V.ref p.1)) (t':=s.toks) (fun _ _ e=>sortedAll_old e) (Nat.le_succ _) ⟨by rw[List.length_map,h1.length_eq];rw[List.length_map] at hz;exact hz,o.toList,c,by rw[h3];exact xK qs,hc⟩,rfl,q _ qs hn h1 h2⟩
end
end Sco
end L2
namespace L2
open PySem PySem.Spec PyProof.Rows
def Wv (h:Heap) (d:Addr) (es:Array DictEntry) (ep:Nat):Prop:=∃ o,h.get? d=some o∧o.ExactDict∧o.data=.dict es ep
def VIt (h:Heap) (it d:Addr) (i n ep:Nat):Prop:=h.get? it=some { cls:=.type "dict_valueiterator",data:=.fields #[.ref d,.int i 0,.int n 0,.int ep 0] }
section
variable {prog:Program}{w:World}{A:Around}{E:Value→Shared→Prop}{s:Shared}
theorem Wz {it d:Addr}{i ep:Nat}{es:Array DictEntry}{e:DictEntry}{Q:PySem.Fin→Shared→Prop}(hi:VIt s.heap it d i es.size ep) (hd:Wv s.heap d es ep) (he:es[i]?=some e)
  (h:∀ h',VIt h' it d (i+1) es.size ep→Heap.SameBut it s.heap h'→Q (.done (.ret e.val)) { s with heap:=h' }):wpAny (model prog w) A (Builtin.«dict_valueiterator.__next__» ⟨[.ref it],[]⟩) Q E s:=by
 obtain⟨⟨c,dct,dat,sl⟩,ho,ex,hdat⟩:=hd
 cases hdat
 have hT:s.TypeIs (.ref it) "dict_valueiterator" := ⟨_,hi,rfl⟩
 refine wpAny_bind (m:=Builtin.Dict_items.slot0 "__next__" _) (wpAny_pure ?_)
 refine wpAny_bind ?_
 refine wpAny_bind ?_
 have z1:((es.size:Int) != (es.size:Int))=false:=by simp
 have z2:((ep:Int) != (ep:Int))=false:=by simp
 repeat (any_goals (first | assumption | (simp only[z1,z2,Bool.false_eq_true,if_false]) | wp_step))
 have z3:(if (i:Int)<0 then none else es[((i:Int)).toNat]?)=some e:=by
  rw[if_neg (by omega)]
  exact he
 rw[z3]
 refine wpAny_bind ?_
 refine wpAny_bind (m:=typeNameOfWhole (.ref it)) ?_
 repeat (any_goals (first | assumption | wp_step))
 refine h _ ((Heap.get?_update_self _ hi (by kernel_rfl)).trans (congrArg some ?_)) ⟨Heap.size_update _ _ _,fun b hb=>Heap.get?_update_ne _ _ _ _ hb⟩
 kernel_rfl
theorem VP {it d:Addr}{ep:Nat}{es:Array DictEntry}{Q:PySem.Fin→Shared→Prop}(hh:A.handled=none) (hi:VIt s.heap it d es.size es.size ep) (hd:Wv s.heap d es ep)
  (h:∀ h' e,Heap.ExtBut it s.heap h'→(∃ o,h'.get? e=some o∧o.cls=.type "StopIteration")→E (.ref e) { s with heap:=h' }):wpAny (model prog w) A (Builtin.«dict_valueiterator.__next__» ⟨[.ref it],[]⟩) Q E s:=by
 obtain⟨⟨c,dct,dat,sl⟩,ho,ex,hdat⟩:=hd
 cases hdat
 have hT:s.TypeIs (.ref it) "dict_valueiterator" := ⟨_,hi,rfl⟩
 refine wpAny_bind (m:=Builtin.Dict_items.slot0 "__next__" _) (wpAny_pure ?_)
 refine wpAny_bind ?_
 refine wpAny_bind ?_
 have z1:((es.size:Int) != (es.size:Int))=false:=by simp
 have z2:((ep:Int) != (ep:Int))=false:=by simp
 repeat (any_goals (first | assumption | (simp only[z1,z2,Bool.false_eq_true,if_false]) | wp_step))
 have z3:(if (es.size:Int)<0 then none else es[((es.size:Int)).toNat]?)=none:=by
  rw[if_neg (by omega)]
  show es[es.size]?=none
  simp
 rw[z3]
 refine wpAny_bind ?_
 refine wpAny_bind (m:=typeNameOfWhole (.ref it)) ?_
 repeat (any_goals (first | assumption | wp_step))
 refine wpAny_raiseNew_none hh ?_
 refine h _ _ (fun b o hb e=>?_) ⟨_,Heap.get?_push_size _ rfl,rfl⟩
 exact Heap.get?_push_of_some _ (Heap.get?_push_of_some _ ((Heap.get?_update_ne _ _ _ _ hb).trans e))
theorem u7 {it d:Addr}{i ep:Nat}{es:Array DictEntry}{e:DictEntry}{Q:Option Value→Shared→Prop}(hi:VIt s.heap it d i es.size ep) (hd:Wv s.heap d es ep) (he:es[i]?=some e)
  (h:∀ h',VIt h' it d (i+1) es.size ep→Heap.SameBut it s.heap h'→Q (some e.val) { s with heap:=h' }):wpAny (model prog w) A (pyNext (.ref it)) Q E s:=by
 have hT:s.TypeIs (.ref it) "dict_valueiterator" := ⟨_,hi,rfl⟩
 unfold pyNext
 exact wpAny_bind (wpAny_attempt (wpAny_callSpecial?_slot (name:=Str.ofString "__next__") hT F.slot_dict_valueiterator_next (wpAny_call_entry F.slot_dict_valueiterator_next hT F.entry_dict_valueiterator_next (Wz hi hd he fun h' a1 a2=>⟨_,rfl,wpAny_pure (h h' a1 a2)⟩) (F.args_dict_valueiterator_next_1 _))))
theorem Y1 {it d:Addr}{ep:Nat}{es:Array DictEntry}{Q:Option Value→Shared→Prop}(hh:A.handled=none) (hi:VIt s.heap it d es.size es.size ep) (hd:Wv s.heap d es ep)
  (h:∀ h',Heap.ExtBut it s.heap h'→Q none { s with heap:=h' }):wpAny (model prog w) A (pyNext (.ref it)) Q E s:=by
 have hT:s.TypeIs (.ref it) "dict_valueiterator" := ⟨_,hi,rfl⟩
 unfold pyNext
 refine wpAny_bind (wpAny_attempt (wpAny_callSpecial?_slot (name:=Str.ofString "__next__") hT F.slot_dict_valueiterator_next (wpAny_call_entry F.slot_dict_valueiterator_next hT F.entry_dict_valueiterator_next (VP hh hi hd fun h' e hk he=>?_) (F.args_dict_valueiterator_next_1 _))))
 obtain⟨o,ho,hc⟩:=he
 exact wpAny_bind (wpAny_isInstance (T := "StopIteration") (b:=true) ⟨o,ho,hc⟩ isSubtype_stop (wpAny_pure (h _ hk)))
theorem Y0 (hh:A.handled=none) (it d:Addr) (es:Array DictEntry) (ep:Nat) (hne:it≠d):Walks prog w A it [it,d] [it] es.size (fun i v=>∃ e,es[i]?=some e∧v=e.val) (fun i h=>VIt h it d i es.size ep∧Wv h d es ep) where
 sub:=fun b hb=>by simp at hb;simp[hb]
 frame:=fun i h h' ⟨a1,o,ho,r⟩ k=>⟨k it (by simp) _ a1,o,k d (by simp) _ ho,r⟩
 item:=fun i s Q E hi ⟨a1,hd⟩ q=>by
  have hd':=hd
  obtain⟨o,ho,r⟩:=hd
  refine u7 a1 hd' (e:=es[i]) (by simp[hi]) fun h' b1 sb=>?_
  exact q _ h' s.toks ⟨es[i],by simp[hi],rfl⟩ ⟨b1,o,(sb.2 d hne.symm).trans ho,r⟩ fun b o hb e=>(sb.2 b (by simpa using hb)).trans e
 done:=fun s Q E ⟨a1,hd⟩ q=>Y1 hh a1 hd fun h' k=>q h' s.toks fun b o hb e=>k b o (by simpa using hb) e
 self:=fun i s Q E ⟨a1,_⟩ q=>wpAny_pyIter_valiter (it:=it) (d:=d) (i:=i) (n:=es.size) (ep:=ep) ⟨_,a1,rfl,rfl⟩ q
theorem WA {r d:Addr}{ep:Nat}{es:Array DictEntry}{Q:Value→Shared→Prop}(hv:s.heap.IsValuesView r d) (hd:Wv s.heap d es ep)
  (q:Q (.ref s.heap.objs.size) { s with heap:=s.heap.push { cls:=.type "dict_valueiterator",data:=.fields #[.ref d,.int 0 0,.int es.size 0,.int ep 0] } }):wpAny (model prog w) A (pyIter (.ref r)) Q E s:=by
 obtain⟨⟨c,dct,dat,sl⟩,ho,ex,hdat⟩:=hd
 cases hdat
 obtain⟨⟨cv,dv,av,sv⟩,h1,h2,h3⟩:=hv
 cases h3
 have hT:s.TypeIs (.ref r) "dict_values" := ⟨_,h1,h2⟩
 refine wpAny_pyIter_slot hT F.slot_dict_values_iter (wpAny_call_entry F.slot_dict_values_iter hT F.entry_dict_values_iter ?_ (F.args_dict_values_iter_1 _))
 unfold Builtin.«dict_values.__iter__»
 refine wpAny_bind (m:=Builtin.Dict_items.slot0 "__iter__" _) (wpAny_pure ?_)
 repeat (any_goals (first | assumption | wp_step))
 refine⟨_,rfl, "dict_valueiterator",_,⟨_,Heap.get?_push_size _ rfl,rfl⟩,F.slot_dict_valueiterator_next.lookup,?_⟩
 exact q
theorem VO {r d:Addr}(es:Array DictEntry) (ep:Nat):PySem.W.KdlSrc prog w "dict_values" r d es.size (fun i v=>∃ e,es[i]?=some e∧v=e.val) (fun h=>h.IsValuesView r d∧Wv h d es ep) where
 type:=fun s ⟨⟨o,h1,h2,_⟩,_⟩=>⟨o,h1,h2⟩
 there:=fun h ⟨⟨o,h1,_⟩,o2,h2,_⟩=>⟨Heap.lt_size h1,Heap.lt_size h2⟩
 keep:=fun h h' ⟨⟨o,h1,h2⟩,o2,h3,h4⟩ k=>⟨⟨o,k r (.inl rfl) _ h1,h2⟩,o2,k d (.inr rfl) _ h3,h4⟩
 notList:=by decide
 notTuple:=by decide
 hint:=fun A E s Q ⟨⟨o,h1,h2,_⟩,_⟩ q=>PySem.W.kdl_hint_values ⟨o,h1,h2⟩ q
 iter:=fun A s hh ⟨hv,hd⟩=>by
  have hd':=hd
  obtain⟨o,ho,hr⟩:=hd
  refine⟨_,_,fun E Q q=>WA hv hd' q,Y0 hh s.heap.objs.size d es ep (Nat.ne_of_gt (Heap.lt_size ho)),Heap.get?_push_size _ rfl,o,Heap.get?_push_of_some _ ho,hr⟩
theorem Wy {d:Addr}{Q:PySem.Fin→Shared→Prop}(hT:s.TypeIs (.ref d) "dict") (hd:(d == sysModules)=false)
  (q:Q (.done (.ret (.ref s.heap.objs.size))) { s with heap:=s.heap.push { cls:=.type "dict_values",data:=.fields #[.ref d] } }):wpAny (model prog w) A (Builtin.«dict.values» ⟨[.ref d],[]⟩) Q E s:=by
 refine wpAny_bind (m:=Builtin.Dict.noArgs "values" _) ?_
 unfold Builtin.Dict.noArgs
 refine wpAny_bind (wpAny_notOrdered_dict hT ?_)
 show wpAny _ _ (pure d) _ _ _
 refine wpAny_pure ?_
 have e:Builtin.Dict.showsAll d=pure ():=by
  unfold Builtin.Dict.showsAll
  rw[if_neg (by rw[hd];simp)]
 rw[e]
 repeat (any_goals (first | assumption | wp_step))
open Sco PySem.W in
theorem ZU {r d:Addr}{es:Array DictEntry}{ep:Nat}{Q:Value→Shared→Prop}(hh:A.handled=none) (hv:s.heap.IsValuesView r d) (hd:Wv s.heap d es ep){val:Value→Int×Int}
  (hp:∀ v∈es.toList.map (·.val),PrV s.heap v (val v)) (hb:∀ v∈es.toList.map (·.val),0≤(val v).2∧(val v).2<1000) (h66:es.size≤66)
  (h:∀ (D:Addr) (h':Heap) (tk:Nat) (o:Array Value),(∀ b u,s.heap.get? b=some u→h'.get? b=some u)→s.heap.get? D=none→o.toList.Perm (es.toList.map (·.val))→o.toList.Pairwise (fun x y=>rkP (val x)≤rkP (val y))→(∃ c,h'.get? D=some (seqObj "list" o c))→Q (.ref D) { s with heap:=h',toks:=tk }) :
  wpAny (model prog w) A (call (.builtin "sorted") [.ref r]) Q E s:=by
 have big:66≤sizeLine:=by decide
 refine Calls.call_function_entry kind_sorted plain_sorted entry_sorted (args_sorted1 _) ?_
 unfold Builtin.«sorted»
 refine wpAny_bind (m:=checkCount "sorted" 1 1 _) (wpAny_pure ?_)
 refine wpAny_bind (PySem.W.kdu_collect (A:=A.in1) (VO es ep) hh ⟨hv,hd⟩ (by omega) fun h' tk acc hk' hacc=>?_)
 have ev:acc.toList=es.toList.map (·.val):=by
  apply List.ext_getElem?
  intro i
  by_cases hi:i<es.size
  ·have hi':i<acc.size:=by rw[hacc.1];exact hi
   obtain⟨e,e1,e2⟩:=hacc.2 i acc[i] (by simp[hi'])
   rw[List.getElem?_map,Array.getElem?_toList,Array.getElem?_toList,e1,Array.getElem?_eq_getElem hi',e2]
   rfl
  ·rw[List.getElem?_eq_none (by rw[Array.length_toList,hacc.1];omega),List.getElem?_eq_none (by rw[List.length_map,Array.length_toList];omega)]
 have hl:acc.toList.length=es.size:=by rw[Array.length_toList];exact hacc.1
 refine wpAny_bind (wpAny_newList ?_ (by omega))
 have hoL:(h'.push (seqObj "list" acc.toList.toArray 0)).get? h'.objs.size=some (seqObj "list" acc.toList.toArray 0):=Heap.get?_push_size _ rfl
 refine(show wpAny _ _ _ _ _ { s with heap:=h'.push (seqObj "list" acc.toList.toArray 0),toks:=tk } from ?_)
 refine wpAny_bind (wpAny_holding (wpAny_call_entry slot_list_sort ⟨_,hoL,rfl⟩ entry_list_sort ?_ (args_list_sort _)))
 refine wf (val:=val) hoL (fun v hv=>?_) (fun v hv=>hb v (by rw[← ev];exact hv)) (by omega) fun o z m=>⟨_,rfl,?_⟩
 ·exact(hp v (by rw[← ev];exact hv)).keeps fun b o e _=>Heap.get?_push_of_some _ (hk' b o e)
 rw[ev] at z
 refine wpAny_pure ⟨_,rfl,h h'.objs.size _ tk o (fun b o e=>?_) ?_ z m (sortedHeap_at hoL)⟩
 ·have e1:=hk' b o e
  have lt:=Heap.lt_size e1
  rw[sortedHeap_old (Nat.ne_of_lt lt) (by rw[size_push'];exact Nat.lt_succ_of_lt lt)]
  exact Heap.get?_push_of_some _ e1
 ·cases z:s.heap.get? h'.objs.size with
  |none=>rfl
  |some o=>exact absurd (Heap.lt_size (hk' _ _ z)) (Nat.lt_irrefl _)
end
section
variable {X:Cx}
open Sco in
def Zh (td:TE):TE:=fun σ H Q=>td σ H fun x H1=>∃ (d:Addr) (kvs:List (List Key×V)) (ps:List Sco.PT),x=.ref d∧H1 d=some (.dT kvs)∧kvs.map (·.2)=ps.map (fun p=>V.ref p.1)∧ps.length≤66∧PsAt H1 ps ∧
 ∀ (l:Addr) (qs:List Sco.PT),H1 l=none→qs.Perm ps→qs.Pairwise (fun x y=>rkP x.2≤rkP y.2)→Q (.ref l) (upd H1 l (.lst (qs.map fun p=>V.ref p.1)))
theorem KT.vals {H:Hp}:∀ {kvs:List (List Key×V)}{xs:List (List Key×Addr×Value)},KT H kvs xs→Vals (kvs.map (·.2)) (xs.map (·.2.2))
 |_,_,.nil=>.nil
 |_,_,.cons h t=>.cons h.2.2 (KT.vals t)
open Sco in
theorem Z3 {o:Expr}{td:TE}{apos cpos p pos:Pos}(hc:X.calm=true) (hgl:Gl X "sorted") (hm:X.mg "sorted" = none) (hv:bootBuiltins "sorted" = some (.builtin "sorted")) (ho:PE X o td)
  (hbase:attributeBase o "values" X.env (eval o X.env)=eval o X.env:=by rfl) (hline:(apos.endLine == cpos.line)=true:=by rfl)
  (hs:starEach [.Call (.Attribute o "values" apos) [] [] cpos] X.env=[(false,eval (.Call (.Attribute o "values" apos) [] [] cpos) X.env)]:=by rfl) :
  PE X (.Call (.Name "sorted" p) [.Call (.Attribute o "values" apos) [] [] cpos] [] pos) (Zh td):=by
 intro pins s σ H Q I h
 refine wpAny_Call_Name_kw (ld_blt I hgl hm hv ?_ (by decide) (by decide))
 refine Calls.callWith_builtin rfl (Calls.evalArgs_plain ?_)
 show wpAny _ _ (spliced ((false,eval (.Call (.Attribute o "values" apos) [] [] cpos) X.env)::backTo pos [])) _ _ s
 refine Calls.spliced_cons (wpAny_Call_method0_late hbase hline (thn (ho pins s σ H _ I h) fun v s1 hq0=>?_))
 obtain⟨x,H1,I1,rx,d,kvs,ps,ex,e,ek,h66,hps,q⟩:=hq0
 subst ex
 obtain rfl:v=Value.ref d:=rx
 obtain⟨t1,t2,_⟩:=wo I1 (.inr ⟨_,.inl e⟩)
 obtain⟨z,hd,xs,rel,dd⟩:=VD I1.hok e
 refine⟨"dict", "dict.values",PySem.F.plainAttrs_dict,PySem.F.slot_dict_values,PySem.F.type_dict_values,t1,t2,Calls.callWith_builtin rfl (PySem.evalArgs_none ?_)⟩
 have hT:=dd.typeIs
 obtain⟨od,es,ep,q1,q2,q3,q4,q5,q6⟩:=dd
 refine wpAny_call_entry PySem.F.slot_dict_values hT PySem.F.entry_dict_values ?_ (PySem.F.args_dict_values_1 _)
 refine Wy hT hd ?_
 refine⟨_,rfl,Calls.spliced_nil ?_⟩
 have I2:=I1.kept (t':=s1.toks) (h':=s1.heap.push { cls:=.type "dict_values",data:=.fields #[.ref d] }) fun b u q=>Heap.get?_push_of_some _ q
 have rv:=rel.vals
 rw[ek] at rv
 have er:=xF rv
 have ev:es.toList.map (·.val)=ps.map (fun p=>Value.ref p.1):=by
  rw[q4,← er,List.map_map]
  rfl
 refine ZU (val:=vlH H1) (s:={ s1 with heap:=s1.heap.push { cls:=.type "dict_values",data:=.fields #[.ref d] } }) (I1.ok.hd hc) ⟨_,Heap.get?_push_size _ rfl,rfl,rfl⟩ ⟨od,Heap.get?_push_of_some _ q1,q2,q3⟩ ?_ ?_ ?_ fun D h' tk o k1 k2 z m hD=>?_
 ·rw[ev]
  exact hps.prv I2
 ·rw[ev]
  intro v hv
  obtain⟨p,hp,rfl⟩:=List.mem_map.mp hv
  rw[hps.vl hp]
  exact(hps p hp).2
 ·have:=congrArg List.length ev
  rw[List.length_map,List.length_map,Array.length_toList] at this
  omega
 ·rw[ev] at z
  obtain⟨qs,h1,h2,h3⟩:=wY hps z m
  obtain⟨c,hD⟩:=hD
  exact⟨.ref D,_,Srt.laidF (o:=.lst (qs.map fun p=>V.ref p.1)) I2 k1 k2 ⟨by rw[List.length_map,h1.length_eq];exact Nat.le_trans h66 (by decide),o.toList,c,by rw[h3];exact xK qs,by rw[Array.toArray_toList];exact hD⟩,rfl,q D qs (I2.hok.untr k2) h1 h2⟩
end
section
variable {X:Cx}{pins:List (Addr×Obj)}{σ:St}{H G:Hp}{s:Shared}{d:Addr}{od:Obj}{kvs:List (Key×V)}
theorem uY {e:Expr}{t:TE}(h:Bx (PE X e t)):Bx (PE X e (zey X.H₀ t)):=⟨WX h.of⟩
theorem uW {st:Stmt}{t:TS}(h:Bx (PS X st t)):Bx (PS X st (zex X.H₀ t)):=⟨WS h.of⟩
theorem vw {o:Expr}{es:List Expr}{n:Nat}{tp:Pos}{td:TE}{apos cpos:Pos}(ho:Bx (PE X o td)) (hbase:attributeBase o "items" X.env (eval o X.env)=eval o X.env:=by rfl) (hline:(apos.endLine == cpos.line)=true:=by rfl):Bx (PI X (.Tuple es n tp) (.Call (.Attribute o "items" apos) [] [] cpos) (zbD yI X.H₀ td)):=⟨Z0 ho.of hbase hline⟩
theorem uy {tg l:Expr}{td:TE}(hl:Bx (PE X l td)):Bx (PI X tg l (zbD yK X.H₀ td)):=⟨Xe hl.of⟩
end
section
variable {X:Cx}{o e f:Expr}{apos cpos:Pos}{td ty tx:TE}
theorem xE (hu:X.A.units+1<cLine) (ho:Bx (PE X o td)) (he:Bx (PE X e ty)) (hf:Bx (PE X f tx)) (m:M2 X o "setdefault" apos e f cpos):Bx (PE X (.Call (.Attribute o "setdefault" apos) [e,f] [] cpos) (V5 td ty tx)):=⟨W4 hu ho.of he.of hf.of m⟩
end
section
theorem u0 {X:Cx}{e dv:Expr}{ta:TA}{td:TE}{p kp pos:Pos}(hc:X.calm=true) (hg:Gl X "min") (hm:X.mg "min" = none) (ha:Bx (PA X [e] ta)) (hd:Bx (PE X dv td)) (hs:starEach [e] X.env=[(false,eval e X.env)]:=by rfl):Bx (PE X (.Call (.Name "min" p) [e] [⟨some "default",dv,kp⟩] pos) (V0 X.K ta td)):=⟨WY hc hg hm ha.of hd.of hs⟩
end
section
variable {X:Cx}
theorem xD {o:Expr}{td:TE}{apos cpos p pos:Pos}(hc:X.calm=true) (hgl:Gl X "sorted") (hm:X.mg "sorted" = none) (hv:bootBuiltins "sorted" = some (.builtin "sorted")) (ho:Bx (PE X o td)) (hbase:attributeBase o "values" X.env (eval o X.env)=eval o X.env:=by rfl) (hline:(apos.endLine == cpos.line)=true:=by rfl) (hs:starEach [.Call (.Attribute o "values" apos) [] [] cpos] X.env=[(false,eval (.Call (.Attribute o "values" apos) [] [] cpos) X.env)]:=by rfl):Bx (PE X (.Call (.Name "sorted" p) [.Call (.Attribute o "values" apos) [] [] cpos] [] pos) (Zh td)):=⟨Z3 hc hgl hm hv ho.of hbase hline hs⟩
end
end L2
namespace K04
open PySem L2
structure Hs (hs:List Int):Prop where
 l1:1≤hs.length
 l12:hs.length≤12
 up:hs.Pairwise (· < ·)
 lo:∀ h∈hs,0≤h
 hi:∀ h∈hs,h≤99
structure Ls (hs:List Int) (ls:List (Int×Int)):Prop where
 nd:ls.Nodup
 ok:∀ p∈ls,p.1∈hs∧p.2∈hs∧p.1<p.2
 le:ls.length≤66
def Adj (ls:List (Int×Int)) (x y:Int):Prop:=(x,y)∈ls∨(y,x)∈ls
theorem Y3 {as:List Int}(h:as.Pairwise (· < ·)):as.Nodup:=h.imp fun {a b} z=>by omega
theorem yo:∀ {as bs:List Int},as.Nodup→(∀ x∈as,x∈bs)→as.length≤bs.length
 |[],_,_,_=>Nat.zero_le _
 |a::as,bs,hn,hs=>by
  rw[List.nodup_cons] at hn
  have ha:=hs a List.mem_cons_self
  have ih:=yo (as:=as) (bs:=bs.erase a) hn.2 fun x hx=>by
   have ne:x≠a:=fun z=>hn.1 (by rw[← z];exact hx)
   exact(List.mem_erase_of_ne ne).mpr (hs x (List.mem_cons_of_mem _ hx))
  rw[List.length_erase_of_mem ha] at ih
  have:=List.length_pos_of_mem ha
  rw[List.length_cons];omega
def nbs (ls:List (Int×Int)) (h:Int):List Int:=ls.flatMap fun p=>(if p.1=h then[p.2] else[])++if p.2=h then[p.1] else[]
theorem mem_nbs {ls:List (Int×Int)}{h x:Int}:x∈nbs ls h↔Adj ls h x:=by
 unfold nbs Adj
 rw[List.mem_flatMap]
 constructor
 ·rintro⟨⟨u,v⟩,hp,hx⟩
  dsimp only at hx
  rw[List.mem_append] at hx
  rcases hx with hx | hx
  ·split at hx
   ·rename_i e;subst e
    rw[List.mem_singleton] at hx;subst hx;exact .inl hp
   ·cases hx
  ·split at hx
   ·rename_i e;subst e
    rw[List.mem_singleton] at hx;subst hx;exact .inr hp
   ·cases hx
 ·rintro(h1 | h1)
  ·exact⟨_,h1,by simp⟩
  ·exact⟨_,h1,by simp⟩
theorem Yf {h:Int}:∀ {ls:List (Int×Int)},(nbs ls h).length≤2*ls.length
 |[]=>Nat.le_refl _
 |p::ls=>by
  have ih:=Yf (h:=h) (ls:=ls)
  unfold nbs at ih ⊢
  rw[List.flatMap_cons,List.length_append,List.length_append,List.length_cons]
  have h1:(if p.1=h then[p.2] else[]).length≤1:=by split<;>simp
  have h2:(if p.2=h then[p.1] else[]).length≤1:=by split<;>simp
  omega
theorem Xr {ls:List (Int×Int)}{p:Int×Int}{h:Int}:nbs (ls++[p]) h=nbs ls h++((if p.1=h then[p.2] else[])++if p.2=h then[p.1] else[]):=by
 unfold nbs
 rw[List.flatMap_append,List.flatMap_cons,List.flatMap_nil,List.append_nil]
theorem Xq {ls:List (Int×Int)}{p:Int×Int}{i:Nat}{h:Int}(e:ls[i]?=some p):nbs (ls.take (i+1)) h=nbs (ls.take i) h++((if p.1=h then[p.2] else[])++if p.2=h then[p.1] else[]):=by
 rw[List.take_add_one,e]
 exact Xr
noncomputable def top (i:Nat):Stmt:=PySem.Challenge.pw_beatless_k26_neighbours_trees_clusters.main.body.getD i (.Pass ⟨0,0,0,0⟩)
abbrev ZI:Stmt:=top 6
abbrev ZH:Stmt:=top 8
abbrev ZG:Stmt:=top 10
abbrev ZF:Stmt:=top 11
abbrev ZE:Stmt:=top 12
abbrev ZD:Stmt:=top 13
abbrev ZC:Stmt:=top 14
abbrev ZB:Stmt:=top 15
abbrev ZA:Stmt:=top 19
abbrev Zz:Stmt:=top 20
abbrev Zy:Stmt:=top 21
abbrev Zx:Stmt:=top 22
abbrev Zw:Stmt:=top 25
abbrev Zv:Stmt:=top 26
abbrev uG:Stmt:=top 27
abbrev Zu:Stmt:=top 28
abbrev Zs:Stmt:=top 29
abbrev Zr:Stmt:=top 30
abbrev uF:Stmt:=top 31
abbrev uE:Stmt:=top 32
abbrev Zq:Stmt:=top 33
abbrev uD:Stmt:=top 34
abbrev Zp:Stmt:=top 35
abbrev Zo:Stmt:=inClass (top 9) 0
abbrev Zn:Stmt:=inClass (top 9) 2
abbrev Zm:Stmt:=inClass (top 9) 3
abbrev ZP:Stmt:=inClass (top 9) 4
abbrev ZO:Stmt:=inClass (top 9) 5
abbrev ZN:Stmt:=inClass (top 23) 0
abbrev ZM:Stmt:=inClass (top 23) 1
abbrev ZL:Stmt:=inClass (top 23) 2
abbrev ZK:Stmt:=inClass (top 23) 3
abbrev ZJ:Stmt:=inClass (top 23) 5
theorem zbW:FnScope ["value"] ["value"] (defScope ZI):=⟨rfl,rfl,rfl,by decide +kernel,rfl,by decide +kernel,by decide +kernel⟩
theorem zbV:FnScope ["value"] ["value"] (defScope ZH):=⟨rfl,rfl,rfl,by decide +kernel,rfl,by decide +kernel,by decide +kernel⟩
theorem sc_qc:FnScope ["way", "lines", "found", "one", "other", "leaders"] ["way", "lines"] (defScope ZG):=⟨rfl,rfl,rfl,by decide +kernel,rfl,by decide +kernel,by decide +kernel⟩
theorem sc_qd:FnScope ["web", "left", "parents", "ring", "found", "hand", "other"] ["web", "left", "parents", "ring"] (defScope ZF):=⟨rfl,rfl,rfl,by decide +kernel,rfl,by decide +kernel,by decide +kernel⟩
theorem sc_qe:FnScope ["web", "left", "reach", "parents", "ring", "steps", "found"] ["web", "left", "reach"] (defScope ZE):=⟨rfl,rfl,rfl,by decide +kernel,rfl,by decide +kernel,by decide +kernel⟩
theorem sc_qf:FnScope ["web", "reach", "parents", "left", "joins"] ["web", "reach"] (defScope ZD):=⟨rfl,rfl,rfl,by decide +kernel,rfl,by decide +kernel,by decide +kernel⟩
theorem zbU:FnScope ["web"] ["web"] (defScope ZC):=⟨rfl,rfl,rfl,by decide +kernel,rfl,by decide +kernel,by decide +kernel⟩
theorem zbT:FnScope ["web"] ["web"] (defScope ZB):=⟨rfl,rfl,rfl,by decide +kernel,rfl,by decide +kernel,by decide +kernel⟩
theorem sc_qi:FnScope ["hands", "ahead", "hand"] ["hands"] (defScope ZA):=⟨rfl,rfl,rfl,by decide +kernel,rfl,by decide +kernel,by decide +kernel⟩
theorem zbS:FnScope ["line", "hands"] ["line", "hands"] (defScope Zz):=⟨rfl,rfl,rfl,by decide +kernel,rfl,by decide +kernel,by decide +kernel⟩
theorem sc_qk:FnScope ["lines", "hands", "seen", "line"] ["lines", "hands"] (defScope Zy):=⟨rfl,rfl,rfl,by decide +kernel,rfl,by decide +kernel,by decide +kernel⟩
theorem sc_ql:FnScope ["hands", "lines", "near", "hand", "one", "other"] ["hands", "lines"] (defScope Zx):=⟨rfl,rfl,rfl,by decide +kernel,rfl,by decide +kernel,by decide +kernel⟩
theorem zbR:FnScope ["_law_script", "_law_k"] ["_law_script", "_law_k"] (defScope Zw):=⟨rfl,rfl,rfl,by decide +kernel,rfl,by decide +kernel,by decide +kernel⟩
theorem sc_qn:FnScope ["_law_cell", "_law_many", "_law_found", "_law_rest", "_law_number", "_law_k", "_law_mixed"] ["_law_cell", "_law_many"] (defScope Zv):=⟨rfl,rfl,rfl,by decide +kernel,rfl,by decide +kernel,by decide +kernel⟩
theorem zbQ:FnScope ["_law_xs", "_law_size"] ["_law_xs", "_law_size"] (defScope uG):=⟨rfl,rfl,rfl,by decide +kernel,rfl,by decide +kernel,by decide +kernel⟩
theorem sc_qp:FnScope ["_law_xs", "_law_most", "_law_hand", "_law_found", "_law_k"] ["_law_xs", "_law_most"] (defScope Zu):=⟨rfl,rfl,rfl,by decide +kernel,rfl,by decide +kernel,by decide +kernel⟩
theorem sc_qq:FnScope ["_law_xs", "_law_hands_here", "_law_way_here", "_law_found", "_law_j", "_law_k", "_law_near_here", "_law_draw", "_law_at"] ["_law_xs", "_law_hands_here"] (defScope Zs):=⟨rfl,rfl,rfl,by decide +kernel,rfl,by decide +kernel,by decide +kernel⟩
theorem sc_qr:FnScope ["_law_lines_here", "_law_hand", "_law_found"] ["_law_lines_here", "_law_hand"] (defScope Zr):=⟨rfl,rfl,rfl,by decide +kernel,rfl,by decide +kernel,by decide +kernel⟩
theorem sc_qs:FnScope ["_law_lines_here", "_law_left", "_law_leader", "_law_reach", "_law_steps_here", "_law_row", "_law_hand", "_law_other"] ["_law_lines_here", "_law_left", "_law_leader", "_law_reach"] (defScope uF):=⟨rfl,rfl,rfl,by decide +kernel,rfl,by decide +kernel,by decide +kernel⟩
theorem sc_qt:FnScope ["_law_hands_here", "_law_lines_here", "_law_reach", "_law_left", "_law_parents", "_law_leads", "_law_steps_here", "_law_hand", "_law_near_here", "_law_found", "_law_one", "_law_other", "_law_both"] ["_law_hands_here", "_law_lines_here", "_law_reach"] (defScope uE):=⟨rfl,rfl,rfl,by decide +kernel,rfl,by decide +kernel,by decide +kernel⟩
theorem zbP:FnScope ["_law_way_here"] ["_law_way_here"] (defScope Zq):=⟨rfl,rfl,rfl,by decide +kernel,rfl,by decide +kernel,by decide +kernel⟩
theorem sc_qv:FnScope ["_law_hands_here", "_law_lines_here", "_law_reach", "_law_web", "_law_none", "_law_whole", "_law_turn", "_law_way_here"] ["_law_hands_here", "_law_lines_here", "_law_reach"] (defScope uD):=⟨rfl,rfl,rfl,by decide +kernel,rfl,by decide +kernel,by decide +kernel⟩
theorem sc_qw:FnScope ["_law_script", "_law_cell", "_law_xs", "_law_hands_here", "_law_lines_here"] ["_law_script"] (defScope Zp):=⟨rfl,rfl,rfl,by decide +kernel,rfl,by decide +kernel,by decide +kernel⟩
theorem zbO:FnScope ["self", "parents", "bridges"] ["self", "parents", "bridges"] (defScope Zo):=⟨rfl,rfl,rfl,by decide +kernel,rfl,by decide +kernel,by decide +kernel⟩
theorem zbN:FnScope ["self"] ["self"] (defScope Zn):=⟨rfl,rfl,rfl,by decide +kernel,rfl,by decide +kernel,by decide +kernel⟩
theorem zbM:FnScope ["self"] ["self"] (defScope Zm):=⟨rfl,rfl,rfl,by decide +kernel,rfl,by decide +kernel,by decide +kernel⟩
theorem sc_qA:FnScope ["self", "hand", "path", "above"] ["self", "hand"] (defScope ZP):=⟨rfl,rfl,rfl,by decide +kernel,rfl,by decide +kernel,by decide +kernel⟩
theorem zb2:FnScope ["self", "hand"] ["self", "hand"] (defScope ZO):=⟨rfl,rfl,rfl,by decide +kernel,rfl,by decide +kernel,by decide +kernel⟩
theorem zb1:FnScope ["self", "hands", "lines"] ["self", "hands", "lines"] (defScope ZN):=⟨rfl,rfl,rfl,by decide +kernel,rfl,by decide +kernel,by decide +kernel⟩
theorem zb0:FnScope ["self"] ["self"] (defScope ZM):=⟨rfl,rfl,rfl,by decide +kernel,rfl,by decide +kernel,by decide +kernel⟩
theorem zbZ:FnScope ["self"] ["self"] (defScope ZL):=⟨rfl,rfl,rfl,by decide +kernel,rfl,by decide +kernel,by decide +kernel⟩
theorem zbY:FnScope ["self", "hand"] ["self", "hand"] (defScope ZK):=⟨rfl,rfl,rfl,by decide +kernel,rfl,by decide +kernel,by decide +kernel⟩
theorem zbX:FnScope ["self", "hand"] ["self", "hand"] (defScope ZJ):=⟨rfl,rfl,rfl,by decide +kernel,rfl,by decide +kernel,by decide +kernel⟩
set_option genInjectivity false in
set_option genSizeOf false in
structure Ad where
 f_qa:Addr
 d_qa:FuncData
 f_qb:Addr
 d_qb:FuncData
 f_qc:Addr
 d_qc:FuncData
 f_qd:Addr
 d_qd:FuncData
 f_qe:Addr
 d_qe:FuncData
 f_qf:Addr
 d_qf:FuncData
 f_qg:Addr
 d_qg:FuncData
 f_qh:Addr
 d_qh:FuncData
 f_qi:Addr
 d_qi:FuncData
 f_qj:Addr
 d_qj:FuncData
 f_qk:Addr
 d_qk:FuncData
 f_ql:Addr
 d_ql:FuncData
 f_qm:Addr
 d_qm:FuncData
 f_qn:Addr
 d_qn:FuncData
 f_qo:Addr
 d_qo:FuncData
 f_qp:Addr
 d_qp:FuncData
 f_qq:Addr
 d_qq:FuncData
 f_qr:Addr
 d_qr:FuncData
 f_qs:Addr
 d_qs:FuncData
 f_qt:Addr
 d_qt:FuncData
 f_qu:Addr
 d_qu:FuncData
 f_qv:Addr
 d_qv:FuncData
 f_qw:Addr
 d_qw:FuncData
 f_qx:Addr
 d_qx:FuncData
 f_qy:Addr
 d_qy:FuncData
 f_qz:Addr
 d_qz:FuncData
 f_qA:Addr
 d_qA:FuncData
 f_qB:Addr
 d_qB:FuncData
 f_qC:Addr
 d_qC:FuncData
 f_qD:Addr
 d_qD:FuncData
 f_qE:Addr
 d_qE:FuncData
 f_qF:Addr
 d_qF:FuncData
 f_qG:Addr
 d_qG:FuncData
 c_Way:Addr
 c_Web:Addr
 t_MOST_HANDS:Tok
 t_LAST_HAND:Tok
structure Txt (w:World) (K:PySem.W.Frag) (mg:Str→Option Value) (a:Ad):Prop where
 n_len:mg "len" = none
 n_int:mg "int" = none
 n_min:mg "min" = none
 n_max:mg "max" = none
 n_range:mg "range" = none
 n_isinstance:mg "isinstance" = none
 n_list:mg "list" = none
 n_dict:mg "dict" = none
 n_sorted:mg "sorted" = none
 n_bool:mg "bool" = none
 n_tuple:mg "tuple" = none
 n_ValueError:mg "ValueError" = none
 F_qa:Fun K "is_whole" "is_whole" ZI a.f_qa a.d_qa
 b_qa:Binds K a.d_qa ["value"] []
 g_qa:mg "is_whole" = some (.ref a.f_qa)
 F_qb:Fun K "copied" "copied" ZH a.f_qb a.d_qb
 b_qb:Binds K a.d_qb ["value"] []
 g_qb:mg "copied" = some (.ref a.f_qb)
 F_qc:Fun K "first_joins" "first_joins" ZG a.f_qc a.d_qc
 b_qc:Binds K a.d_qc ["way", "lines"] []
 g_qc:mg "first_joins" = some (.ref a.f_qc)
 F_qd:Fun K "next_ring" "next_ring" ZF a.f_qd a.d_qd
 b_qd:Binds K a.d_qd ["web", "left", "parents", "ring"] []
 g_qd:mg "next_ring" = some (.ref a.f_qd)
 F_qe:Fun K "parents_in_cluster" "parents_in_cluster" ZE a.f_qe a.d_qe
 b_qe:Binds K a.d_qe ["web", "left", "reach"] []
 g_qe:mg "parents_in_cluster" = some (.ref a.f_qe)
 F_qf:Fun K "by_clusters" "by_clusters" ZD a.f_qf a.d_qf
 b_qf:Binds K a.d_qf ["web", "reach"] []
 g_qf:mg "by_clusters" = some (.ref a.f_qf)
 F_qg:Fun K "by_neighbours" "by_neighbours" ZC a.f_qg a.d_qg
 b_qg:Binds K a.d_qg ["web"] []
 g_qg:mg "by_neighbours" = some (.ref a.f_qg)
 F_qh:Fun K "by_tree" "by_tree" ZB a.f_qh a.d_qh
 b_qh:Binds K a.d_qh ["web"] []
 g_qh:mg "by_tree" = some (.ref a.f_qh)
 F_qi:Fun K "are_hands" "are_hands" ZA a.f_qi a.d_qi
 b_qi:Binds K a.d_qi ["hands"] []
 g_qi:mg "are_hands" = some (.ref a.f_qi)
 F_qj:Fun K "is_line" "is_line" Zz a.f_qj a.d_qj
 b_qj:Binds K a.d_qj ["line", "hands"] []
 g_qj:mg "is_line" = some (.ref a.f_qj)
 F_qk:Fun K "are_lines" "are_lines" Zy a.f_qk a.d_qk
 b_qk:Binds K a.d_qk ["lines", "hands"] []
 g_qk:mg "are_lines" = some (.ref a.f_qk)
 F_ql:Fun K "near_by_hand" "near_by_hand" Zx a.f_ql a.d_ql
 b_ql:Binds K a.d_ql ["hands", "lines"] []
 g_ql:mg "near_by_hand" = some (.ref a.f_ql)
 F_qm:Fun K "_law_cell_at" "_law_cell_at" Zw a.f_qm a.d_qm
 b_qm:Binds K a.d_qm ["_law_script", "_law_k"] []
 g_qm:mg "_law_cell_at" = some (.ref a.f_qm)
 F_qn:Fun K "_law_draws" "_law_draws" Zv a.f_qn a.d_qn
 b_qn:Binds K a.d_qn ["_law_cell", "_law_many"] []
 g_qn:mg "_law_draws" = some (.ref a.f_qn)
 F_qo:Fun K "_law_take" "_law_take" uG a.f_qo a.d_qo
 b_qo:Binds K a.d_qo ["_law_xs", "_law_size"] []
 g_qo:mg "_law_take" = some (.ref a.f_qo)
 F_qp:Fun K "_law_hands" "_law_hands" Zu a.f_qp a.d_qp
 b_qp:Binds K a.d_qp ["_law_xs", "_law_most"] []
 g_qp:mg "_law_hands" = some (.ref a.f_qp)
 F_qq:Fun K "_law_lines" "_law_lines" Zs a.f_qq a.d_qq
 b_qq:Binds K a.d_qq ["_law_xs", "_law_hands_here"] []
 g_qq:mg "_law_lines" = some (.ref a.f_qq)
 F_qr:Fun K "_law_near" "_law_near" Zr a.f_qr a.d_qr
 b_qr:Binds K a.d_qr ["_law_lines_here", "_law_hand"] []
 g_qr:mg "_law_near" = some (.ref a.f_qr)
 F_qs:Fun K "_law_steps" "_law_steps" uF a.f_qs a.d_qs
 b_qs:Binds K a.d_qs ["_law_lines_here", "_law_left", "_law_leader", "_law_reach"] []
 g_qs:mg "_law_steps" = some (.ref a.f_qs)
 F_qt:Fun K "_law_way" "_law_way" uE a.f_qt a.d_qt
 b_qt:Binds K a.d_qt ["_law_hands_here", "_law_lines_here", "_law_reach"] []
 g_qt:mg "_law_way" = some (.ref a.f_qt)
 F_qu:Fun K "_law_told" "_law_told" Zq a.f_qu a.d_qu
 b_qu:Binds K a.d_qu ["_law_way_here"] []
 g_qu:mg "_law_told" = some (.ref a.f_qu)
 F_qv:Fun K "_law_right" "_law_right" uD a.f_qv a.d_qv
 b_qv:Binds K a.d_qv ["_law_hands_here", "_law_lines_here", "_law_reach"] []
 g_qv:mg "_law_right" = some (.ref a.f_qv)
 F_qw:Fun K "law" "law" Zp a.f_qw a.d_qw
 b_qw:Binds K a.d_qw ["_law_script"] []
 b0_qw:∀ (s:Shared) (u:Value),BindsTo s a.d_qw ⟨[u],[]⟩ [("_law_script",u)]
 g_qw:mg "law" = some (.ref a.f_qw)
 F_qx:Fun K "__init__" "Way.__init__" Zo a.f_qx a.d_qx
 b_qx:Binds K a.d_qx ["self", "parents", "bridges"] []
 F_qy:Fun K "all_parents" "Way.all_parents" Zn a.f_qy a.d_qy
 b_qy:Binds K a.d_qy ["self"] []
 mt_qy:Meth K a.c_Way "all_parents" a.f_qy
 F_qz:Fun K "all_bridges" "Way.all_bridges" Zm a.f_qz a.d_qz
 b_qz:Binds K a.d_qz ["self"] []
 mt_qz:Meth K a.c_Way "all_bridges" a.f_qz
 F_qA:Fun K "path_up" "Way.path_up" ZP a.f_qA a.d_qA
 b_qA:Binds K a.d_qA ["self", "hand"] []
 mt_qA:Meth K a.c_Way "path_up" a.f_qA
 F_qB:Fun K "leader" "Way.leader" ZO a.f_qB a.d_qB
 b_qB:Binds K a.d_qB ["self", "hand"] []
 mt_qB:Meth K a.c_Way "leader" a.f_qB
 F_qC:Fun K "__init__" "Web.__init__" ZN a.f_qC a.d_qC
 b_qC:Binds K a.d_qC ["self", "hands", "lines"] []
 F_qD:Fun K "hands" "Web.hands" ZM a.f_qD a.d_qD
 b_qD:Binds K a.d_qD ["self"] []
 mt_qD:Meth K a.c_Web "hands" a.f_qD
 F_qE:Fun K "lines" "Web.lines" ZL a.f_qE a.d_qE
 b_qE:Binds K a.d_qE ["self"] []
 mt_qE:Meth K a.c_Web "lines" a.f_qE
 F_qF:Fun K "has_hand" "Web.has_hand" ZK a.f_qF a.d_qF
 b_qF:Binds K a.d_qF ["self", "hand"] []
 mt_qF:Meth K a.c_Web "has_hand" a.f_qF
 F_qG:Fun K "neighbours" "Web.neighbours" ZJ a.f_qG a.d_qG
 b_qG:Binds K a.d_qG ["self", "hand"] []
 mt_qG:Meth K a.c_Web "neighbours" a.f_qG
 g_Way:mg "Way" = some (.ref a.c_Way)
 cl_Way:Cls K a.c_Way
 mk_Way:Mk K a.c_Way a.f_qx
 ty_Way:∀ (H:Hp) (p dx:Addr) (fs:List (Str×V)),H p=some (.ins a.c_Way dx fs)→TyOf K H (.ref p) (.ref a.c_Way)
 na_Way_own_parents:NoAttr K a.c_Way "own_parents"
 na_Way_own_bridges:NoAttr K a.c_Way "own_bridges"
 g_Web:mg "Web" = some (.ref a.c_Web)
 cl_Web:Cls K a.c_Web
 mk_Web:Mk K a.c_Web a.f_qC
 ty_Web:∀ (H:Hp) (p dx:Addr) (fs:List (Str×V)),H p=some (.ins a.c_Web dx fs)→TyOf K H (.ref p) (.ref a.c_Web)
 na_Web_own_hands:NoAttr K a.c_Web "own_hands"
 na_Web_own_lines:NoAttr K a.c_Web "own_lines"
 na_Web_near:NoAttr K a.c_Web "near"
 k_tint_tint:PySem.W.kitOne K (.type "int") (.type "int")=some true
 k_tint_tbool:PySem.W.kitOne K (.type "int") (.type "bool")=some false
 k_tlist_tlist:PySem.W.kitOne K (.type "list") (.type "list")=some true
 k_ttuple_ttuple:PySem.W.kitOne K (.type "tuple") (.type "tuple")=some true
 k_ttuple_tlist:PySem.W.kitOne K (.type "tuple") (.type "list")=some false
 k_tdict_tlist:PySem.W.kitOne K (.type "dict") (.type "list")=some false
 k_tdict_ttuple:PySem.W.kitOne K (.type "dict") (.type "tuple")=some false
 k_tdict_tdict:PySem.W.kitOne K (.type "dict") (.type "dict")=some true
 k_tint_tlist:PySem.W.kitOne K (.type "int") (.type "list")=some false
 k_tint_ttuple:PySem.W.kitOne K (.type "int") (.type "tuple")=some false
 k_tint_tdict:PySem.W.kitOne K (.type "int") (.type "dict")=some false
 k_tNoneType_tlist:PySem.W.kitOne K (.type "NoneType") (.type "list")=some false
 k_tNoneType_ttuple:PySem.W.kitOne K (.type "NoneType") (.type "tuple")=some false
 k_tNoneType_tdict:PySem.W.kitOne K (.type "NoneType") (.type "dict")=some false
 g_MOST_HANDS:mg "MOST_HANDS" = some (.int 12 a.t_MOST_HANDS)
 g_LAST_HAND:mg "LAST_HAND" = some (.int 99 a.t_LAST_HAND)
def LnAt (H:Hp) (rs:List V) (ls:List (Int×Int)):Prop:=rs.length=ls.length∧∀ (i:Nat) r p,rs[i]?=some r→ls[i]?=some p→∃ q,r=.ref q∧H q=some (.tup [.int p.1,.int p.2])
theorem LnAt.same {H H':Hp}{rs:List V}{ls:List (Int×Int)}(h:LnAt H rs ls) (s:Same H H'):LnAt H' rs ls:=⟨h.1,fun i r p h1 h2=>by
 obtain⟨q,e,t⟩:=h.2 i r p h1 h2
 exact⟨q,e,s _ _ t⟩⟩
theorem LnAt.get {H:Hp}{rs:List V}{ls:List (Int×Int)}(h:LnAt H rs ls){i:Nat}{r:V}(e:rs[i]?=some r):∃ p q,ls[i]?=some p∧r=.ref q∧H q=some (.tup [.int p.1,.int p.2]):=by
 have hi:i<ls.length:=by rw[← h.1];exact(List.getElem?_eq_some_iff.mp e).1
 have hp:ls[i]?=some ls[i]:=by simp[hi]
 obtain⟨q,e1,e2⟩:=h.2 i r _ e hp
 exact⟨_,q,hp,e1,e2⟩
theorem yz {x:Int}:∀ {ns:List Int},inV (.int x) (ns.map V.int)=decide (x∈ns)
 |[]=>by simp[inV]
 |n::ns=>by
  have ih:=yz (x:=x) (ns:=ns)
  unfold inV at ih ⊢
  rw[List.map_cons,List.any_cons,ih]
  show((n == x)||decide (x∈ns))=decide (x∈n::ns)
  by_cases e:n=x
  ·simp[e]
  ·have e':¬ x=n:=fun z=>e z.symm
   simp[e,e']
theorem ya (ns:List Int):(ns.map V.int).all xT=true:=by
 rw[List.all_eq_true]
 intro v hv
 obtain⟨x,_,rfl⟩:=List.mem_map.mp hv
 rfl
section
variable {P:Program}{w:World}{K:PySem.W.Frag}{mg:Str→Option Value}{base:Heap}{a:Ad}
def wC:Sp:=fun vs H Q _=>∃ i:Int,vs=[.int i]∧Q (.bl true) H
theorem wI (T:Txt w K mg a):FnOk P w K mg base CX0 1 a.f_qa a.d_qa ["value"] wC:=by
 refine T.F_qa.ok zbW (fun vs H Q E h=>?_) (fun cdv A outer s H vs Q E hr h=>?_)
 ·obtain⟨i,rfl,_⟩:=h
  rfl
 ·obtain⟨i,rfl,k⟩:=h
  refine⟨_,(zE (yq (uh (zW ye (by rfl) T.n_isinstance zA (xo (pv 0) (xo (wj T.n_int zae) zK))) (Z4 (Up (zW ye (by rfl) T.n_isinstance zA (xo (pv 0) (xo (wj T.n_bool VG) zK)))))))),?_⟩
  refine⟨_,rfl,_,_,_,_,_,rfl,rfl,.int i,T.k_tint_tint,_,rfl,vt ?_⟩
  exact⟨_,rfl,_,_,_,_,_,rfl,rfl,.int i,T.k_tint_tbool,_,rfl,k⟩
def ZS:Sp:=fun vs H Q _=>∃ (h:Addr) (hs:List Int),vs=[.ref h]∧H h=some (.lst (hs.map V.int))∧Hs hs∧Q (.bl true) H
theorem Xn (T:Txt w K mg a):FnOk P w K mg base CX0 2 a.f_qi a.d_qi ["hands"] ZS:=by
 have c_qa:Callee P w K mg base "is_whole" a.f_qa a.d_qa ["value"] 1 wC:=⟨wI T,T.g_qa,T.F_qa.kp,T.b_qa⟩
 refine T.F_qi.ok sc_qi (fun vs H Q E h=>?_) (fun cdv A outer s H vs Q E hr h=>?_)
 ·obtain⟨h,hs,rfl,_⟩:=h
  rfl
 ·obtain⟨h,hs,rfl,hh,W,k⟩:=h
  have w1:=W.l1
  have w12:=W.l12
  refine⟨_,(zw (wF (PW.pt (w4 (yH (yG (zW ye (by rfl) T.n_isinstance zA (xo (pv 0) (xo (wj T.n_list yR) zK))))) (w4 (xj xX (zW zx (by rfl) T.n_len yN (xo (pv 0) zK)) yJ (zr _)) (wg (xj Vg (zW zx (by rfl) T.n_len yN (xo (pv 0) zK)) (Z6 (v:=.int 12) rfl T.g_MOST_HANDS ⟨_,rfl⟩) (zr _))))))
    (zE (yq xW))
    yn)
   (zw (w6 (i:=1) sc_qi.nd rfl (Or.inl rfl) (Um Zb yJ))
   (zw (w8 PassesOwn.never rfl (xM (pv 0)) (xk (i:=2) sc_qi.nd rfl (Or.inl rfl))
    (zw (wF (PW.pt (w4 (yH (yG (Wi c_qa (hr.mono (by omega)) (xo (pv 2) zK)))) (w4 (xj zb8 (pv 2) (pv 1) (zr _)) (wg (xj Vg (pv 2) (Z6 (v:=.int 99) rfl T.g_LAST_HAND ⟨_,rfl⟩) (zr _))))))
     (zE (yq xW))
     yn)
    (zE (w6 (i:=1) sc_qi.nd rfl (Or.inl rfl) (pv 2)))))
   (zE (yq xW))))),?_⟩
  refine⟨_,rfl,_,_,_,_,_,rfl,rfl,.lst hh,T.k_tlist_tlist,_,rfl,z4 rfl ?_⟩
  refine⟨_,rfl,h,_,rfl,.inl (SqL.of hh),_,_,rfl,rfl,_,rfl,z4 (decide_eq_false (by rw[List.length_map];omega)) ?_⟩
  refine⟨_,rfl,h,_,rfl,.inl (SqL.of hh),_,_,rfl,rfl,_,rfl,z4 (decide_eq_false (by rw[List.length_map];omega)) ?_⟩
  refine⟨1,rfl,_,rfl,h,rfl,⟨_,SqL.of hh⟩,?_⟩
  refine for_list (K:=K) (a:=h) (xs:=hs.map V.int) (fun i σ H'=>H'=H∧∃ (m:Int) (o:Option V),σ=[some (.ref h),some (.int m),o]∧-1≤m∧∀ j x,i≤j→hs[j]?=some x→m<x) ?_ ?_ ?_ ?_
  ·refine⟨rfl,-1,none,rfl,Int.le_refl _,fun j x _ hx=>?_⟩
   have:=W.lo x (List.mem_of_getElem? hx)
   omega
  ·rintro i σ H' _ ⟨rfl,_⟩
   exact SqL.of hh
  ·rintro i x σ H' hi ⟨rfl,m,o,rfl,hm,hall⟩
   rw[List.getElem?_map] at hi
   obtain⟨y,hy,rfl⟩:=Option.map_eq_some_iff.mp hi
   have y1:=hall i y (Nat.le_refl _) hy
   have y2:=W.hi y (List.mem_of_getElem? hy)
   refine⟨_,rfl,y,rfl,_,rfl,z4 rfl ?_⟩
   refine⟨_,rfl,_,rfl,_,_,rfl,rfl,_,rfl,z4 (decide_eq_false (by omega)) ?_⟩
   refine⟨_,rfl,_,_,rfl,rfl,_,rfl,z4 (decide_eq_false (by omega)) ?_⟩
   refine⟨_,rfl,rfl,y,_,rfl,by omega,fun j z hj hz=>?_⟩
   have hlt:i<j:=by omega
   obtain⟨b1,e1⟩:=List.getElem?_eq_some_iff.mp hy
   obtain⟨b2,e2⟩:=List.getElem?_eq_some_iff.mp hz
   rw[← e1,← e2]
   exact List.pairwise_iff_getElem.mp W.up i j b1 b2 hlt
  ·rintro σ H' ⟨rfl,_⟩
   exact k
def spLine:Sp:=fun vs H Q _=>∃ (q h:Addr) (hs:List Int) (p:Int×Int),vs=[.ref q,.ref h]∧H q=some (.tup [.int p.1,.int p.2])∧H h=some (.lst (hs.map V.int))∧(p.1∈hs∧p.2∈hs∧p.1<p.2)∧Q (.bl true) H
theorem Vj (T:Txt w K mg a):FnOk P w K mg base CX0 2 a.f_qj a.d_qj ["line", "hands"] spLine:=by
 have c_qa:Callee P w K mg base "is_whole" a.f_qa a.d_qa ["value"] 1 wC:=⟨wI T,T.g_qa,T.F_qa.kp,T.b_qa⟩
 refine T.F_qj.ok zbS (fun vs H Q E h=>?_) (fun cdv A outer s H vs Q E hr h=>?_)
 ·obtain⟨q,h,hs,p,rfl,_⟩:=h
  rfl
 ·obtain⟨q,h,hs,⟨x,y⟩,rfl,hq,hh,⟨h1,h2,h3⟩,k⟩:=h
  dsimp only at hq h1 h2 h3
  refine⟨_,(zw (wF (PW.pt (w4 (yH (yG (zW ye (by rfl) T.n_isinstance zA (xo (pv 0) (xo (wj T.n_tuple xB) zK))))) (wg (xj Vf (zW zx (by rfl) T.n_len yN (xo (pv 0) zK)) yJ (zr _)))))
    (zE (yq xW))
    yn)
   (zw (wF (PW.pt (w4 (yH (yG (Wi c_qa (hr.mono (by omega)) (yx (vC yy (pv 0) yJ (fun _ _=>rfl)) zK)))) (wg (yH (yG (Wi c_qa (hr.mono (by omega)) (yx (vC yy (pv 0) yJ (fun _ _=>rfl)) zK)))))))
    (zE (yq xW))
    yn)
   (zE (yq (uh (wH yX (vC yy (pv 0) yJ (fun _ _=>rfl)) (pv 1) (by with_unfolding_all rfl)) (uh (wH yX (vC yy (pv 0) yJ (fun _ _=>rfl)) (pv 1) (by with_unfolding_all rfl)) (Z4 (wH xX (vC yy (pv 0) yJ (fun _ _=>rfl)) (vC yy (pv 0) yJ (fun _ _=>rfl)) (zr _))))))))),?_⟩
  refine⟨_,rfl,_,_,_,_,_,rfl,rfl,.tup hq,T.k_ttuple_ttuple,_,rfl,z4 rfl ?_⟩
  refine⟨_,rfl,q,_,rfl,.inr (SqT.of hq),rfl,_,rfl,z4 rfl ?_⟩
  refine⟨_,rfl,q,_,0,_,rfl,rfl,SqT.of hq,rfl,x,rfl,_,rfl,z4 rfl ?_⟩
  refine⟨_,rfl,q,_,1,_,rfl,rfl,SqT.of hq,rfl,y,rfl,_,rfl,z4 rfl ?_⟩
  refine⟨_,rfl,q,_,0,_,rfl,rfl,SqT.of hq,rfl,_,rfl,h,_,rfl,.inl (SqL.of hh),rfl,ya hs,_,rfl,iteB (by show inV (.int x) _=true;rw[yz];exact decide_eq_true h1) ?_⟩
  refine⟨_,rfl,q,_,1,_,rfl,rfl,SqT.of hq,rfl,_,rfl,h,_,rfl,.inl (SqL.of hh),rfl,ya hs,_,rfl,iteB (by show inV (.int y) _=true;rw[yz];exact decide_eq_true h2) ?_⟩
  refine⟨_,rfl,q,_,0,_,rfl,rfl,SqT.of hq,rfl,_,rfl,q,_,1,_,rfl,rfl,SqT.of hq,rfl,_,_,rfl,rfl,?_⟩
  show Q (.bl (decide (x<y))) H
  rw[decide_eq_true h3]
  exact k
section
variable {κ:Type} [DecidableEq κ]
theorem xG {kvs:List (κ×V)}{k:κ}:(yw kvs k).isSome=decide (k∈kvs.map (·.1)):=by
 rw[← yV]
 by_cases h:k∈kvs.map (·.1)
 ·rw[decide_eq_true h,List.any_eq_true]
  obtain⟨p,hp,rfl⟩:=List.mem_map.mp h
  exact⟨p,hp,decide_eq_true rfl⟩
 ·rw[decide_eq_false h,List.any_eq_false]
  intro p hp e
  exact h (List.mem_map.mpr ⟨p,hp,of_decide_eq_true e⟩)
theorem valV_no {kvs:List (κ×V)}{k:κ}(h:k∉kvs.map (·.1)):(yw kvs k).isSome=false:=by rw[xG];exact decide_eq_false h
theorem putK_new {kvs:List (κ×V)}{k:κ}{v:V}(h:k∉kvs.map (·.1)):putK kvs k v=kvs++[(k,v)]:=by
 unfold putK
 rw[if_neg]
 rw[yV,xG,decide_eq_true_iff]
 exact h
end
theorem _root_.L2.Same.updF {p:Addr}{H H':Hp}{o:HO}(x:Same H H') (h:H p=none):Same H (L2.upd H' p o):=fun b u e=>by
 rw[upd_ne (ne_of_none e h)];exact x b u e
noncomputable abbrev Vv (p:Int×Int):List Key:=[Sum.inl p.1,Sum.inl p.2]
theorem XB {p q:Int×Int}(h:Vv p=Vv q):p=q:=by
 obtain⟨a,b⟩:=p
 obtain⟨c,d⟩:=q
 simp[Vv] at h
 rw[h.1,h.2]
theorem vH {α:Type}{xs:List α}{i:Nat}{x:α}(h:xs.Nodup) (e:xs[i]?=some x):x∉xs.take i:=by
 intro m
 obtain⟨j,hj,ej⟩:=List.getElem_of_mem m
 obtain⟨hi,ei⟩:=List.getElem?_eq_some_iff.mp e
 rw[List.getElem_take] at ej
 rw[List.length_take] at hj
 have:=(List.nodup_iff_pairwise_ne.mp h)
 exact List.pairwise_iff_getElem.mp this j i (by omega) hi (by omega) (ej.trans ei.symm)
def ZR:Sp:=fun vs H Q _=>∃ (l h:Addr) (rs:List V) (hs:List Int) (ls:List (Int×Int)),vs=[.ref l,.ref h]∧H l=some (.lst rs)∧LnAt H rs ls∧H h=some (.lst (hs.map V.int))∧Ls hs ls∧∀ H',Same H H'→Q (.bl true) H'
theorem Xm (T:Txt w K mg a):FnOk P w K mg base CX0 3 a.f_qk a.d_qk ["lines", "hands"] ZR:=by
 have c_qj:Callee P w K mg base "is_line" a.f_qj a.d_qj ["line", "hands"] 2 spLine:=⟨Vj T,T.g_qj,T.F_qj.kp,T.b_qj⟩
 refine T.F_qk.ok sc_qk (fun vs H Q E h=>?_) (fun cdv A outer s H vs Q E hr h=>?_)
 ·obtain⟨l,h,rs,hs,ls,rfl,_⟩:=h
  rfl
 ·obtain⟨l,h,rs,hs,ls,rfl,hl,hrs,hh,L,k⟩:=h
  have l66:=L.le
  have hu:=xm hr
  refine⟨_,(zw (wF (yH (yG (zW ye (by rfl) T.n_isinstance zA (xo (pv 0) (xo (wj T.n_list yR) zK)))))
    (zE (yq xW))
    yn)
   (zw (w6 (i:=2) sc_qk.nd rfl (Or.inl rfl) uf)
   (zw (w8 PassesOwn.never rfl (xM (pv 0)) (xk (i:=3) sc_qk.nd rfl (Or.inl rfl))
    (zw (wF (PW.pt (w4 (yH (yG (Wi c_qj (hr.mono (by omega)) (xo (pv 3) (xo (pv 1) zK))))) (wg (Wf (Wj hu (pv 3) (pv 2))))))
     (zE (yq xW))
     yn)
    (zE (vB hu (pv 2) (pv 3) xW rfl))))
   (zE (yq xW))))),?_⟩
  refine⟨_,rfl,_,_,_,_,_,rfl,rfl,.lst hl,T.k_tlist_tlist,_,rfl,z4 rfl ?_⟩
  refine fun d hd=>?_
  refine⟨_,rfl,l,rfl,⟨_,SqL.of (Same.new hd _ _ hl)⟩,?_⟩
  refine for_list (K:=K) (a:=l) (xs:=rs) (fun i σ H'=>∃ (kvs:List (List Key×V)) (o:Option V),σ=[some (.ref l),some (.ref h),some (.ref d),o]∧H' d=some (.dT kvs)∧kvs.map (·.1)=(ls.take i).map Vv∧Same H H') ?_ ?_ ?_ ?_
  ·exact⟨[],none,rfl,upd_same,by simp,Same.new hd⟩
  ·rintro i σ H' _ ⟨kvs,o,_,_,_,sm⟩
   exact SqL.of (sm _ _ hl)
  ·rintro i x σ H' hi ⟨kvs,o,rfl,hd',hk,sm⟩
   obtain⟨p,q,hp,rfl,hq⟩:=(hrs.same sm).get hi
   have hm:p∈ls:=List.mem_of_getElem? hp
   refine⟨_,rfl,_,rfl,q,h,hs,p,rfl,hq,sm _ _ hh,L.ok p hm,_,rfl,z4 rfl ?_⟩
   have hnew:Vv p∉kvs.map (·.1):=by
    rw[hk]
    intro z
    obtain⟨p',m',e'⟩:=List.mem_map.mp z
    rw[XB e'] at m'
    exact vH L.nd hp m'
   have hz:kvs.length≤1000:=by
    have:=congrArg List.length hk
    rw[List.length_map,List.length_map,List.length_take] at this
    omega
   refine⟨_,rfl,_,rfl,d,_,rfl,DGet.t (k:=Vv p) hd' hq,_,rfl,z4 ?_ ?_⟩
   ·exact valV_no hnew
   ·refine⟨_,rfl,_,rfl,d,_,rfl,DPut.t (k:=Vv p) hd' hq (zi hz),?_⟩
    refine⟨_,_,rfl,upd_same,?_,sm.updF hd⟩
    rw[putK_new hnew,List.map_append,hk,List.take_add_one,hp,List.map_append]
    rfl
  ·rintro σ H' ⟨kvs,o,_,_,_,sm⟩
   exact k H' sm
noncomputable def tab (ad:Int→Addr) (us:List Int):List (Key×V):=us.map fun h=>(Sum.inl h,V.ref (ad h))
theorem Y4 {ad:Int→Addr}{us:List Int}:(tab ad us).map (·.1)=us.map Sum.inl:=by
 unfold tab;rw[List.map_map];rfl
theorem X0 {ad:Int→Addr}{x:Int}:∀ {us:List Int},x∈us→yw (tab ad us) (Sum.inl x:Key)=some (V.ref (ad x))
 |u::us,h=>by
  show yw ((Sum.inl u,V.ref (ad u))::tab ad us) _=_
  by_cases e:u=x
  ·subst e;rw[xu rfl]
  ·rw[xv (fun z=>e (by injection z)),X0]
   rcases List.mem_cons.mp h with z | z
   ·exact absurd z.symm e
   ·exact z
theorem wz {H:Hp}{d:Addr}{ad:Int→Addr}{us:List Int}{x:Int}(e:H d=some (.dK (tab ad us))) (h:x∈us):DGet H d (V.int x) (some (V.ref (ad x))):=by
 have:=DGet.k (k:=Sum.inl x) e
 rw[X0 h] at this
 exact this
theorem vL {x:Int}{us:List Int}:(Sum.inl x:Key)∈us.map (Sum.inl:Int→Key)↔x∈us:=by
 rw[List.mem_map]
 exact⟨fun⟨y,h,e⟩=>by injection e with e;exact e ▸ h,fun h=>⟨x,h,rfl⟩⟩
noncomputable def zam (ad:Int→Addr) (y:Int) (p:Addr):Int→Addr:=fun x=>if x=y then p else ad x
theorem putA_at {ad:Int→Addr}{x y:Int}{p:Addr}(e:x=y):zam ad y p x=p:=if_pos e
theorem putA_ne {ad:Int→Addr}{x y:Int}{p:Addr}(e:¬ x=y):zam ad y p x=ad x:=if_neg e
structure Near (H:Hp) (d:Addr) (hs:List Int) (ls:List (Int×Int)) (ad:Int→Addr):Prop where
 d:H d=some (.dK (tab ad hs))
 nb:∀ h∈hs,H (ad h)=some (.lst ((nbs ls h).map V.int))
theorem Near.same {H H':Hp}{d:Addr}{hs:List Int}{ls:List (Int×Int)}{ad:Int→Addr}(n:Near H d hs ls ad) (s:Same H H'):Near H' d hs ls ad:=⟨s _ _ n.d,fun h m=>s _ _ (n.nb h m)⟩
def Wd:Sp:=fun vs H Q _=>∃ (h l:Addr) (rs:List V) (hs:List Int) (ls:List (Int×Int)),vs=[.ref h,.ref l]∧H h=some (.lst (hs.map V.int))∧H l=some (.lst rs)∧LnAt H rs ls∧Hs hs∧Ls hs ls ∧
 ∀ (d:Addr) (ad:Int→Addr) H',Same H H'→H d=none→(∀ x∈hs,H (ad x)=none)→Near H' d hs ls ad→Q (.ref d) H'
theorem Vi (T:Txt w K mg a):FnOk P w K mg base CX0 1 a.f_ql a.d_ql ["hands", "lines"] Wd:=by
 refine T.F_ql.ok sc_ql (fun vs H Q E h=>?_) (fun cdv A outer s H vs Q E hr h=>?_)
 ·obtain⟨h,l,rs,hs,ls,rfl,_⟩:=h
  rfl
 ·obtain⟨h,l,rs,hs,ls,rfl,hh,hl,hrs,W,L,k⟩:=h
  have l66:=L.le
  have l12:=W.l12
  have hu:=xm hr
  refine⟨_,(zw (w6 (i:=2) sc_ql.nd rfl (Or.inl rfl) ug)
   (zw (w8 PassesOwn.never rfl (xM (pv 0)) (xk (i:=3) sc_ql.nd rfl (Or.inl rfl))
    (zE (vB hu (pv 2) (pv 3) (Wh zK) rfl)))
   (zw (w8 PassesOwn.never rfl (xM (pv 1)) (Wg rfl (wG (xk (i:=4) sc_ql.nd rfl (Or.inl rfl)) (wG (xk (i:=5) sc_ql.nd rfl (Or.inl rfl)) Z1)))
    (zw (vA (Vc PySem.F.plainAttrs_list PySem.F.slot_list_append PySem.F.type_list_append zL (vD hu (pv 2) (pv 4) (fun _ _=>rfl)) (xo (pv 5) zK)))
    (zE (vA (Vc PySem.F.plainAttrs_list PySem.F.slot_list_append PySem.F.type_list_append zL (vD hu (pv 2) (pv 5) (fun _ _=>rfl)) (xo (pv 4) zK))))))
   (zE (yq (pv 2)))))),?_⟩
  refine fun d hd=>?_
  refine⟨_,rfl,h,rfl,⟨_,SqL.of (Same.new hd _ _ hh)⟩,?_⟩
  refine for_list (K:=K) (a:=h) (xs:=hs.map V.int) (fun i σ H'=>∃ (ad:Int→Addr) (o:Option V),σ=[some (.ref h),some (.ref l),some (.ref d),o,none,none]∧H' d=some (.dK (tab ad (hs.take i))) ∧
   (∀ x∈hs.take i,H' (ad x)=some (.lst [])∧H (ad x)=none)∧(∀ x∈hs.take i,∀ y∈hs.take i,ad x=ad y→x=y)∧Same H H') ?_ ?_ ?_ ?_
  ·exact⟨fun _=>0,none,rfl,upd_same,fun x hx=>by simp at hx,fun x hx=>by simp at hx,Same.new hd⟩
  ·rintro i σ H' _ ⟨ad,o,_,_,_,_,sm⟩
   exact SqL.of (sm _ _ hh)
  ·rintro i x σ H' hi ⟨ad,o,rfl,hd',hat,hinj,sm⟩
   rw[List.getElem?_map] at hi
   obtain⟨y,hy,rfl⟩:=Option.map_eq_some_iff.mp hi
   have hnew:y∉hs.take i:=vH (Y3 W.up) hy
   refine⟨(by show 0≤sizeLine;decide),fun p hp=>?_⟩
   have hpd:p≠d:=fun z=>by rw[z,hd'] at hp;cases hp
   have hd2:(upd H' p (.lst [])) d=some (.dK (tab ad (hs.take i))):=by rw[upd_ne hpd.symm];exact hd'
   refine⟨_,rfl,_,rfl,d,_,rfl,DPut.k (k:=Sum.inl y) hd2 (zi ?_),?_⟩
   ·unfold tab
    rw[List.length_map,List.length_take];omega
   ·have et:hs.take (i+1)=hs.take i++[y]:=by rw[List.take_add_one,hy];rfl
    have hp0:H p=none:=sm.free hp
    have hne:∀ x∈hs.take i,ad x≠p:=fun x hx z=>by
     have:=(hat x hx).1
     rw[z,hp] at this;cases this
    have had:∀ x∈hs.take i,ad x≠d:=fun x hx z=>by
     have:=(hat x hx).1
     rw[z,hd'] at this;cases this
    refine⟨zam ad y p,_,rfl,?_,?_,?_,(sm.updF hp0).updF hd⟩
    ·rw[upd_same,K04.putK_new (by rw[Y4,vL];exact hnew),et]
     unfold tab
     rw[List.map_append]
     congr 3
     ·refine List.map_congr_left fun x hx=>?_
      rw[putA_ne (fun z=>hnew (by rw[← z];exact hx))]
     ·show _=[(Sum.inl y,V.ref (zam ad y p y))]
      rw[putA_at rfl]
    ·intro x hx
     rw[et,List.mem_append,List.mem_singleton] at hx
     by_cases e:x=y
     ·rw[putA_at e,upd_ne hpd,upd_same]
      exact⟨rfl,hp0⟩
     ·rw[putA_ne e]
      have hx:=hx.resolve_right e
      rw[upd_ne (had x hx),upd_ne (hne x hx)]
      exact hat x hx
    ·intro x hx z hz
     rw[et,List.mem_append,List.mem_singleton] at hx hz
     by_cases e1:x=y
     ·by_cases e2:z=y
      ·intro _;rw[e1,e2]
      ·rw[putA_at e1,putA_ne e2]
       intro q;exact absurd q.symm (hne z (hz.resolve_right e2))
     ·by_cases e2:z=y
      ·rw[putA_ne e1,putA_at e2]
       intro q;exact absurd q (hne x (hx.resolve_right e1))
      ·rw[putA_ne e1,putA_ne e2]
       exact hinj x (hx.resolve_right e1) z (hz.resolve_right e2)
  ·rintro σ H1 ⟨ad,o,rfl,hd',hat,hinj,sm⟩
   rw[List.length_map,List.take_length] at hd' hat hinj
   refine⟨_,rfl,l,rfl,⟨_,SqL.of (sm _ _ hl)⟩,?_⟩
   refine for_list (K:=K) (a:=l) (xs:=rs) (fun i σ H'=>∃ (o1 o2:Option V),σ=[some (.ref h),some (.ref l),some (.ref d),o,o1,o2]∧Near H' d hs (ls.take i) ad∧Same H H') ?_ ?_ ?_ ?_
   ·exact⟨none,none,rfl,⟨hd',fun x hx=>by rw[List.take_zero];exact(hat x hx).1⟩,sm⟩
   ·rintro i σ H' _ ⟨o1,o2,_,_,sm'⟩
    exact SqL.of (sm' _ _ hl)
   ·rintro i x σ H' hi ⟨o1,o2,rfl,N,sm'⟩
    obtain⟨⟨x,y⟩,q,hp,rfl,hq⟩:=(hrs.same sm').get hi
    obtain⟨hx,hy,hxy⟩:=L.ok _ (List.mem_of_getElem? hp)
    dsimp only at hq hx hy hxy
    refine⟨q,_,rfl,SqT.of hq,rfl,_,_,rfl,_,_,rfl,rfl,?_⟩
    have len:∀ z,((nbs (ls.take i) z).map V.int).length<sizeLine:=fun z=>by
     rw[List.length_map]
     have:=Yf (h:=z) (ls:=ls.take i)
     rw[List.length_take] at this
     exact zi (by omega)
    have hdx:ad x≠d:=fun z=>by
     have:=N.nb x hx
     rw[z,N.d] at this;cases this
    have hdy:ad y≠d:=fun z=>by
     have:=N.nb y hy
     rw[z,N.d] at this;cases this
    have hne:ad y≠ad x:=fun z=>by have:=hinj y hy x hx z;omega
    refine⟨_,rfl,_,rfl,d,V.ref (ad x),rfl,wz N.d hx,.inl ⟨rfl,_,SqL.of (N.nb x hx)⟩,_,rfl,_,_,_,rfl,rfl,N.nb x hx,len x,?_⟩
    have nd2:(upd H' (ad x) (.lst ((nbs (ls.take i) x).map V.int++[V.int y]))) d=some (.dK (tab ad hs)):=by rw[upd_ne hdx.symm];exact N.d
    have ny2:(upd H' (ad x) (.lst ((nbs (ls.take i) x).map V.int++[V.int y]))) (ad y)=some (.lst ((nbs (ls.take i) y).map V.int)):=by rw[upd_ne hne];exact N.nb y hy
    refine⟨_,rfl,_,rfl,d,V.ref (ad y),rfl,wz nd2 hy,.inl ⟨rfl,_,SqL.of ny2⟩,_,rfl,_,_,_,rfl,rfl,ny2,len y,?_⟩
    refine⟨_,_,rfl,⟨?_,fun z hz=>?_⟩,(sm'.updF (hat x hx).2).updF (hat y hy).2⟩
    ·rw[upd_ne hdy.symm];exact nd2
    ·rw[Xq hp]
     by_cases e2:z=y
     ·subst e2
      rw[upd_same,if_neg (by show ¬ x=z;omega),if_pos rfl,List.map_append]
      rfl
     ·rw[upd_ne (fun q=>e2 (hinj z hz y hy q))]
      by_cases e1:z=x
      ·subst e1
       rw[upd_same,if_pos rfl,if_neg (by show ¬ y=z;omega),List.map_append]
       rfl
      ·rw[upd_ne (fun q=>e1 (hinj z hz x hx q)),if_neg (fun q=>e1 q.symm),if_neg (fun q=>e2 q.symm),List.append_nil,List.append_nil]
       exact N.nb z hz
   ·rintro σ H' ⟨o1,o2,rfl,N,sm'⟩
    rw[hrs.1,List.take_length] at N
    exact⟨_,rfl,k d ad H' sm' hd (fun x hx=>(hat x hx).2) N⟩
theorem Near.ext {H H':Hp}{d p dx C:Addr}{fs:List (Str×V)}{hs:List Int}{ls:List (Int×Int)}{ad:Int→Addr}(n:Near H d hs ls ad) (hp:H p=some (.ins C dx fs)) (s:Ext p H H'):Near H' d hs ls ad :=
 ⟨s _ _ n.d (fun z=>by rw[← z,n.d] at hp;cases hp),fun h m=>s _ _ (n.nb h m) (fun z=>by rw[← z,n.nb h m] at hp;cases hp)⟩
theorem LnAt.ext {H H':Hp}{p dx C:Addr}{fs:List (Str×V)}{rs:List V}{ls:List (Int×Int)}(h:LnAt H rs ls) (hp:H p=some (.ins C dx fs)) (s:Ext p H H'):LnAt H' rs ls:=⟨h.1,fun i r q h1 h2=>by
 obtain⟨t,e,ht⟩:=h.2 i r q h1 h2
 exact⟨t,e,s _ _ ht fun z=>by rw[← z,ht] at hp;cases hp⟩⟩
theorem Ext.free {l p:Addr}{H H':Hp}(k:Ext l H H') (n:p≠l) (h:H' p=none):H p=none:=by
 cases e:H p with
 |none=>rfl
 |some o=>have:=k _ _ e n;rw[h] at this;cases this
open Sco
def srt (ls:List (Int×Int)):List (Int×Int):=ls.mergeSort fun p q=>decide (rkP p≤rkP q)
def Bd (ls:List (Int×Int)):Prop:=∀ p∈ls,0≤p.2∧p.2<1000
theorem xw (ls:List (Int×Int)):(srt ls).Perm ls:=List.mergeSort_perm _ _
theorem Wa (ls:List (Int×Int)):(srt ls).Pairwise fun p q=>rkP p≤rkP q:=by
 have:=List.pairwise_mergeSort (le:=fun p q:Int×Int=>decide (rkP p≤rkP q)) (fun a b c h1 h2=>by simp at *;omega) (fun a b=>by simp;omega) ls
 exact this.imp fun h=>by simpa using h
theorem WK {p q:Int×Int}(bp:0≤p.2∧p.2<1000) (bq:0≤q.2∧q.2<1000) (h:rkP p=rkP q):p=q:=by
 obtain⟨a,b⟩:=p
 obtain⟨c,d⟩:=q
 unfold rkP at h
 dsimp only at *
 have:a=c:=by omega
 subst this
 rw[show b=d by omega]
theorem XZ:∀ {as bs:List (Int×Int)},Bd as→as.Perm bs→as.Pairwise (fun p q=>rkP p≤rkP q)→bs.Pairwise (fun p q=>rkP p≤rkP q)→as=bs
 |[],bs,_,pm,_,_=>(List.nil_perm.mp pm).symm
 |x::as,[],_,pm,_,_=>absurd pm.length_eq (by simp)
 |x::as,y::bs,B,pm,u1,u2=>by
  obtain⟨a1,a2⟩:=List.pairwise_cons.mp u1
  obtain⟨b1,b2⟩:=List.pairwise_cons.mp u2
  have hy:y∈x::as:=pm.mem_iff.mpr List.mem_cons_self
  have hx:x∈y::bs:=pm.mem_iff.mp List.mem_cons_self
  have l1:rkP x≤rkP y:=by
   rcases List.mem_cons.mp hy with z | z
   ·rw[z];exact Int.le_refl _
   ·exact a1 y z
  have l2:rkP y≤rkP x:=by
   rcases List.mem_cons.mp hx with z | z
   ·rw[z];exact Int.le_refl _
   ·exact b1 x z
  have e:x=y:=WK (B x List.mem_cons_self) (B y hy) (by omega)
  subst e
  rw[XZ (fun p hp=>B p (List.mem_cons_of_mem _ hp)) (List.Perm.cons_inv pm) a2 b2]
theorem Wb {as ls:List (Int×Int)}(B:Bd ls) (pm:as.Perm ls) (u:as.Pairwise fun p q=>rkP p≤rkP q):as=srt ls :=
 XZ (fun p hp=>B p (pm.mem_iff.mp hp)) (pm.trans (xw ls).symm) u (Wa ls)
theorem LnAt.ps {H:Hp}:∀ {rs:List V}{ls:List (Int×Int)},LnAt H rs ls→Bd ls→∃ ps:List PT,ps.map (fun p=>V.ref p.1)=rs∧ps.map (·.2)=ls∧PsAt H ps
 |[],[],_,_=>⟨[],rfl,rfl,fun p hp=>by cases hp⟩
 |[],_::_,h,_=>absurd h.1 (by simp)
 |_::_,[],h,_=>absurd h.1 (by simp)
 |r::rs,p::ls,h,B=>by
  obtain⟨q,rfl,hq⟩:=h.2 0 r p rfl rfl
  obtain⟨ps,e1,e2,e3⟩:=LnAt.ps (H:=H) (rs:=rs) (ls:=ls) ⟨by have:=h.1;simpa using this,fun i r p h1 h2=>h.2 (i+1) r p (by simpa using h1) (by simpa using h2)⟩ fun p hp=>B p (List.mem_cons_of_mem _ hp)
  refine⟨(q,p)::ps,by rw[List.map_cons,e1],by rw[List.map_cons,e2],fun x hx=>?_⟩
  rcases List.mem_cons.mp hx with z | z
  ·rw[z]
   exact⟨hq,B p List.mem_cons_self⟩
  ·exact e3 x z
theorem zb3 {H:Hp}{qs:List PT}(h:PsAt H qs):LnAt H (qs.map fun p=>V.ref p.1) (qs.map (·.2)):=by
 refine⟨by simp,fun i r p h1 h2=>?_⟩
 rw[List.getElem?_map] at h1 h2
 obtain⟨q,e1,rfl⟩:=Option.map_eq_some_iff.mp h1
 rw[e1] at h2
 cases h2
 exact⟨q.1,rfl,(h q (List.mem_of_getElem? e1)).1⟩
theorem _root_.L2.Sco.PsAt.same {H H':Hp}{ps:List PT}(h:PsAt H ps) (s:Same H H'):PsAt H' ps:=fun p hp=>⟨s _ _ (h p hp).1,(h p hp).2⟩
theorem _root_.L2.Sco.PsAt.sub {H:Hp}{ps qs:List PT}(h:PsAt H ps) (s:∀ q∈qs,q∈ps):PsAt H qs:=fun p hp=>h p (s p hp)
theorem xJ {H:Hp}{ps qs:List PT}(h:PsAt H ps) (pm:qs.Perm ps) (u:qs.Pairwise fun x y=>rkP x.2≤rkP y.2):LnAt H (qs.map fun p=>V.ref p.1) (srt (ps.map (·.2))):=by
 have e:qs.map (·.2)=srt (ps.map (·.2)):=Wb (fun p hp=>by
  obtain⟨x,hx,rfl⟩:=List.mem_map.mp hp
  exact(h x hx).2) (pm.map _) (by rw[List.pairwise_map];exact u)
 have:=zb3 (h.sub fun q hq=>pm.mem_iff.mp hq)
 rw[e] at this
 exact this
theorem Ls.bd {hs:List Int}{ls:List (Int×Int)}(W:Hs hs) (L:Ls hs ls):Bd ls:=fun p hp=>by
 have:=(L.ok p hp).2.1
 have a1:=W.lo p.2 this
 have a2:=W.hi p.2 this
 omega
structure WebAt (a:Ad) (H:Hp) (p:Addr) (hs:List Int) (ls:List (Int×Int)) (dx oh ol d:Addr) (ad:Int→Addr):Prop where
 p:H p=some (.ins a.c_Web dx [("own_hands",.ref oh),("own_lines",.ref ol),("near",.ref d)])
 oh:H oh=some (.lst (hs.map V.int))
 nr:Near H d hs ls ad
 ol:∃ zs,H ol=some (.lst zs)∧LnAt H zs (srt ls)
theorem WebAt.same {H H':Hp}{p dx oh ol d:Addr}{hs:List Int}{ls:List (Int×Int)}{ad:Int→Addr}(w:WebAt a H p hs ls dx oh ol d ad) (s:Same H H'):WebAt a H' p hs ls dx oh ol d ad:=⟨s _ _ w.p,s _ _ w.oh,w.nr.same s,by obtain⟨zs,e1,e2⟩:=w.ol;exact⟨zs,s _ _ e1,e2.same s⟩⟩
def V8 (a:Ad):Sp:=fun vs H Q _=>∃ (p dx h l:Addr) (rs:List V) (hs:List Int) (ls:List (Int×Int)),vs=[.ref p,.ref h,.ref l]∧H p=some (.ins a.c_Web dx [])∧H h=some (.lst (hs.map V.int))∧H l=some (.lst rs)∧LnAt H rs ls∧Hs hs∧Ls hs ls ∧
 ∀ (oh ol d:Addr) (ad:Int→Addr) H',H oh=none→H d=none→(∀ x∈hs,H (ad x)=none)→Ext p H H'→WebAt a H' p hs ls dx oh ol d ad→Q .non H'
theorem Uv (T:Txt w K mg a):FnOk P w K mg base CX0 4 a.f_qC a.d_qC ["self", "hands", "lines"] (V8 a):=by
 have c_qi:Callee P w K mg base "are_hands" a.f_qi a.d_qi ["hands"] 2 ZS:=⟨Xn T,T.g_qi,T.F_qi.kp,T.b_qi⟩
 have c_qk:Callee P w K mg base "are_lines" a.f_qk a.d_qk ["lines", "hands"] 3 ZR:=⟨Xm T,T.g_qk,T.F_qk.kp,T.b_qk⟩
 have c_ql:Callee P w K mg base "near_by_hand" a.f_ql a.d_ql ["hands", "lines"] 1 Wd:=⟨Vi T,T.g_ql,T.F_ql.kp,T.b_ql⟩
 refine T.F_qC.ok zb1 (fun vs H Q E h=>?_) (fun cdv A outer s H vs Q E hr h=>?_)
 ·obtain⟨p,dx,h,l,rs,hs,ls,rfl,_⟩:=h
  rfl
 ·obtain⟨p,dx,h,l,rs,hs,ls,rfl,hp,hh,hl,hrs,W,L,k⟩:=h
  have l66:=L.le
  have np:∀ {b:Addr}{xs:List V},H b=some (.lst xs)→b≠p:=fun e z=>by rw[z,hp] at e;cases e
  refine⟨_,(zw (wF (yH (yG (Wi c_qi (hr.mono (by omega)) (xo (pv 1) zK))))
    (zE wE)
    yn)
   (zw (wF (yH (yG (Wi c_qk (hr.mono (by omega)) (xo (pv 2) (xo (pv 1) zK)))))
    (zE wE)
    yn)
   (zw (ue (pv 0) (vb yd (by rfl) T.n_list yR (xo (pv 1) zK)) rfl)
   (zw (ue (pv 0) (zW Sco.call_sortX (by rfl) T.n_sorted zT (xo (pv 2) zK)) rfl)
   (zE (ue (pv 0) (Wi c_ql (hr.mono (by omega)) (xo (pv 1) (xo (pv 2) zK))) rfl)))))),?_⟩
  refine⟨_,rfl,h,hs,rfl,hh,W,_,rfl,z4 rfl ?_⟩
  refine⟨_,rfl,_,rfl,l,h,rs,hs,ls,rfl,hl,hrs,hh,L,fun H1 s1=>⟨_,rfl,z4 rfl ?_⟩⟩
  refine⟨_,rfl,h,_,rfl,.inl (SqL.of (s1 _ _ hh)),fun oh hoh=>?_⟩
  have ohp:oh≠p:=fun z=>by rw[z,s1 _ _ hp] at hoh;cases hoh
  refine⟨_,rfl,p,a.c_Web,dx,_,rfl,(upd_ne ohp.symm).trans (s1 _ _ hp),T.cl_Web,T.na_Web_own_hands,(by show 0<1000;decide),?_⟩
  have x3:=((Ext.same (l:=p) s1).trans (Ext.new (l:=p) (o:=.lst (hs.map V.int)) hoh)).trans (Ext.at (l:=p) (o:=.ins a.c_Web dx [("own_hands",.ref oh)]))
  obtain⟨ps,e1,e2,e3⟩:=(hrs.ext hp x3).ps (L.bd W)
  have l67:ps.length≤66:=by
   have:=congrArg List.length e2
   rw[List.length_map] at this
   omega
  refine⟨_,rfl,l,ps,rfl,by rw[e1];exact SqL.of (x3 _ _ hl (np hl)),l67,e3,fun ol qs hol pm up=>?_⟩
  have hq3:=xJ e3 pm up
  rw[e2] at hq3
  generalize qs.map (fun p=>V.ref p.1)=zs at hq3 ⊢
  have olp:ol≠p:=fun z=>by rw[z,upd_same] at hol;cases hol
  refine⟨_,rfl,p,a.c_Web,dx,_,rfl,(upd_ne olp.symm).trans upd_same,T.cl_Web,T.na_Web_own_lines,(by show 1<1000;decide),?_⟩
  have x35:=(Ext.new (l:=p) (o:=.lst zs) hol).trans (Ext.at (l:=p) (o:=.ins a.c_Web dx [("own_hands",.ref oh),("own_lines",.ref ol)]))
  have x5:=x3.trans x35
  refine⟨_,rfl,_,rfl,h,l,rs,hs,ls,rfl,x5 _ _ hh (np hh),x5 _ _ hl (np hl),hrs.ext hp x5,W,L,fun d ad H6 s6 hd had N=>?_⟩
  have hp6:=s6 _ _ (upd_same (a:=p))
  refine⟨_,rfl,p,a.c_Web,dx,_,rfl,hp6,T.cl_Web,T.na_Web_near,(by show 2<1000;decide),?_⟩
  have nfr:∀ b,(upd (upd (upd (upd H1 oh (.lst (hs.map V.int))) p (.ins a.c_Web dx [("own_hands",.ref oh)])) ol (.lst zs)) p (.ins a.c_Web dx [("own_hands",.ref oh),("own_lines",.ref ol)])) b=none→H b=none:=fun b e=>x5.free (fun z=>by rw[z,upd_same] at e;cases e) e
  refine k oh ol d ad _ (s1.free hoh) (nfr d hd) (fun x hx=>nfr _ (had x hx)) ((x5.trans (Ext.same s6)).trans Ext.at) ⟨upd_same,?_,N.ext hp6 Ext.at,zs,?_,?_⟩
  ·rw[upd_ne ohp]
   exact s6 _ _ (x35 _ _ ((upd_ne ohp).trans upd_same) ohp)
  ·rw[upd_ne olp]
   exact s6 _ _ ((upd_ne olp).trans upd_same)
  ·exact((hq3.ext upd_same x35).same s6).ext hp6 Ext.at
theorem Ye {x:Int}:∀ {ls:List (Int×Int)},ls.Nodup→(∀ p∈ls,p.1<p.2)→(nbs ls x).Nodup
 |[],_,_=>List.nodup_nil
 |p::ls,nd,ok=>by
  obtain⟨n1,n2⟩:=List.nodup_cons.mp nd
  have ih:=Ye (x:=x) n2 fun q hq=>ok q (List.mem_cons_of_mem _ hq)
  have lt:=ok p (List.mem_cons_self ..)
  have e:nbs (p::ls) x=((if p.1=x then[p.2] else[])++if p.2=x then[p.1] else[])++nbs ls x:=by unfold nbs;rw[List.flatMap_cons]
  have no:∀ y,Adj ls x y→y∉((if p.1=x then[p.2] else[])++if p.2=x then[p.1] else[]):=by
   intro y hy hm
   have key:∀ q∈ls,q≠p:=fun q hq z=>n1 (z ▸ hq)
   rcases List.mem_append.mp hm with h | h
   ·by_cases c:p.1=x
    ·rw[if_pos c] at h
     have ey:y=p.2:=List.mem_singleton.mp h
     rcases hy with z | z
     ·exact key _ z (by rw[ey,← c])
     ·have:=ok _ (List.mem_cons_of_mem _ z)
      simp at this
      omega
    ·rw[if_neg c] at h;cases h
   ·by_cases c:p.2=x
    ·rw[if_pos c] at h
     have ey:y=p.1:=List.mem_singleton.mp h
     rcases hy with z | z
     ·have:=ok _ (List.mem_cons_of_mem _ z)
      simp at this
      omega
     ·exact key _ z (by rw[ey,← c])
    ·rw[if_neg c] at h;cases h
  rw[e,List.nodup_append]
  refine⟨?_,ih,fun a ha b hb z=>no b (mem_nbs.mp hb) (z ▸ ha)⟩
  by_cases c1:p.1=x
  ·have c2:¬ p.2=x:=by omega
   rw[if_pos c1,if_neg c2]
   simp
  ·rw[if_neg c1]
   by_cases c2:p.2=x
   ·rw[if_pos c2];simp
   ·rw[if_neg c2];simp
theorem Yg {hs:List Int}{ls:List (Int×Int)}{x:Int}(W:Hs hs) (L:Ls hs ls):(nbs ls x).length≤12:=by
 have nd:=Ye (x:=x) L.nd fun p hp=>(L.ok p hp).2.2
 have sub:∀ y∈nbs ls x,y∈hs:=fun y hy=>by
  rcases mem_nbs.mp hy with z | z
  ·exact(L.ok _ z).2.1
  ·exact(L.ok _ z).1
 have:=yo nd sub
 have:=W.l12
 omega
theorem Za:∀ {as bs:List Int},as.Pairwise (· < ·)→bs.Pairwise (· < ·)→(∀ x,x∈as↔x∈bs)→as=bs
 |[],[],_,_,_=>rfl
 |[],b::bs,_,_,h=>by have:=(h b).mpr (List.mem_cons_self ..);cases this
 |a::as,[],_,_,h=>by have:=(h a).mp (List.mem_cons_self ..);cases this
 |a::as,b::bs,ha,hb,h=>by
  obtain⟨a1,a2⟩:=List.pairwise_cons.mp ha
  obtain⟨b1,b2⟩:=List.pairwise_cons.mp hb
  have e:a=b:=by
   rcases List.mem_cons.mp ((h a).mp (List.mem_cons_self ..)) with e | e
   ·exact e
   ·rcases List.mem_cons.mp ((h b).mpr (List.mem_cons_self ..)) with e' | e'
    ·exact e'.symm
    ·have:=b1 a e
     have:=a1 b e'
     omega
  subst e
  rw[Za a2 b2 fun x=>⟨fun hx=>by
   rcases List.mem_cons.mp ((h x).mp (List.mem_cons_of_mem _ hx)) with e | e
   ·have:=a1 x hx;omega
   ·exact e,fun hx=>by
   rcases List.mem_cons.mp ((h x).mpr (List.mem_cons_of_mem _ hx)) with e | e
   ·have:=b1 x hx;omega
   ·exact e⟩]
noncomputable def adB (ls:List (Int×Int)) (x y:Int):Bool:=decide ((x,y)∈ls)||decide ((y,x)∈ls)
theorem VH {ls:List (Int×Int)}{x y:Int}:decide (y∈nbs ls x)=adB ls x y:=by
 unfold adB
 rw[Bool.eq_iff_iff,Bool.or_eq_true,decide_eq_true_eq,decide_eq_true_eq,decide_eq_true_eq]
 exact mem_nbs
theorem uc {hs:List Int}{ls:List (Int×Int)}{x:Int}{ms:List Int}(W:Hs hs) (L:Ls hs ls) (pm:ms.Perm (nbs ls x)) (sd:ms.Pairwise (· ≤ ·)):ms=hs.filter (adB ls x):=by
 have nd:ms.Nodup:=pm.nodup_iff.mpr (Ye L.nd fun p hp=>(L.ok p hp).2.2)
 have up:ms.Pairwise (· < ·):=(sd.and (List.nodup_iff_pairwise_ne.mp nd)).imp fun h=>by
  have h1:=h.1
  have h2:=h.2
  omega
 refine Za up (W.up.filter _) fun y=>?_
 rw[pm.mem_iff,List.mem_filter,← VH,decide_eq_true_eq]
 refine⟨fun h=>⟨?_,h⟩,fun h=>h.2⟩
 rcases mem_nbs.mp h with z | z
 ·exact(L.ok _ z).2.1
 ·exact(L.ok _ z).1
def zbL (a:Ad):Sp:=fun vs H Q _=>∃ (p:Addr) (x:Int) (hs:List Int) (ls:List (Int×Int)) (dx oh ol d:Addr) (ad:Int→Addr),vs=[.ref p,.int x]∧WebAt a H p hs ls dx oh ol d ad∧x∈hs∧Q (.bl true) H
theorem UA (T:Txt w K mg a):FnOk P w K mg base CX0 2 a.f_qF a.d_qF ["self", "hand"] (zbL a):=by
 have c_qa:Callee P w K mg base "is_whole" a.f_qa a.d_qa ["value"] 1 wC:=⟨wI T,T.g_qa,T.F_qa.kp,T.b_qa⟩
 refine T.F_qF.ok zbY (fun vs H Q E h=>?_) (fun cdv A outer s H vs Q E hr h=>?_)
 ·obtain⟨p,x,hs,ls,dx,oh,ol,d,ad,rfl,_⟩:=h
  rfl
 ·obtain⟨p,x,hs,ls,dx,oh,ol,d,ad,rfl,W,hx,k⟩:=h
  have hu:=xm hr
  refine zU (zf (zj (v4 (zp c_qa (hr.mono (by omega)) (zg (zh 1) zd)) (xr (YZ (v5 hu (zh 1) (yc (zh 0) rfl))))))) ?_
  refine⟨_,rfl,x,rfl,_,rfl,vt ?_⟩
  exact⟨_,rfl,_,rfl,p,_,dx,_,_,rfl,W.p,T.cl_Web,T.na_Web_near,rfl,d,some (V.ref (ad x)),rfl,wz W.nr.d hx,k⟩
def Y8 (a:Ad):Sp:=fun vs H Q _=>∃ (p:Addr) (hs:List Int) (ls:List (Int×Int)) (dx oh ol d:Addr) (ad:Int→Addr),vs=[.ref p]∧WebAt a H p hs ls dx oh ol d ad∧∀ q,H q=none→Q (.ref q) (upd H q (.lst (hs.map V.int)))
theorem vg (T:Txt w K mg a):FnOk P w K mg base CX0 1 a.f_qD a.d_qD ["self"] (Y8 a):=by
 refine T.F_qD.ok zb0 (fun vs H Q E h=>?_) (fun cdv A outer s H vs Q E hr h=>?_)
 ·obtain⟨p,hs,ls,dx,oh,ol,d,ad,rfl,_⟩:=h
  rfl
 ·obtain⟨p,hs,ls,dx,oh,ol,d,ad,rfl,W,k⟩:=h
  refine zU (zf (zj (zP yd (by rfl) T.n_list yR (zo (yc (zh 0) rfl) zd)))) ?_
  exact⟨_,rfl,p,_,dx,_,_,rfl,W.p,T.cl_Web,T.na_Web_own_hands,rfl,oh,_,rfl,.inl (SqL.of W.oh),k⟩
def ziC (a:Ad):Sp:=fun vs H Q _=>∃ (p:Addr) (x:Int) (hs:List Int) (ls:List (Int×Int)) (dx oh ol d:Addr) (ad:Int→Addr),vs=[.ref p,.int x]∧WebAt a H p hs ls dx oh ol d ad∧Hs hs∧Ls hs ls∧x∈hs ∧
 ∀ (q:Addr),H q=none→Q (.ref q) (upd H q (.lst ((hs.filter (adB ls x)).map V.int)))
theorem zcd (T:Txt w K mg a):FnOk P w K mg base CX0 3 a.f_qG a.d_qG ["self", "hand"] (ziC a):=by
 refine T.F_qG.ok zbX (fun vs H Q E h=>?_) (fun cdv A outer s H vs Q E hr h=>?_)
 ·obtain⟨p,x,hs,ls,dx,oh,ol,d,ad,rfl,_⟩:=h
  rfl
 ·obtain⟨p,x,hs,ls,dx,oh,ol,d,ad,rfl,W,wh,wl,hx,k⟩:=h
  have hu:=xm hr
  refine zU (w_pss_cons (zH (v0 (yB (yg (zh 0) (zg (zh 1) zd))))
    (zf uv)
    zt)
   (zf (zj (zq xn (by rfl) T.n_sorted zT (zo (zR hu (yc (zh 0) rfl) (zh 1) (fun _ _=>rfl)) zd))))) ?_
  refine⟨_,rfl,p,_,dx,_,_,_,_,_,_,rfl,W.p,rfl,T.cl_Web,T.mt_qF,UA (P:=P) (w:=w) T,hr.mono (by omega),T.b_qF,_,rfl,p,x,hs,ls,dx,oh,ol,d,ad,rfl,W,hx,_,rfl,z4 rfl ?_⟩
  have few:=Yg (x:=x) wh wl
  exact⟨_,rfl,p,_,dx,_,_,rfl,W.p,T.cl_Web,T.na_Web_near,rfl,_,rfl,d,V.ref (ad x),rfl,wz W.nr.d hx,ad x,_,rfl,SqL.of (W.nr.nb x hx),by omega,fun q ms hq pm sd=>by rw[uc wh wl pm sd];exact k q hq⟩
theorem merge_app:∀ {kvs acc:List (Key×V)},((acc++kvs).map (·.1)).Nodup→mergeK acc kvs=acc++kvs
 |[],acc,_=>by simp[mergeK]
 |kv::kvs,acc,h=>by
  have hn:kv.1∉acc.map (·.1):=by
   rw[List.map_append,List.nodup_append] at h
   intro z
   exact h.2.2 _ z _ (by simp) rfl
  show mergeK (putK acc kv.1 kv.2) kvs=_
  rw[putK_new hn,merge_app (by simpa using h)]
  simp
theorem xy {kvs:List (Key×V)}(h:(kvs.map (·.1)).Nodup):mergeK [] kvs=kvs:=by
 have:=merge_app (kvs:=kvs) (acc:=[]) (by simpa using h)
 simpa using this
theorem Yu {us:List Int}(h:us.Nodup):(us.map (Sum.inl:Int→Key)).Nodup:=by
 rw[List.nodup_iff_pairwise_ne,List.pairwise_map]
 exact(List.nodup_iff_pairwise_ne.mp h).imp fun {a b} n z=>n (by injection z)
theorem Vy {hs:List Int}(W:Hs hs):hs.Nodup:=List.nodup_iff_pairwise_ne.mpr (W.up.imp fun {a b} h=>by omega)
theorem LnAt.snoc {H:Hp}{rs:List V}{ls:List (Int×Int)}{q:Addr}{p:Int×Int}(h:LnAt H rs ls) (hq:H q=some (.tup [.int p.1,.int p.2])):LnAt H (rs++[.ref q]) (ls++[p]):=by
 refine⟨by simp[h.1],fun i r p' h1 h2=>?_⟩
 have l:=h.1
 by_cases hi:i<rs.length
 ·rw[List.getElem?_append_left hi] at h1
  rw[List.getElem?_append_left (by omega)] at h2
  exact h.2 i r p' h1 h2
 ·rw[List.getElem?_append_right (by omega)] at h1
  rw[List.getElem?_append_right (by omega),← l] at h2
  obtain⟨n,hn⟩:∃ n,n=i-rs.length:=⟨_,rfl⟩
  rw[← hn] at h1 h2
  cases n with
  |zero=>cases h1;cases h2;exact⟨q,rfl,hq⟩
  |succ n=>simp at h1
theorem LnAt.updL {H:Hp}{rs zs:List V}{ls:List (Int×Int)}{p:Addr}{o:HO}(hp:H p=some (.lst zs)) (h:LnAt H rs ls):LnAt (L2.upd H p o) rs ls:=⟨h.1,fun n r pr e1 e2=>by
 obtain⟨q,e,t⟩:=h.2 n r pr e1 e2
 exact⟨q,e,by rw[upd_ne (Vq t hp (by intro z;cases z))];exact t⟩⟩
theorem at_last {xs:List V}{v:V}:atI (xs++[v]) (-1)=some v:=by
 unfold atI ixN
 rw[if_neg (by decide),if_pos (by simp;omega)]
 simp
 have:((-1:Int)+((xs.length:Int)+1)).toNat=xs.length:=by omega
 rw[this]
 simp
noncomputable def tabV (f:Int→V) (us:List Int):List (Key×V):=us.map fun h=>(Sum.inl h,f h)
theorem yi {f:Int→V}{us:List Int}:(tabV f us).map (·.1)=us.map Sum.inl:=by
 unfold tabV
 rw[List.map_map]
 rfl
theorem tabV_len {f:Int→V}{us:List Int}:(tabV f us).length=us.length:=by
 unfold tabV
 rw[List.length_map]
theorem xI {f:Int→V}{x:Int}:∀ {us:List Int},x∈us→yw (tabV f us) (Sum.inl x:Key)=some (f x)
 |u::us,h=>by
  unfold tabV yw
  rw[List.map_cons,List.find?_cons]
  by_cases e:u=x
  ·subst e;simp
  ·have:¬ ((Sum.inl u:Key)=Sum.inl x):=fun z=>e (by injection z)
   simp only[decide_eq_false this]
   have:=xI (f:=f) ((List.mem_cons.mp h).resolve_left fun z=>e z.symm)
   unfold tabV yw at this
   exact this
theorem wA {f:Int→V}{us:List Int}{x:Int}(h:x∉us):yw (tabV f us) (Sum.inl x:Key)=none:=by
 have z:=valV_no (kvs:=tabV f us) (k:=(Sum.inl x:Key)) (by rw[yi,vL];exact h)
 cases hv:yw (tabV f us) (Sum.inl x:Key) with
 |none=>rfl
 |some v=>rw[hv] at z;cases z
theorem zN {H:Hp}{d:Addr}{f:Int→V}{us:List Int}{x:Int}(e:H d=some (.dK (tabV f us))) (h:x∈us):DGet H d (V.int x) (some (f x)):=by
 have:=DGet.k (k:=.inl x) e
 rw[xI h] at this
 exact this
theorem wB {H:Hp}{d:Addr}{f:Int→V}{us:List Int}{x:Int}(e:H d=some (.dK (tabV f us))) (h:x∉us):DGet H d (V.int x) none:=by
 have:=DGet.k (k:=Sum.inl x) e
 rw[wA h] at this
 exact this
theorem zQ {f g:Int→V}{us:List Int}(h:∀ x∈us,f x=g x):tabV f us=tabV g us:=List.map_congr_left fun x hx=>by rw[h x hx]
theorem yW {f:Int→V}{us:List Int}{x:Int}{v:V}(h:x∉us):putK (tabV f us) (.inl x) v=tabV (fun y=>if y=x then v else f y) (us++[x]):=by
 rw[putK_new (by rw[yi,vL];exact h)]
 unfold tabV
 rw[List.map_append]
 congr 1
 ·exact List.map_congr_left fun y hy=>by
   show _=(Sum.inl y,if y=x then v else f y)
   rw[if_neg (fun(e:y=x)=>h (by rw[← e];exact hy))]
 ·simp
theorem vy {f:Int→V}{us:List Int}{p:Key×V}(h:p∈tabV f us):∃ x∈us,p=(Sum.inl x,f x):=by
 obtain⟨x,hx,rfl⟩:=List.mem_map.mp h
 exact⟨x,hx,rfl⟩
theorem v7 {f:Int→V}{us vs:List Int}:tabV f (us++vs)=tabV f us++tabV f vs:=List.map_append
theorem we {f:Int→V}{us vs:List Int}(h:(us++vs).Nodup):mergeK (tabV f us) (tabV f vs)=tabV f (us++vs):=by
 rw[merge_app (by rw[← v7,yi];exact Yu h),v7]
structure FP (ls:List (Int×Int)) (left:List Int) (s:Int) (reach:Nat) (F:Int→Option Nat):Prop where
 z:F s=some 0
 z1:∀ x,F x=some 0→x=s
 mem:∀ x d,F x=some d→x∈left∧d≤reach
 cl:∀ x d y,F x=some d→d<reach→y∈left→adB ls x y=true→∃ e,F y=some e∧e≤d+1
 pr:∀ x d,F x=some (d+1)→∃ y,F y=some d∧adB ls y x=true
theorem xa {ls:List (Int×Int)}{x y:Int}:adB ls x y=adB ls y x:=by
 unfold adB
 rw[Bool.or_comm]
def vis (ls:List (Int×Int)) (left:List Int) (s:Int):Nat→List Int
 |0=>[s]
 |k+1=>left.filter fun x=>decide (x∈vis ls left s k)||(vis ls left s k).any fun y=>adB ls y x
theorem Y2 {ls:List (Int×Int)}{left:List Int}{s:Int}(hs:s∈left):∀ {k:Nat}{x:Int},x∈vis ls left s k→x∈left
 |0,x,h=>by rw[List.mem_singleton.mp h];exact hs
 |k+1,x,h=>(List.mem_filter.mp h).1
theorem XY {ls:List (Int×Int)}{left:List Int}{s:Int}{k:Nat}{x y:Int}(h:y∈vis ls left s k) (hx:x∈left) (a:adB ls y x=true):x∈vis ls left s (k+1) :=
 List.mem_filter.mpr ⟨hx,by rw[Bool.or_eq_true];exact .inr (List.any_eq_true.mpr ⟨y,h,a⟩)⟩
theorem UW {p:Nat→Prop}:∀ {k:Nat},p k→∃ d,d≤k∧p d∧∀ j,j<d→¬ p j:=by
 intro k
 induction k using Nat.strongRecOn with
 |_ k ih =>
  intro h
  by_cases c:∃ j,j<k∧p j
  ·obtain⟨j,hj,pj⟩:=c
   obtain⟨d,h1,h2⟩:=ih j hj pj
   exact⟨d,by omega,h2⟩
  ·exact⟨k,Nat.le_refl _,h,fun j hj pj=>c ⟨j,hj,pj⟩⟩
theorem U7 (ls:List (Int×Int)) (left:List Int) (s:Int) (reach:Nat) (hs:s∈left):∃ F,FP ls left s reach F:=by
 have hch:∀ x,∃ o:Option Nat,(∀ d,o=some d↔d≤reach∧x∈vis ls left s d∧∀ j,j<d→x∉vis ls left s j):=fun x=>by
  by_cases c:∃ k,k≤reach∧x∈vis ls left s k
  ·obtain⟨k,hk,hx⟩:=c
   obtain⟨d,h1,h2,h3⟩:=UW (p:=fun k=>x∈vis ls left s k) hx
   refine⟨some d,fun e=>⟨fun z=>(by cases z;exact⟨by omega,h2,h3⟩),fun hq0=>?_⟩⟩
   obtain⟨e1,e2,e3⟩:=hq0
   have a1:¬ e<d:=fun z=>h3 e z e2
   have a2:¬ d<e:=fun z=>e3 d z h2
   rw[show d=e by omega]
  ·exact⟨none,fun d=>⟨fun z=>(by cases z),fun⟨e1,e2,_⟩=>absurd ⟨d,e1,e2⟩ c⟩⟩
 have:=Classical.axiomOfChoice hch
 obtain⟨F,hF⟩:=this
 refine⟨F,?_,?_,?_,?_,?_⟩
 ·exact(hF s 0).mpr ⟨Nat.zero_le _,List.mem_singleton.mpr rfl,fun j hj=>by omega⟩
 ·intro x h
  exact List.mem_singleton.mp ((hF x 0).mp h).2.1
 ·intro x d h
  have:=(hF x d).mp h
  exact⟨Y2 hs this.2.1,this.1⟩
 ·intro x d y h hd hy a
  have h1:=(hF x d).mp h
  have h2:=XY h1.2.1 hy a
  obtain⟨e,e1,e2,e3⟩:=UW (p:=fun k=>y∈vis ls left s k) h2
  exact⟨e,(hF y e).mpr ⟨by omega,e2,e3⟩,e1⟩
 ·intro x d h
  obtain⟨h1,h2,h3⟩:=(hF x (d+1)).mp h
  obtain⟨hx,hv⟩:=List.mem_filter.mp h2
  rw[Bool.or_eq_true] at hv
  rcases hv with hv | hv
  ·exact absurd (of_decide_eq_true hv) (h3 d (by omega))
  ·obtain⟨y,hy,a⟩:=List.any_eq_true.mp hv
   refine⟨y,(hF y d).mpr ⟨by omega,hy,fun j hj hy'=>?_⟩,a⟩
   exact h3 (j+1) (by omega) (XY hy' hx a)
theorem FP.lower {ls:List (Int×Int)}{left:List Int}{s:Int}{reach:Nat}{F:Int→Option Nat}(h:FP ls left s reach F):∀ {d:Nat}{x:Int},F x=some d→∀ j,j≤d→∃ y,F y=some j
 |0,x,hx,j,hj=>⟨x,by rw[hx,Nat.le_zero.mp hj]⟩
 |d+1,x,hx,j,hj=>by
  rcases Nat.lt_or_eq_of_le hj with z | z
  ·obtain⟨y,hy,_⟩:=h.pr x d hx
   exact h.lower hy j (by omega)
  ·exact⟨x,by rw[hx,z]⟩
theorem FP.few {ls:List (Int×Int)}{left:List Int}{s:Int}{reach:Nat}{F:Int→Option Nat}(h:FP ls left s reach F){x:Int}{d:Nat}(hx:F x=some d):d<left.length:=by
 have:∀ n,n≤d+1→∃ ys:List Int,ys.length=n∧ys.Nodup∧∀ y∈ys,y∈left∧∃ j,j<n∧F y=some j:=by
  intro n
  induction n with
  |zero=>intro _;exact⟨[],rfl,List.nodup_nil,fun y hy=>by cases hy⟩
  |succ n ih =>
   intro hn
   obtain⟨ys,l,nd,m⟩:=ih (by omega)
   obtain⟨y,hy⟩:=h.lower hx n (by omega)
   refine⟨y::ys,by simp[l],List.nodup_cons.mpr ⟨fun z=>?_,nd⟩,fun u hu=>?_⟩
   ·obtain⟨_,j,hj,e⟩:=m y z
    rw[hy] at e
    cases e
    omega
   ·rcases List.mem_cons.mp hu with z | z
    ·rw[z]
     exact⟨(h.mem y n hy).1,n,by omega,hy⟩
    ·obtain⟨a,j,hj,e⟩:=m u z
     exact⟨a,j,by omega,e⟩
 obtain⟨ys,l,nd,m⟩:=this (d+1) (Nat.le_refl _)
 have:=yo nd (fun y hy=>(m y hy).1)
 omega
theorem FP.leq {ls:List (Int×Int)}{left:List Int}{s:Int}{r r':Nat}{F F':Int→Option Nat}(h:FP ls left s r F) (h':FP ls left s r' F') (hr:left.length≤r'):∀ {d:Nat}{x:Int},F x=some d→∃ e,F' x=some e∧e≤d
 |0,x,hx=>⟨0,by rw[h.z1 x hx];exact h'.z,Nat.le_refl _⟩
 |d+1,x,hx=>by
  obtain⟨y,hy,a⟩:=h.pr x d hx
  obtain⟨e,he,hle⟩:=h.leq h' hr hy
  have:=h.few hx
  obtain⟨e2,h1,h2⟩:=h'.cl y e x he (by omega) (h.mem x _ hx).1 a
  exact⟨e2,h1,by omega⟩
theorem FP.uniq {ls:List (Int×Int)}{left:List Int}{s:Int}{r r':Nat}{F F':Int→Option Nat}(h:FP ls left s r F) (h':FP ls left s r' F') (hr:left.length≤r) (hr':left.length≤r'):F=F':=by
 funext x
 cases hx:F x with
 |some d =>
  obtain⟨e,he,hle⟩:=h.leq h' hr' hx
  obtain⟨d2,hd,hle2⟩:=h'.leq h hr he
  rw[hx] at hd
  cases hd
  rw[he,show e=d by omega]
 |none =>
  cases hx':F' x with
  |none=>rfl
  |some e =>
   obtain⟨d2,hd,_⟩:=h'.leq h hr hx'
   rw[hx] at hd
   cases hd
def par (ls:List (Int×Int)) (left:List Int) (F:Int→Option Nat) (x:Int):Option Int :=
 match F x with
 |some (d+1)=>(left.filter fun y=>decide (F y=some d)).find? fun y=>adB ls y x
 |_=>none
noncomputable def stp (ls:List (Int×Int)) (r:Nat):List Int→Int→Option Nat
 |[]=>fun _=>none
 |s::left=>Classical.choose (U7 ls (s::left) s r List.mem_cons_self)
theorem stp_fp {ls:List (Int×Int)}{r:Nat}{s:Int}{left:List Int}:FP ls (s::left) s r (stp ls r (s::left)):=Classical.choose_spec (U7 ls (s::left) s r List.mem_cons_self)
noncomputable def nxl (ls:List (Int×Int)) (r:Nat) (left:List Int):List Int:=left.filter fun x=>decide (stp ls r left x=none)
noncomputable def PF (ls:List (Int×Int)) (r:Nat):Nat→List Int→Int→Option Int
 |0,_,_=>none
 |n+1,left,x=>if stp ls r left x=none then PF ls r n (nxl ls r left) x else par ls left (stp ls r left) x
noncomputable def LF (ls:List (Int×Int)) (r:Nat):Nat→List Int→Int→Int
 |0,_,x=>x
 |n+1,left,x=>if stp ls r left x=none then LF ls r n (nxl ls r left) x else left.headD x
noncomputable def SF (ls:List (Int×Int)) (r:Nat):Nat→List Int→Int→Nat
 |0,_,_=>0
 |n+1,left,x=>if stp ls r left x=none then SF ls r n (nxl ls r left) x else(stp ls r left x).getD 0
theorem wJ {ls:List (Int×Int)}{r:Nat}{s:Int}{left:List Int}:(nxl ls r (s::left)).length≤left.length:=by
 have h:stp ls r (s::left) s=some 0:=stp_fp.z
 unfold nxl
 rw[List.filter_cons_of_neg (by rw[h];simp)]
 exact List.length_filter_le _ _
theorem ui {ls:List (Int×Int)}{left:List Int}{s:Int}{r:Nat}{F:Int→Option Nat}(h:FP ls left s r F){x:Int}{d:Nat}(hx:F x=some (d+1)):∃ y,par ls left F x=some y∧y∈left∧F y=some d∧adB ls y x=true:=by
 have e:par ls left F x=(left.filter fun y=>decide (F y=some d)).find? fun y=>adB ls y x:=by
  unfold par
  rw[hx]
 rw[e]
 cases hf:(left.filter fun y=>decide (F y=some d)).find? fun y=>adB ls y x with
 |none =>
  obtain⟨y,hy,a⟩:=h.pr x d hx
  have:=List.find?_eq_none.mp hf y (List.mem_filter.mpr ⟨(h.mem y d hy).1,by simp[hy]⟩)
  exact absurd a this
 |some y =>
  have h1:=List.find?_some hf
  have h2:=List.mem_filter.mp (List.mem_of_find?_eq_some hf)
  exact⟨y,rfl,h2.1,of_decide_eq_true h2.2,h1⟩
theorem u8 {ls:List (Int×Int)}{r:Nat}:∀ {n:Nat}{left:List Int}{x:Int},left.length≤n→x∈left→(PF ls r n left x=none∧LF ls r n left x=x)∨∃ y,PF ls r n left x=some y∧y∈left∧LF ls r n left y=LF ls r n left x∧SF ls r n left y<SF ls r n left x
 |0,left,x,hl,hx=>by
  rw[List.eq_nil_of_length_eq_zero (Nat.le_zero.mp hl)] at hx
  cases hx
 |n+1,[],x,_,hx=>by cases hx
 |n+1,s::left,x,hl,hx=>by
  rw[List.length_cons] at hl
  have F:=stp_fp (ls:=ls) (r:=r) (s:=s) (left:=left)
  unfold PF LF SF
  cases hx0:stp ls r (s::left) x with
  |none =>
   have hx1:x∈nxl ls r (s::left):=List.mem_filter.mpr ⟨hx,by simp[hx0]⟩
   rcases u8 (ls:=ls) (r:=r) (n:=n) (Nat.le_trans wJ (by omega)) hx1 with⟨h1,h2⟩ | ⟨y,h1,h2,h3,h4⟩
   ·exact .inl ⟨by rw[if_pos rfl];exact h1,by rw[if_pos rfl];exact h2⟩
   ·have hy0:stp ls r (s::left) y=none:=of_decide_eq_true (List.mem_filter.mp h2).2
    refine .inr ⟨y,by rw[if_pos rfl];exact h1,(List.mem_filter.mp h2).1,?_,?_⟩
    ·rw[if_pos hy0,if_pos rfl];exact h3
    ·rw[if_pos hy0,if_pos rfl];exact h4
  |some d =>
   cases d with
   |zero =>
    refine .inl ⟨?_,?_⟩
    ·rw[if_neg (by simp)]
     unfold par
     rw[hx0]
    ·rw[if_neg (by simp)]
     exact(F.z1 x hx0).symm
   |succ d =>
    obtain⟨y,h1,h2,h3,h4⟩:=ui F hx0
    refine .inr ⟨y,by rw[if_neg (by simp)];exact h1,h2,?_,?_⟩
    ·rw[h3,if_neg (by simp),if_neg (by simp)]
     rfl
    ·rw[h3,if_neg (by simp),if_neg (by simp)]
     exact Nat.lt_succ_self d
theorem Zl {ls:List (Int×Int)}{r r':Nat}:∀ {left:List Int},left.length≤r→left.length≤r'→stp ls r left=stp ls r' left
 |[],_,_=>rfl
 |s::left,h,h'=>stp_fp.uniq stp_fp h h'
theorem Vn {ls:List (Int×Int)}{r r':Nat}{left:List Int}(h:left.length≤r) (h':left.length≤r'):nxl ls r left=nxl ls r' left:=by
 unfold nxl
 rw[Zl h h']
theorem UT {ls:List (Int×Int)}{r:Nat}{left:List Int}:(nxl ls r left).length≤left.length:=List.length_filter_le _ _
theorem YV {ls:List (Int×Int)}{r r':Nat}:∀ {n:Nat}{left:List Int},left.length≤r→left.length≤r'→PF ls r n left=PF ls r' n left
 |0,left,_,_=>rfl
 |n+1,left,h,h'=>by
  funext x
  have e:=UT (ls:=ls) (r:=r) (left:=left)
  unfold PF
  rw[Zl h h',YV (r:=r) (r':=r') (n:=n) (Nat.le_trans e h) (Nat.le_trans e h'),Vn h h']
theorem Ww {ls:List (Int×Int)}{r:Nat}:∀ {n:Nat}{left:List Int}{x y:Int},left.length≤n→left.length≤r→x∈left→y∈left→adB ls x y=true→LF ls r n left x=LF ls r n left y
 |0,left,x,y,hl,_,hx,_,_=>by
  rw[List.eq_nil_of_length_eq_zero (Nat.le_zero.mp hl)] at hx
  cases hx
 |n+1,[],x,y,_,_,hx,_,_=>by cases hx
 |n+1,s::left,x,y,hl,hr,hx,hy,a=>by
  have F:=stp_fp (ls:=ls) (r:=r) (s:=s) (left:=left)
  have go:∀ {u v:Int},v∈s::left→adB ls u v=true→stp ls r (s::left) u≠none→stp ls r (s::left) v≠none:=fun {u v} hv a hu z=>by
   cases hu0:stp ls r (s::left) u with
   |none=>exact hu hu0
   |some d =>
    have:=F.few hu0
    obtain⟨e,he,_⟩:=F.cl u d v hu0 (by omega) hv a
    rw[z] at he
    cases he
  unfold LF
  by_cases c:stp ls r (s::left) x=none
  ·have c2:stp ls r (s::left) y=none:=by
    cases hy0:stp ls r (s::left) y with
    |none=>rfl
    |some d=>exact absurd c (go hx (by rw[xa];exact a) (by rw[hy0];simp))
   rw[if_pos c,if_pos c2]
   have l:=wJ (ls:=ls) (r:=r) (s:=s) (left:=left)
   rw[List.length_cons] at hl hr
   exact Ww (by omega) (by omega) (List.mem_filter.mpr ⟨hx,by simp[c]⟩) (List.mem_filter.mpr ⟨hy,by simp[c2]⟩) a
  ·rw[if_neg c,if_neg (go hy a c)]
   rfl
theorem vX {ls:List (Int×Int)}:∀ {n:Nat}{left:List Int}{x:Int},PF ls 0 n left x=none
 |0,_,_=>rfl
 |n+1,left,x=>by
  unfold PF
  by_cases c:stp ls 0 left x=none
  ·rw[if_pos c];exact vX
  ·rw[if_neg c]
   cases left with
   |nil=>exact absurd rfl c
   |cons s left =>
    cases hx:stp ls 0 (s::left) x with
    |none=>exact absurd hx c
    |some d =>
     have:=(stp_fp.mem x d hx).2
     rw[Nat.le_zero.mp this] at hx
     unfold par
     rw[hx]
theorem YW {ls:List (Int×Int)}:∀ {n:Nat}{left:List Int}{x:Int},LF ls 0 n left x=x
 |0,_,_=>rfl
 |n+1,left,x=>by
  unfold LF
  by_cases c:stp ls 0 left x=none
  ·rw[if_pos c];exact YW
  ·rw[if_neg c]
   cases left with
   |nil=>exact absurd rfl c
   |cons s left =>
    cases hx:stp ls 0 (s::left) x with
    |none=>exact absurd hx c
    |some d =>
     have:=(stp_fp.mem x d hx).2
     rw[Nat.le_zero.mp this] at hx
     exact(stp_fp.z1 x hx).symm
theorem VM {x:Int}{v y:V}{H H':Hp}(h:yI (Sum.inl x,v) y H H'):∃ p,H p=none∧y=.ref p∧H'=upd H p (.tup [.int x,v]):=h
def Fl (v:V):Prop:=(∃ i,v=.int i)∨v=.non
def CpV (H:Hp) (n:Nat) (v:V) (Q:V→Hp→Prop):Prop :=
 (1≤n∧Fl v∧Q v H) ∨
 (2≤n∧∃ (t:Addr) (i j:Int),v=.ref t∧H t=some (.tup [.int i,.int j])∧∀ (t':Addr) (H':Hp),H t'=none→H' t'=some (.tup [.int i,.int j])→Same H H'→Q (.ref t') H') ∨
 (2≤n∧∃ (d:Addr) (f:Int→V) (us:List Int),v=.ref d∧H d=some (.dK (tabV f us))∧us.Nodup∧us.length≤12∧(∀ x∈us,Fl (f x))∧∀ (d':Addr) (H':Hp),H d'=none→H' d'=some (.dK (tabV f us))→Same H H'→Q (.ref d') H') ∨
 (3≤n∧∃ (l:Addr) (rs:List V) (ls:List (Int×Int)),v=.ref l∧H l=some (.lst rs)∧LnAt H rs ls∧ls.length≤66∧∀ (l':Addr) (rs':List V) (H':Hp),H l'=none→H' l'=some (.lst rs')→LnAt H' rs' ls→Same H H'→Q (.ref l') H')
def Ua (n:Nat):Sp:=fun vs H Q _=>∃ v,vs=[v]∧CpV H n v Q
theorem yY (T:Txt w K mg a):∀ n,FnOk P w K mg base CX0 (n+2) a.f_qb a.d_qb ["value"] (Ua n)
 |0=>⟨fun vs H Q E h=>by
   obtain⟨v,rfl,_⟩:=h
   rfl,fun A outer s H args us vs Q E _ _ _ _ h=>by
   obtain⟨v,_,h⟩:=h
   rcases h with⟨h,_⟩ | ⟨h,_⟩ | ⟨h,_⟩ | ⟨h,_⟩<;>omega⟩
 |n+1=>by
  have c_qb:Callee P w K mg base "copied" a.f_qb a.d_qb ["value"] (n+2) (Ua n):=⟨yY T n,T.g_qb,T.F_qb.kp,T.b_qb⟩
  refine T.F_qb.ok zbV (fun vs H Q E h=>?_) (fun cdv A outer s H vs Q E hr h=>?_)
  ·obtain⟨v,rfl,_⟩:=h
   rfl
  ·obtain⟨v,rfl,h⟩:=h
   refine zU (w_pss_cons (zH (yB (zq ye (by rfl) T.n_isinstance zA (zg (zh 0) (zg (wx T.n_list yR) zd))))
    (zf (zj (yh rfl (N':=["each"]) (t:=1) (caps:=[]) ⟨rfl,rfl,rfl⟩ (zz (zh 0)) (fun _=>(zk (i:=0) (show(["each"]:List Str).Nodup by decide +kernel) rfl (Or.inl rfl))) (fun _=>yu) (fun _=>(zp c_qb (hr.mono (by omega)) (zg (zh 0) zd))))))
    zt)
   (w_pss_cons (zH (yB (zq ye (by rfl) T.n_isinstance zA (zg (zh 0) (zg (wx T.n_tuple xB) zd))))
    (zf (zj (zP y9 (by rfl) T.n_tuple xB (zo (yh rfl (N':=["each"]) (t:=1) (caps:=[]) ⟨rfl,rfl,rfl⟩ (YY (zh 0)) (fun _=>(zk (i:=0) (show(["each"]:List Str).Nodup by decide +kernel) rfl (Or.inl rfl))) (fun _=>yu) (fun _=>(zp c_qb (hr.mono (by omega)) (zg (zh 0) zd)))) zd))))
    zt)
   (w_pss_cons (zH (yB (zq ye (by rfl) T.n_isinstance zA (zg (zh 0) (zg (wx T.n_dict vT) zd))))
    (zf (zj (zP (ww rfl) (by rfl) T.n_dict vT (zo (uY (yh rfl (N':=["key", "each"]) (t:=2) (caps:=[]) ⟨rfl,rfl,rfl⟩ (vw (zh 0)) (fun _=>(yU rfl (zG (zk (i:=0) (show(["key", "each"]:List Str).Nodup by decide +kernel) rfl (Or.inl rfl)) (zG (zk (i:=1) (show(["key", "each"]:List Str).Nodup by decide +kernel) rfl (Or.inl rfl)) yv)))) (fun _=>yu) (fun _=>(zV (zg (zh 0) (zF (zp c_qb (hr.mono (by omega)) (zg (zh 1) zd)) zd)))))) zd))))
    zt)
   (zf (zj (zh 0)))))) ?_
   rcases h with⟨_,hv,k⟩ | ⟨h2,t,i,j,rfl,ht,k⟩ | ⟨h2,d,f,us,rfl,hd,nd,l12,hf,k⟩ | ⟨h3,l,rs,ls,rfl,hl,L,l66,k⟩
   ·rcases hv with⟨i,rfl⟩ | rfl
    ·refine⟨_,rfl,_,_,_,_,_,rfl,rfl,.int i,T.k_tint_tlist,_,rfl,z4 rfl ?_⟩
     refine⟨_,rfl,_,_,_,_,_,rfl,rfl,.int i,T.k_tint_ttuple,_,rfl,z4 rfl ?_⟩
     refine⟨_,rfl,_,_,_,_,_,rfl,rfl,.int i,T.k_tint_tdict,_,rfl,z4 rfl ?_⟩
     exact⟨_,rfl,k⟩
    ·refine⟨_,rfl,_,_,_,_,_,rfl,rfl,.non,T.k_tNoneType_tlist,_,rfl,z4 rfl ?_⟩
     refine⟨_,rfl,_,_,_,_,_,rfl,rfl,.non,T.k_tNoneType_ttuple,_,rfl,z4 rfl ?_⟩
     refine⟨_,rfl,_,_,_,_,_,rfl,rfl,.non,T.k_tNoneType_tdict,_,rfl,z4 rfl ?_⟩
     exact⟨_,rfl,k⟩
   ·refine⟨_,rfl,_,_,_,_,_,rfl,rfl,.tup ht,T.k_ttuple_tlist,_,rfl,z4 rfl ?_⟩
    refine⟨_,rfl,_,_,_,_,_,rfl,rfl,.tup ht,T.k_ttuple_ttuple,_,rfl,vt ?_⟩
    refine⟨_,rfl,t,rfl,⟨_,SqT.of ht⟩,fun D hD _=>?_⟩
    refine XS (K:=K) (a:=t) (xs:=[V.int i,V.int j]) (fun m zs τ H'=>∃ (o:Option V),τ=[o]∧zs=[V.int i,V.int j].take m∧H'=upd H D (.lst zs)) ?_ ?_ ?_ ?_
    ·exact⟨none,rfl,rfl,rfl⟩
    ·rintro m zs τ H' ⟨o,_,_,rfl⟩
     exact SqT.of (by rw[upd_ne (ne_of_none ht hD)];exact ht)
    ·rintro m v zs τ H' hi ⟨o,rfl,rfl,rfl⟩
     have hv:∃ y,v=V.int y:=by
      match m,hi with
      |0,hi=>exact⟨i,by cases hi;rfl⟩
      |1,hi=>exact⟨j,by cases hi;rfl⟩
      |m+2,hi=>simp at hi
     obtain⟨y,rfl⟩:=hv
     have hml:m<2:=(List.getElem?_eq_some_iff.mp hi).1
     refine XF ?_
     refine⟨_,rfl,_,rfl,.inl ⟨by omega,.inl ⟨y,rfl⟩,?_⟩⟩
     refine⟨upd_same,by rw[List.length_take];exact zi (by omega),some (.int y),rfl,?_,?_⟩
     ·rw[List.take_add_one,hi];rfl
     ·rw[yO]
    ·rintro zs τ H' ⟨o,rfl,rfl,rfl⟩
     refine⟨D,_,rfl,.inl ⟨SqL.of upd_same,fun t' ht'=>?_⟩⟩
     exact k t' _ ((Same.new hD).free ht') upd_same ((Same.new hD).trans (Same.new ht'))
   ·refine⟨_,rfl,_,_,_,_,_,rfl,rfl,.dK hd,T.k_tdict_tlist,_,rfl,z4 rfl ?_⟩
    refine⟨_,rfl,_,_,_,_,_,rfl,rfl,.dK hd,T.k_tdict_ttuple,_,rfl,z4 rfl ?_⟩
    refine⟨_,rfl,_,_,_,_,_,rfl,rfl,.dK hd,T.k_tdict_tdict,_,rfl,vt ?_⟩
    refine⟨_,rfl,d,_,rfl,hd,fun od S D hD _=>?_⟩
    have hDd:D≠d:=fun z=>by rw[z,upd_same] at hD;cases hD
    generalize hG1:upd H d (HO.frz od (HO.dK (tabV f us)))=G1 at *
    have hq1:G1 d=some (.frz od (.dK (tabV f us))):=by rw[← hG1];exact upd_same
    have x1:Ext d H G1:=by rw[← hG1];exact Ext.at
    refine YH (yl:=yI) (d:=d) (od:=od) (kvs:=tabV f us) (fun i zs τ G'=>∃ (o1 o2:Option V) (qs:List Addr),τ=[o1,o2]∧zs=qs.map V.ref∧qs.length=i∧(∀ (j:Nat) (p:Addr) (x:Int),qs[j]?=some p→us[j]?=some x→G' p=some (.tup [.int x,f x]))∧G' D=some (.lst zs)∧Same G1 G') ?_ ?_ ?_ ?_
    ·exact⟨none,none,[],rfl,rfl,rfl,fun j q x h=>by simp at h,upd_same,Same.new hD⟩
    ·rintro i zs τ G' ⟨o1,o2,qs,_,_,_,_,_,sm⟩
     exact sm _ _ hq1
    ·rintro i kv v zs τ G' G'' hkv ⟨o1,o2,qs,rfl,rfl,lq,hqs,hD',sm⟩ hy
     obtain⟨x,hx,rfl⟩:∃ x,us[i]?=some x∧kv=(Sum.inl x,f x):=by
      unfold tabV at hkv
      rw[List.getElem?_map] at hkv
      obtain⟨x,h1,h2⟩:=Option.map_eq_some_iff.mp hkv
      exact⟨x,h1,h2.symm⟩
     obtain⟨p0,hp0,rfl,rfl⟩:=VM hy
     have hil:i<us.length:=(List.getElem?_eq_some_iff.mp hx).1
     have n1:=Same.new (o:=HO.tup [V.int x,f x]) hp0
     refine⟨p0,_,rfl,SqT.of upd_same,rfl,_,_,rfl,_,_,rfl,rfl,VL ?_⟩
     refine⟨_,rfl,_,rfl,_,rfl,.inl ⟨by omega,hf x (List.mem_of_getElem? hx),(by show 2≤sizeLine;decide),fun pt hpt=>?_⟩⟩
     have n2:=Same.new (o:=HO.tup [V.int x,f x]) hpt
     have n12:=n1.trans n2
     have npt:pt≠D:=fun z=>by rw[z] at hpt;have:=n1 _ _ hD';rw[hpt] at this;cases this
     have hDF:=n12 _ _ hD'
     refine⟨hDF,by rw[List.length_map,lq];exact zi (by omega),some (.int x),some (f x),qs++[pt],rfl,by simp,by simp[lq],fun j p y hj hy'=>?_,upd_same,?_⟩
     ·by_cases hji:j<i
      ·rw[List.getElem?_append_left (by omega)] at hj
       have h1:=n12 _ _ (hqs j p y hj hy')
       rw[upd_ne (fun z=>by rw[z,hDF] at h1;cases h1)]
       exact h1
      ·rw[List.getElem?_append_right (by omega)] at hj
       have:j=i:=by
        have:=(List.getElem?_eq_some_iff.mp hj).1
        simp at this
        omega
       subst this
       rw[lq,Nat.sub_self] at hj
       cases hj
       rw[hx] at hy'
       cases hy'
       rw[upd_ne npt]
       exact upd_same
     ·exact Same.updF (sm.trans n12) hD
    ·rintro zs τ G2 ⟨o1,o2,qs,rfl,rfl,lq,hqs,hD2,sm⟩
     refine .inr ⟨d,od,tabV f us,S,sm _ _ hq1,?_⟩
     rw[tabV_len] at lq
     have sG3:Same H (upd G2 d (HO.dK (tabV f us))):=fun b o e=>by
      by_cases z:b=d
      ·rw[z,hd] at e;cases e;rw[z];exact upd_same
      ·rw[upd_ne z];exact sm _ _ (x1 _ _ e z)
     have hD3:(upd G2 d (HO.dK (tabV f us))) D=some (.lst (qs.map V.ref)):=by rw[upd_ne hDd];exact hD2
     have hq3:∀ (j:Nat) (p:Addr) (x:Int),qs[j]?=some p→us[j]?=some x→(upd G2 d (HO.dK (tabV f us))) p=some (.tup [.int x,f x]):=fun j p x h1 h2=>by
      have h3:=hqs j p x h1 h2
      rw[upd_ne (fun z=>by rw[z,sm _ _ hq1] at h3;cases h3)]
      exact h3
     generalize upd G2 d (HO.dK (tabV f us))=G3 at *
     refine⟨D,qs,tabV f us,rfl,hD3,by rw[tabV_len];exact lq,by rw[tabV_len];omega,fun i q kv h1 h2=>?_,fun d' hd'=>?_⟩
     ·unfold tabV at h2
      rw[List.getElem?_map] at h2
      obtain⟨x,h3,h4⟩:=Option.map_eq_some_iff.mp h2
      subst h4
      exact hq3 i q x h1 h3
     rw[xy (by rw[yi];exact Yu nd)]
     exact k d' _ (sG3.free hd') upd_same (sG3.trans (Same.new hd'))
   ·refine⟨_,rfl,_,_,_,_,_,rfl,rfl,.lst hl,T.k_tlist_tlist,_,rfl,vt ?_⟩
    refine⟨_,rfl,l,rfl,⟨_,SqL.of hl⟩,fun D hD _=>?_⟩
    have lr:=L.1
    refine zY (K:=K) (a:=l) (xs:=rs) (fun m zs τ H'=>∃ (o:Option V),τ=[o]∧zs.length=m∧LnAt H' zs (ls.take m)∧H' D=some (.lst zs)∧Same H H') ?_ ?_ ?_ ?_
    ·exact⟨none,rfl,rfl,⟨rfl,fun i r p h=>by simp at h⟩,upd_same,Same.new hD⟩
    ·rintro m zs τ H' ⟨o,_,_,_,_,sm⟩
     exact SqL.of (sm _ _ hl)
    ·rintro m v zs τ H' hi ⟨o,rfl,lz,Lz,hD',sm⟩
     obtain⟨p,q,hp,rfl,hq⟩:=L.get hi
     have hml:m<rs.length:=(List.getElem?_eq_some_iff.mp hi).1
     refine XF ?_
     refine⟨_,rfl,_,rfl,.inr (.inl ⟨by omega,q,p.1,p.2,rfl,sm _ _ hq,fun t' H2 ht' h2 s2=>?_⟩)⟩
     have hD2:=s2 _ _ hD'
     refine⟨hD2,by rw[lz];exact zi (by omega),some (.ref q),rfl,by simp[lz],?_,upd_same,Same.updF (sm.trans s2) hD⟩
     rw[List.take_add_one,hp]
     exact LnAt.updL hD2 ((Lz.same s2).snoc h2)
    ·rintro zs τ H' ⟨o,rfl,lz,Lz,hD',sm⟩
     rw[List.take_of_length_le (by omega)] at Lz
     exact k D zs H' hD hD' Lz sm
noncomputable def opV:Option Int→V
 |none=>.non
 |some y=>.int y
theorem Wp (o:Option Int):Fl (opV o):=by
 cases o with
 |none=>exact .inr rfl
 |some y=>exact .inl ⟨y,rfl⟩
def UpP (us:List Int) (pf:Int→Option Int) (lf:Int→Int):Prop:=∃ sf:Int→Nat,∀ x∈us,(pf x=none∧lf x=x)∨∃ y,pf x=some y∧y∈us∧lf y=lf x∧sf y<sf x
structure WayAt (a:Ad) (H:Hp) (p:Addr) (pf:Int→Option Int) (us:List Int) (ls:List (Int×Int)) (dx dp ob:Addr):Prop where
 p:H p=some (.ins a.c_Way dx [("own_parents",.ref dp),("own_bridges",.ref ob)])
 dp:H dp=some (.dK (tabV (fun x=>opV (pf x)) us))
 ob:∃ rs,H ob=some (.lst rs)∧LnAt H rs ls
 nd:us.Nodup
 l12:us.length≤12
 l66:ls.length≤66
theorem WayAt.same {a:Ad}{H H':Hp}{p dx dp ob:Addr}{pf:Int→Option Int}{us:List Int}{ls:List (Int×Int)}(w:WayAt a H p pf us ls dx dp ob) (s:Same H H'):WayAt a H' p pf us ls dx dp ob:=⟨s _ _ w.p,s _ _ w.dp,by obtain⟨rs,e1,e2⟩:=w.ob;exact⟨rs,s _ _ e1,e2.same s⟩,w.nd,w.l12,w.l66⟩
def V9 (a:Ad):Sp:=fun vs H Q _=>∃ (p dx d l:Addr) (pf:Int→Option Int) (us:List Int) (rs:List V) (ls:List (Int×Int)),vs=[.ref p,.ref d,.ref l]∧H p=some (.ins a.c_Way dx [])∧H d=some (.dK (tabV (fun x=>opV (pf x)) us))∧us.Nodup∧us.length≤12∧H l=some (.lst rs)∧LnAt H rs ls∧ls.length≤66 ∧
 ∀ (dp ob:Addr) (H':Hp),Ext p H H'→WayAt a H' p pf us ls dx dp ob→Q .non H'
theorem Uw (T:Txt w K mg a):FnOk P w K mg base CX0 6 a.f_qx a.d_qx ["self", "parents", "bridges"] (V9 a):=by
 have c_qb:Callee P w K mg base "copied" a.f_qb a.d_qb ["value"] (3+2) (Ua 3):=⟨yY T 3,T.g_qb,T.F_qb.kp,T.b_qb⟩
 refine T.F_qx.ok zbO (fun vs H Q E h=>?_) (fun cdv A outer s H vs Q E hr h=>?_)
 ·obtain⟨p,dx,d,l,pf,us,rs,ls,rfl,_⟩:=h
  rfl
 ·obtain⟨p,dx,d,l,pf,us,rs,ls,rfl,hp,hd,nd,l12,hl,L,l66,k⟩:=h
  refine zU (w_pss_cons (v3 (zh 0) (zp c_qb (hr.mono (by omega)) (zg (zh 1) zd)) rfl)
   (zf (v3 (zh 0) (zp c_qb (hr.mono (by omega)) (zg (zh 2) zd)) rfl))) ?_
  refine⟨_,rfl,_,rfl,.inr (.inr (.inl ⟨by decide,d,_,us,rfl,hd,nd,l12,fun x _=>Wp _,fun dp H1 hdp h1 s1=>?_⟩))⟩
  have ndp:dp≠p:=fun z=>by rw[z,hp] at hdp;cases hdp
  refine⟨_,rfl,p,a.c_Way,dx,_,rfl,s1 _ _ hp,T.cl_Way,T.na_Way_own_parents,(by show 0<1000;decide),?_⟩
  have x1:=(Ext.same (l:=p) s1).trans (Ext.at (l:=p) (o:=.ins a.c_Way dx [("own_parents",.ref dp)]))
  have nlp:l≠p:=fun z=>by rw[z,hp] at hl;cases hl
  refine⟨_,rfl,_,rfl,.inr (.inr (.inr ⟨by decide,l,rs,ls,rfl,x1 _ _ hl nlp,L.ext hp x1,l66,fun ob rs' H2 hob h2 L2 s2=>?_⟩))⟩
  refine⟨_,rfl,p,a.c_Way,dx,_,rfl,s2 _ _ upd_same,T.cl_Way,T.na_Way_own_bridges,(by show 1<1000;decide),?_⟩
  have nob:ob≠p:=fun z=>by rw[z,upd_same] at hob;cases hob
  refine k dp ob _ ((x1.trans (Ext.same s2)).trans Ext.at) ⟨upd_same,?_,⟨rs',?_,L2.ext (s2 _ _ upd_same) Ext.at⟩,nd,l12,l66⟩
  ·rw[upd_ne ndp]
   exact s2 _ _ ((upd_ne ndp).trans h1)
  ·rw[upd_ne nob]
   exact h2
def ziE (a:Ad):Sp:=fun vs H Q _=>∃ (p dx dp ob:Addr) (pf:Int→Option Int) (us:List Int) (ls:List (Int×Int)),vs=[.ref p]∧WayAt a H p pf us ls dx dp ob∧∀ (d:Addr) (H':Hp),H d=none→H' d=some (.dK (tabV (fun x=>opV (pf x)) us))→Same H H'→Q (.ref d) H'
theorem UB (T:Txt w K mg a):FnOk P w K mg base CX0 6 a.f_qy a.d_qy ["self"] (ziE a):=by
 have c_qb:Callee P w K mg base "copied" a.f_qb a.d_qb ["value"] (3+2) (Ua 3):=⟨yY T 3,T.g_qb,T.F_qb.kp,T.b_qb⟩
 refine T.F_qy.ok zbN (fun vs H Q E h=>?_) (fun cdv A outer s H vs Q E hr h=>?_)
 ·obtain⟨p,dx,dp,ob,pf,us,ls,rfl,_⟩:=h
  rfl
 ·obtain⟨p,dx,dp,ob,pf,us,ls,rfl,W,k⟩:=h
  refine zU (zf (zj (zp c_qb (hr.mono (by omega)) (zo (yc (zh 0) rfl) zd)))) ?_
  exact⟨_,rfl,p,_,dx,_,_,rfl,W.p,T.cl_Way,T.na_Way_own_parents,rfl,_,rfl,.inr (.inr (.inl ⟨by decide,dp,_,us,rfl,W.dp,W.nd,W.l12,fun x _=>Wp _,k⟩))⟩
def ziF (a:Ad):Sp:=fun vs H Q _=>∃ (p dx dp ob:Addr) (pf:Int→Option Int) (us:List Int) (ls:List (Int×Int)),vs=[.ref p]∧WayAt a H p pf us ls dx dp ob∧∀ (l:Addr) (rs:List V) (H':Hp),H l=none→H' l=some (.lst rs)→LnAt H' rs ls→Same H H'→Q (.ref l) H'
theorem UC (T:Txt w K mg a):FnOk P w K mg base CX0 6 a.f_qz a.d_qz ["self"] (ziF a):=by
 have c_qb:Callee P w K mg base "copied" a.f_qb a.d_qb ["value"] (3+2) (Ua 3):=⟨yY T 3,T.g_qb,T.F_qb.kp,T.b_qb⟩
 refine T.F_qz.ok zbM (fun vs H Q E h=>?_) (fun cdv A outer s H vs Q E hr h=>?_)
 ·obtain⟨p,dx,dp,ob,pf,us,ls,rfl,_⟩:=h
  rfl
 ·obtain⟨p,dx,dp,ob,pf,us,ls,rfl,W,k⟩:=h
  refine zU (zf (zj (zp c_qb (hr.mono (by omega)) (zo (yc (zh 0) rfl) zd)))) ?_
  obtain⟨rs,e1,e2⟩:=W.ob
  exact⟨_,rfl,p,_,dx,_,_,rfl,W.p,T.cl_Way,T.na_Way_own_bridges,rfl,_,rfl,.inr (.inr (.inr ⟨by decide,ob,rs,ls,rfl,e1,e2,W.l66,k⟩))⟩
def ziB (a:Ad):Sp:=fun vs H Q _=>∃ (p dx dp ob:Addr) (pf:Int→Option Int) (lf:Int→Int) (us:List Int) (ls:List (Int×Int)) (x:Int),vs=[.ref p,.int x]∧WayAt a H p pf us ls dx dp ob∧UpP us pf lf∧x∈us∧∀ (l:Addr) (ys:List Int),H l=none→Q (.ref l) (upd H l (.lst ((ys++[lf x]).map V.int)))
theorem zca (T:Txt w K mg a):FnOk P w K mg base CX0 1 a.f_qA a.d_qA ["self", "hand"] (ziB a):=by
 refine T.F_qA.ok sc_qA (fun vs H Q E h=>?_) (fun cdv A outer s H vs Q E hr h=>?_)
 ·obtain⟨p,dx,dp,ob,pf,lf,us,ls,x,rfl,_⟩:=h
  rfl
 ·obtain⟨p,dx,dp,ob,pf,lf,us,ls,x,rfl,W,⟨sf,U⟩,hx,k⟩:=h
  have hu:=xm hr
  refine zU (w_pss_cons (w_ps_set (i:=2) sc_qA.nd rfl (Or.inl rfl) (zD (zg (zh 1) zd)))
   (w_pss_cons (w_ps_set (i:=3) sc_qA.nd rfl (Or.inl rfl) (wb hu (yc (zh 0) rfl) (zh 1) ⟨rfl,rfl,rfl,rfl⟩))
   (w_pss_cons (z5 PassesOwn.never (XW (yj (zn Ve (zh 3) xt (zr _)) (yf (zn vd (zh 3) (zh 2) (by with_unfolding_all rfl)))))
    (w_pss_cons (zC (yk PySem.F.plainAttrs_list PySem.F.slot_list_append PySem.F.type_list_append zL (zh 2) (zg (zh 3) zd)))
    (zf (w_ps_set (i:=3) sc_qA.nd rfl (Or.inl rfl) (wb hu (yc (zh 0) rfl) (zh 3) ⟨rfl,rfl,rfl,rfl⟩)))))
   (zf (zj (zh 2)))))) ?_
  refine⟨_,rfl,(by show 1≤sizeLine;decide),fun l hl=>?_⟩
  have sm:∀ o,Same H (upd H l o):=fun o=>Same.new hl
  refine⟨_,rfl,p,_,dx,_,_,rfl,sm _ _ _ W.p,T.cl_Way,T.na_Way_own_parents,rfl,dp,rfl,.inl ⟨_,.inl (sm _ _ _ W.dp)⟩,_,rfl,some (opV (pf x)),zN (sm _ _ _ W.dp) hx,?_⟩
  refine⟨fun m σ H'=>∃ (ys:List Int) (z:Int),m=sf z∧σ=[some (.ref p),some (.int x),some (.ref l),some (opV (pf z))]∧H'=upd H l (.lst ((ys++[z]).map V.int))∧z∈us∧lf z=lf x∧(∀ y∈ys,sf z<sf y)∧(ys++[z]).Nodup∧∀ y∈ys,y∈us,⟨sf x,[],x,rfl,rfl,rfl,hx,rfl,(fun y hy=>(nomatch hy)),(by simp),(fun y hy=>(nomatch hy))⟩,?_⟩
  rintro m σ H' ⟨ys,z,rfl,rfl,rfl,hz,hlz,hlt,nd,hsub⟩
  have hlen:(ys++[z]).length≤12:=Nat.le_trans (yo nd fun y hy=>(List.mem_append.mp hy).elim (hsub y) fun e=>by rw[List.mem_singleton.mp e];exact hz) W.l12
  rcases U z hz with⟨h1,h2⟩ | ⟨y,h1,h2,h3,h4⟩
  ·rw[h1]
   refine⟨_,rfl,rfl,_,rfl,z4 rfl ?_⟩
   refine⟨_,rfl,?_⟩
   have e:z=lf x:=by rw[← hlz];exact h2.symm
   rw[e]
   exact k l ys hl
  ·rw[h1]
   have hny:y∉ys++[z]:=fun hy=>by
    rcases List.mem_append.mp hy with q | q
    ·have:=hlt y q
     omega
    ·rw[List.mem_singleton.mp q] at h4
     omega
   refine⟨_,rfl,rfl,_,rfl,vt ?_⟩
   refine⟨_,rfl,_,rfl,l,_,rfl,.inl (SqL.of upd_same),rfl,ya _,_,rfl,iteB (by show(!inV (.int y) _)=true;rw[yz,decide_eq_false hny];rfl) ?_⟩
   refine⟨_,fun σ' H' h=>h,?_⟩
   refine⟨_,rfl,.inl ⟨rfl,_,SqL.of upd_same⟩,_,rfl,l,_,_,rfl,rfl,upd_same,(by rw[List.length_map];exact zi (by omega)),?_⟩
   rw[yO]
   refine⟨_,rfl,p,_,dx,_,_,rfl,sm _ _ _ W.p,T.cl_Way,T.na_Way_own_parents,rfl,dp,rfl,.inl ⟨_,.inl (sm _ _ _ W.dp)⟩,_,rfl,some (opV (pf y)),zN (sm _ _ _ W.dp) h2,?_⟩
   refine⟨sf y,h4,ys++[z],y,rfl,rfl,?_,h2,h3.trans hlz,fun u hu=>?_,?_,fun u hu=>?_⟩
   ·rw[List.map_append (l₂:=[y])]
    rfl
   ·rcases List.mem_append.mp hu with q | q
    ·have:=hlt u q
     omega
    ·rw[List.mem_singleton.mp q];exact h4
   ·rw[List.nodup_append]
    exact⟨nd,by simp,fun u hu v hv e=>hny (by rw[List.mem_singleton.mp hv] at e;rw[← e];exact hu)⟩
   ·rcases List.mem_append.mp hu with q | q
    ·exact hsub u q
    ·rw[List.mem_singleton.mp q];exact hz
def ziD (a:Ad):Sp:=fun vs H Q _=>∃ (p dx dp ob:Addr) (pf:Int→Option Int) (lf:Int→Int) (us:List Int) (ls:List (Int×Int)) (x:Int),vs=[.ref p,.int x]∧WayAt a H p pf us ls dx dp ob∧UpP us pf lf∧x∈us∧∀ (H':Hp),Same H H'→Q (.int (lf x)) H'
theorem Uz (T:Txt w K mg a):FnOk P w K mg base CX0 2 a.f_qB a.d_qB ["self", "hand"] (ziD a):=by
 refine T.F_qB.ok zb2 (fun vs H Q E h=>?_) (fun cdv A outer s H vs Q E hr h=>?_)
 ·obtain⟨p,dx,dp,ob,pf,lf,us,ls,x,rfl,_⟩:=h
  rfl
 ·obtain⟨p,dx,dp,ob,pf,lf,us,ls,x,rfl,W,U,hx,k⟩:=h
  refine zU (zf (zj (zJ z8 (yg (zh 0) (zg (zh 1) zd)) (uX Zb ze) (fun _ _=>rfl)))) ?_
  refine⟨_,rfl,p,_,dx,_,_,_,_,_,_,rfl,W.p,rfl,T.cl_Way,T.mt_qA,zca (P:=P) (w:=w) T,hr.mono (by omega),T.b_qA,_,rfl,p,dx,dp,ob,pf,lf,us,ls,x,rfl,W,U,hx,fun l ys hl=>?_⟩
  refine⟨_,rfl,l,_,-1,_,rfl,rfl,SqL.of upd_same,?_,k _ (Same.new hl)⟩
  rw[List.map_append]
  exact at_last
open L2.Sco (PT PsAt)
noncomputable def jk (lf:Int→Int) (p:Int×Int):Int×Int:=(min (lf p.1) (lf p.2),max (lf p.1) (lf p.2))
def jst (lf:Int→Int) (acc:List ((Int×Int)×(Int×Int))) (p:Int×Int):List ((Int×Int)×(Int×Int)) :=
 if lf p.1=lf p.2 then acc else if jk lf p∈acc.map (·.1) then acc else acc++[(jk lf p,p)]
def jn (lf:Int→Int) (ls:List (Int×Int)):List ((Int×Int)×(Int×Int)):=ls.foldl (jst lf) []
theorem xl {lf:Int→Int}{ls:List (Int×Int)}{p:Int×Int}:jn lf (ls++[p])=jst lf (jn lf ls) p:=by
 unfold jn
 rw[List.foldl_append]
 rfl
theorem Vw {lf:Int→Int}{acc:List ((Int×Int)×(Int×Int))}{p:Int×Int}:(jst lf acc p).length≤acc.length+1:=by
 unfold jst
 split
 ·omega
 ·split
  ·omega
  ·simp
theorem vj {lf:Int→Int}{ls:List (Int×Int)}:(jn lf ls).length≤ls.length:=by
 suffices ∀ (acc:List ((Int×Int)×(Int×Int))),(ls.foldl (jst lf) acc).length≤acc.length+ls.length by
  have:=this []
  unfold jn
  simpa using this
 induction ls with
 |nil=>intro acc;simp
 |cons p ls ih =>
  intro acc
  have h1:=ih (jst lf acc p)
  have h2:=Vw (lf:=lf) (acc:=acc) (p:=p)
  rw[List.foldl_cons,List.length_cons]
  omega
theorem uz {x y:Int}{ms:List Int}(pm:ms.Perm [x,y]) (sd:ms.Pairwise (· ≤ ·)):ms=[min x y,max x y]:=by
 have hl:=pm.length_eq
 match ms,hl with
 |[u,v],_ =>
  have h1:u≤v:=(List.pairwise_cons.mp sd).1 v (by simp)
  have hu:u=x∨u=y:=by simpa using pm.mem_iff.mp (show u∈[u,v] by simp)
  have hx:x=u∨x=v:=by simpa using pm.mem_iff.mpr (show x∈[x,y] by simp)
  have hy:y=u∨y=v:=by simpa using pm.mem_iff.mpr (show y∈[x,y] by simp)
  have hv:v=x∨v=y:=by simpa using pm.mem_iff.mp (show v∈[u,v] by simp)
  have e1:u=min x y:=by omega
  have e2:v=max x y:=by omega
  rw[e1,e2]
noncomputable def kvJ (js:List ((Int×Int)×PT)):List (List Key×V):=js.map fun j=>([Sum.inl j.1.1,Sum.inl j.1.2],V.ref j.2.1)
noncomputable def tlJ (js:List ((Int×Int)×PT)):List ((Int×Int)×(Int×Int)):=js.map fun j=>(j.1,j.2.2)
theorem Yj {js:List ((Int×Int)×PT)}{k:Int×Int}:(yw (kvJ js) ([Sum.inl k.1,Sum.inl k.2]:List Key)).isSome=decide (k∈js.map (·.1)):=by
 rw[xG]
 apply decide_eq_decide.mpr
 unfold kvJ
 rw[List.map_map]
 constructor
 ·intro h
  obtain⟨j,hj,e⟩:=List.mem_map.mp h
  refine List.mem_map.mpr ⟨j,hj,?_⟩
  have e:([Sum.inl j.1.1,Sum.inl j.1.2]:List Key)=[Sum.inl k.1,Sum.inl k.2]:=e
  injection e with e1 e2
  injection e2 with e2 _
  injection e1 with e1
  injection e2 with e2
  exact Prod.ext e1 e2
 ·intro h
  obtain⟨j,hj,e⟩:=List.mem_map.mp h
  exact List.mem_map.mpr ⟨j,hj,by rw[← e];rfl⟩
def zg9 (a:Ad):Sp:=fun vs H Q _=>∃ (p dx dp ob l:Addr) (pf:Int→Option Int) (lf:Int→Int) (us:List Int) (bs ls:List (Int×Int)) (rs:List V),vs=[.ref p,.ref l]∧WayAt a H p pf us bs dx dp ob∧UpP us pf lf∧H l=some (.lst rs)∧LnAt H rs ls∧Bd ls∧ls.length≤66∧(∀ q∈ls,q.1∈us∧q.2∈us) ∧
 ∀ (d:Addr) (js:List ((Int×Int)×PT)) (H':Hp),H d=none→H' d=some (.dT (kvJ js))→tlJ js=jn lf ls→PsAt H' (js.map (·.2))→Same H H'→Q (.ref d) H'
theorem zci (T:Txt w K mg a):FnOk P w K mg base CX0 3 a.f_qc a.d_qc ["way", "lines"] (zg9 a):=by
 refine T.F_qc.ok sc_qc (fun vs H Q E h=>?_) (fun cdv A outer s H vs Q E hr h=>?_)
 ·obtain⟨p,dx,dp,ob,l,pf,lf,us,bs,ls,rs,rfl,_⟩:=h
  rfl
 ·obtain⟨p,dx,dp,ob,l,pf,lf,us,bs,ls,rs,rfl,W,U,hl,L,B,l66,hin,k⟩:=h
  have hu:=xm hr
  refine zU (w_pss_cons (w_ps_set (i:=2) sc_qc.nd rfl (Or.inl rfl) wa)
   (w_pss_cons (zM PassesOwn.never rfl (zz (zh 1)) (yU rfl (zG (zk (i:=3) sc_qc.nd rfl (Or.inl rfl)) (zG (zk (i:=4) sc_qc.nd rfl (Or.inl rfl)) yv)))
    (w_pss_cons (w_ps_set (i:=5) sc_qc.nd rfl (Or.inl rfl) (zP y9 (by rfl) T.n_tuple xB (zF (zq xn (by rfl) T.n_sorted zT (zo (zD (zF (yg (zh 0) (zg (zh 3) zd)) (zF (yg (zh 0) (zg (zh 4) zd)) zd))) zd)) zd)))
    (zf (zH (zn Vf (zJ yy (zh 5) ze (fun _ _=>rfl)) (zJ yy (zh 5) ze (fun _ _=>rfl)) (zr _))
     (zf (zC (xE hu (zh 2) (zh 5) (zV (zg (zh 3) (zg (zh 4) zd))) ⟨rfl,rfl,rfl,rfl⟩)))
     zt))))
   (zf (zj (zh 2))))) ?_
  refine fun d hd=>?_
  have lr:=L.1
  refine⟨_,rfl,l,rfl,⟨_,SqL.of (Same.new hd _ _ hl)⟩,?_⟩
  refine for_list (xs:=rs) (fun i σ H'=>∃ (js:List ((Int×Int)×PT)) (o3 o4 o5:Option V),σ=[some (.ref p),some (.ref l),some (.ref d),o3,o4,o5]∧H' d=some (.dT (kvJ js))∧tlJ js=jn lf (ls.take i)∧PsAt H' (js.map (·.2))∧Same H H') ?_ ?_ ?_ ?_
  ·exact⟨[],none,none,none,rfl,upd_same,rfl,(fun p hp=>(nomatch hp)),Same.new hd⟩
  ·rintro i σ H' hi ⟨js,o3,o4,o5,_,_,_,_,sm⟩
   exact SqL.of (sm _ _ hl)
  ·rintro i v σ H1 hi ⟨js,o3,o4,o5,rfl,hd1,ej,ps,sm⟩
   obtain⟨⟨x,y⟩,q,hp,rfl,hq⟩:=L.get hi
   have hpm:=List.mem_of_getElem? hp
   obtain⟨hx,hy⟩:=hin _ hpm
   have hbd:=B _ hpm
   dsimp only at hx hy hbd hq
   have ljs:js.length≤66:=by
    have h1:=congrArg List.length ej
    unfold tlJ at h1
    rw[List.length_map] at h1
    have h2:=vj (lf:=lf) (ls:=ls.take i)
    rw[List.length_take] at h2
    omega
   refine⟨q,_,rfl,SqT.of (sm _ _ hq),rfl,_,_,rfl,_,_,rfl,rfl,?_⟩
   refine⟨_,rfl,p,_,dx,_,_,_,_,_,_,rfl,sm _ _ W.p,rfl,T.cl_Way,T.mt_qB,Uz (P:=P) (w:=w) T,hr.mono (by omega),T.b_qB,_,rfl,p,dx,dp,ob,pf,lf,us,bs,x,rfl,W.same sm,U,hx,fun H2 s2=>?_⟩
   have sm2:=sm.trans s2
   refine⟨_,rfl,p,_,dx,_,_,_,_,_,_,rfl,sm2 _ _ W.p,rfl,T.cl_Way,T.mt_qB,Uz (P:=P) (w:=w) T,hr.mono (by omega),T.b_qB,_,rfl,p,dx,dp,ob,pf,lf,us,bs,y,rfl,W.same sm2,U,hy,fun H3 s3=>?_⟩
   have sm3:=sm2.trans s3
   refine⟨(by show 2≤sizeLine;decide),fun pl hpl=>?_⟩
   have s4:=Same.new (o:=HO.lst [V.int (lf x),V.int (lf y)]) hpl
   refine⟨pl,[lf x,lf y],rfl,SqL.of upd_same,(by show 2<64;decide),fun pm ms hpm' pmm sd=>?_⟩
   rw[uz pmm sd]
   have s5:=s4.trans (Same.new (o:=HO.lst ([min (lf x) (lf y),max (lf x) (lf y)].map V.int)) hpm')
   refine⟨pm,_,rfl,.inl ⟨SqL.of upd_same,fun pt hpt=>?_⟩⟩
   have s6:=s5.trans (Same.new (o:=HO.tup ([min (lf x) (lf y),max (lf x) (lf y)].map V.int)) hpt)
   have ht6:=upd_same (H:=(upd (upd H3 pl (HO.lst [V.int (lf x),V.int (lf y)])) pm (HO.lst ([min (lf x) (lf y),max (lf x) (lf y)].map V.int)))) (a:=pt) (o:=HO.tup ([min (lf x) (lf y),max (lf x) (lf y)].map V.int))
   generalize upd (upd (upd H3 pl (HO.lst [V.int (lf x),V.int (lf y)])) pm (HO.lst ([min (lf x) (lf y),max (lf x) (lf y)].map V.int))) pt (HO.tup ([min (lf x) (lf y),max (lf x) (lf y)].map V.int))=H6 at *
   have t6:=(s2.trans s3).trans s6
   have sm6:=sm.trans t6
   refine⟨_,rfl,pt,_,0,_,rfl,rfl,SqT.of ht6,rfl,_,rfl,pt,_,1,_,rfl,rfl,SqT.of ht6,rfl,rfl,_,rfl,?_⟩
   have etk:ls.take (i+1)=ls.take i++[(x,y)]:=by rw[List.take_add_one,hp];rfl
   by_cases c:lf x=lf y
   ·refine z4 (by rw[c];simp) ?_
    refine⟨js,_,_,_,rfl,t6 _ _ hd1,?_,ps.same t6,sm6⟩
    rw[etk,xl]
    unfold jst
    rw[if_pos c]
    exact ej
   ·refine iteB (by simp;omega) ?_
    refine⟨_,rfl,d,rfl,.inr ⟨_,.inl (t6 _ _ hd1)⟩,_,rfl,_,rfl,_,rfl,(by show 2≤sizeLine;decide),fun pr hpr=>?_⟩
    have s7:=Same.new (o:=HO.tup [V.int x,V.int y]) hpr
    have t7:=t6.trans s7
    have hd7:=t7 _ _ hd1
    have npd:pr≠d:=fun z=>by rw[z,t6 _ _ hd1] at hpr;cases hpr
    have key:(yw (kvJ js) ([Sum.inl (min (lf x) (lf y)),Sum.inl (max (lf x) (lf y))]:List Key)).isSome=decide (jk lf (x,y)∈js.map (·.1)):=Yj (js:=js) (k:=jk lf (x,y))
    have emp:(tlJ js).map (·.1)=js.map (·.1):=by unfold tlJ;rw[List.map_map];rfl
    refine .inr ⟨kvJ js,[Sum.inl (min (lf x) (lf y)),Sum.inl (max (lf x) (lf y))],pt,hd7,rfl,s7 _ _ ht6,by unfold kvJ;rw[List.length_map];exact zi (by omega),fun u hu'=>?_,fun hn=>?_⟩
    ·rw[hu'] at key
     have hk:jk lf (x,y)∈js.map (·.1):=of_decide_eq_true key.symm
     refine⟨js,_,_,_,rfl,hd7,?_,ps.same t7,sm.trans t7⟩
     rw[etk,xl,← ej]
     unfold jst
     rw[if_neg c,if_pos (by rw[emp];exact hk)]
    ·rw[hn] at key
     have hk:jk lf (x,y)∉js.map (·.1):=of_decide_eq_false key.symm
     refine⟨js++[(jk lf (x,y),(pr,x,y))],_,_,_,rfl,?_,?_,?_,Same.updF (sm.trans t7) hd⟩
     ·rw[upd_same]
      rw[L2.putK_new _ hn]
      unfold kvJ
      rw[List.map_append]
      rfl
     ·rw[etk,xl,← ej]
      unfold jst
      rw[if_neg c,if_neg (by rw[emp];exact hk)]
      unfold tlJ
      rw[List.map_append]
      rfl
     ·have hnd:∀ b xs,(upd H6 pr (HO.tup [V.int x,V.int y])) b=some (.tup xs)→b≠d:=fun b xs e z=>by rw[z,hd7] at e;cases e
      rw[List.map_append]
      intro q' hq'
      rcases List.mem_append.mp hq' with z | z
      ·have h1:=ps.same t7 q' z
       exact⟨by rw[upd_ne (hnd _ _ h1.1)];exact h1.1,h1.2⟩
      ·rw[List.mem_singleton.mp z]
       exact⟨by rw[upd_ne npd];exact upd_same,hbd⟩
  ·rintro σ H1 ⟨js,o3,o4,o5,rfl,hd1,ej,ps,sm⟩
   rw[List.take_of_length_le (by omega)] at ej
   exact⟨_,rfl,k d js H1 hd hd1 ej ps sm⟩
def rgf (ls:List (Int×Int)) (ring:List Int) (x:Int):V:=opV (ring.find? fun y=>adB ls y x)
theorem Yy {ls:List (Int×Int)}{ring:List Int}{x h:Int}(e:∃ y∈ring,adB ls y x=true):rgf ls (ring++[h]) x=rgf ls ring x:=by
 unfold rgf
 rw[List.find?_append]
 cases hf:ring.find? fun y=>adB ls y x with
 |none =>
  obtain⟨y,hy,a⟩:=e
  exact absurd a (List.find?_eq_none.mp hf y hy)
 |some y=>rfl
theorem XH {ls:List (Int×Int)}{ring:List Int}{x h:Int}(e:¬ ∃ y∈ring,adB ls y x=true) (a:adB ls h x=true):rgf ls (ring++[h]) x=.int h:=by
 unfold rgf
 rw[List.find?_append]
 have:(ring.find? fun y=>adB ls y x)=none:=List.find?_eq_none.mpr fun y hy z=>e ⟨y,hy,z⟩
 rw[this,List.find?_singleton,a]
 rfl
def zg4 (a:Ad):Sp:=fun vs H Q _=>∃ (p dx oh ol d0 l d r:Addr) (ad:Int→Addr) (hs left ring us:List Int) (ls:List (Int×Int)) (f:Int→V),vs=[.ref p,.ref l,.ref d,.ref r]∧WebAt a H p hs ls dx oh ol d0 ad∧Hs hs∧Ls hs ls∧H l=some (.lst (left.map V.int))∧H d=some (.dK (tabV f us))∧H r=some (.lst (ring.map V.int))∧(∀ x∈left,x∈hs)∧(∀ x∈ring,x∈hs) ∧
 ∀ (q:Addr) (fs:List Int) (H':Hp),H q=none→H' q=some (.dK (tabV (rgf ls ring) fs))→fs.Nodup→(∀ x,x∈fs↔x∈left∧x∉us∧∃ y∈ring,adB ls y x=true)→Same H H'→Q (.ref q) H'
theorem zcc (T:Txt w K mg a):FnOk P w K mg base CX0 4 a.f_qd a.d_qd ["web", "left", "parents", "ring"] (zg4 a):=by
 refine T.F_qd.ok sc_qd (fun vs H Q E h=>?_) (fun cdv A outer s H vs Q E hr h=>?_)
 ·obtain⟨p,dx,oh,ol,d0,l,d,r,ad,hs,left,ring,us,ls,f,rfl,_⟩:=h
  rfl
 ·obtain⟨p,dx,oh,ol,d0,l,d,r,ad,hs,left,ring,us,ls,f,rfl,W,wh,wl,hl,hd,hr0,hlh,hrh,k⟩:=h
  have hu:=xm hr
  refine zU (w_pss_cons (w_ps_set (i:=4) sc_qd.nd rfl (Or.inl rfl) yC)
   (w_pss_cons (zM PassesOwn.never rfl (zz (zh 3)) (zk (i:=5) sc_qd.nd rfl (Or.inl rfl))
    (zf (zM PassesOwn.never rfl (zz (yg (zh 0) (zg (zh 5) zd))) (zk (i:=6) sc_qd.nd rfl (Or.inl rfl))
     (zf (zH (XW (yj (zn yX (zh 6) (zh 1) (by with_unfolding_all rfl)) (yf (yS (ym hu (zh 6) (zh 2))))))
      (zf (zC (xE hu (zh 4) (zh 6) (zh 5) ⟨rfl,rfl,rfl,rfl⟩)))
      zt)))))
   (zf (zj (zh 4))))) ?_
  refine fun q hq=>?_
  refine⟨_,rfl,r,rfl,⟨_,SqL.of (Same.new hq _ _ hr0)⟩,?_⟩
  refine for_list (xs:=ring.map V.int) (fun i σ H'=>∃ (fs:List Int) (o5 o6:Option V),σ=[some (.ref p),some (.ref l),some (.ref d),some (.ref r),some (.ref q),o5,o6]∧H' q=some (.dK (tabV (rgf ls (ring.take i)) fs))∧fs.Nodup∧(∀ x,x∈fs↔x∈left∧x∉us∧∃ y∈ring.take i,adB ls y x=true)∧Same H H') ?_ ?_ ?_ ?_
  ·exact⟨[],none,none,rfl,upd_same,List.nodup_nil,(fun x=>⟨fun h=>(nomatch h),fun⟨_,_,y,hy,_⟩=>(nomatch hy)⟩),Same.new hq⟩
  ·rintro i σ H' hi ⟨fs,o5,o6,_,_,_,_,sm⟩
   exact SqL.of (sm _ _ hr0)
  ·rintro i v σ H1 hi ⟨fs,o5,o6,rfl,hq1,nd,mem,sm⟩
   rw[List.getElem?_map] at hi
   obtain⟨h,hh,rfl⟩:=Option.map_eq_some_iff.mp hi
   have hhm:=hrh h (List.mem_of_getElem? hh)
   have etk:ring.take (i+1)=ring.take i++[h]:=by rw[List.take_add_one,hh];rfl
   refine⟨_,rfl,p,_,dx,_,_,_,_,_,_,rfl,sm _ _ W.p,rfl,T.cl_Web,T.mt_qG,zcd (P:=P) (w:=w) T,hr.mono (by omega),T.b_qG,_,rfl,p,h,hs,ls,dx,oh,ol,d0,ad,rfl,W.same sm,wh,wl,hhm,fun n hn=>?_⟩
   refine⟨n,rfl,⟨_,SqL.of upd_same⟩,?_⟩
   have s2:=Same.new (o:=HO.lst ((hs.filter (adB ls h)).map V.int)) hn
   have hn2:=upd_same (H:=H1) (a:=n) (o:=HO.lst ((hs.filter (adB ls h)).map V.int))
   have nnq:n≠q:=fun z=>by rw[z,hq1] at hn;cases hn
   have hq2:=s2 _ _ hq1
   have sm2:=sm.trans s2
   generalize upd H1 n (HO.lst ((hs.filter (adB ls h)).map V.int))=H2 at *
   refine for_list (xs:=(hs.filter (adB ls h)).map V.int) (fun j σ H'=>∃ (fs':List Int) (o6:Option V),σ=[some (.ref p),some (.ref l),some (.ref d),some (.ref r),some (.ref q),some (.int h),o6]∧H' q=some (.dK (tabV (rgf ls (ring.take i++[h])) fs'))∧H' n=some (.lst ((hs.filter (adB ls h)).map V.int))∧fs'.Nodup∧(∀ x,x∈fs'↔x∈left∧x∉us∧((∃ y∈ring.take i,adB ls y x=true)∨x∈(hs.filter (adB ls h)).take j))∧Same H H') ?_ ?_ ?_ ?_
   ·refine⟨fs,o6,rfl,?_,hn2,nd,fun x=>?_,sm2⟩
    ·rw[hq2,zQ fun x hx=>(Yy ((mem x).mp hx).2.2).symm]
    ·rw[mem x]
     simp
   ·rintro j σ H' hj ⟨fs',o6,_,_,hn',_⟩
    exact SqL.of hn'
   ·rintro j v σ H3 hj ⟨fs',o6,rfl,hq3,hn3,nd3,mem3,sm3⟩
    rw[List.getElem?_map] at hj
    obtain⟨o,ho,rfl⟩:=Option.map_eq_some_iff.mp hj
    have hom:=List.mem_filter.mp (List.mem_of_getElem? ho)
    have etk2:(hs.filter (adB ls h)).take (j+1)=(hs.filter (adB ls h)).take j++[o]:=by rw[List.take_add_one,ho];rfl
    have l12:fs'.length≤12:=Nat.le_trans (yo nd3 fun x hx=>hlh x ((mem3 x).mp hx).1) wh.l12
    by_cases c1:o∈left
    ·refine⟨_,rfl,_,rfl,l,_,rfl,.inl (SqL.of (sm3 _ _ hl)),rfl,ya _,_,rfl,iteB (by show inV (.int o) _=true;rw[yz];exact decide_eq_true c1) ?_⟩
     by_cases c2:o∈us
     ·refine⟨_,rfl,_,rfl,d,_,rfl,zN (sm3 _ _ hd) c2,_,rfl,z4 rfl ?_⟩
      refine⟨fs',_,rfl,hq3,hn3,nd3,fun x=>?_,sm3⟩
      rw[mem3 x,etk2]
      constructor
      ·rintro⟨h1,h2,h3⟩
       exact⟨h1,h2,h3.imp id fun z=>List.mem_append.mpr (.inl z)⟩
      ·rintro⟨h1,h2,h3⟩
       refine⟨h1,h2,h3.imp id fun z=>(List.mem_append.mp z).resolve_right fun e=>h2 ?_⟩
       rw[List.mem_singleton.mp e];exact c2
     ·refine⟨_,rfl,_,rfl,d,none,rfl,wB (sm3 _ _ hd) c2,_,rfl,vt ?_⟩
      refine⟨_,rfl,q,rfl,.inl ⟨_,.inl hq3⟩,_,rfl,_,rfl,.inl ⟨_,.inl o,hq3,rfl,by rw[tabV_len];exact zi (by omega),fun u hu'=>?_,fun hn'=>?_⟩⟩
      ·have hof:o∈fs':=Classical.byContradiction fun z=>by rw[wA z] at hu';cases hu'
       refine⟨fs',_,rfl,hq3,hn3,nd3,fun x=>?_,sm3⟩
       rw[mem3 x,etk2]
       constructor
       ·rintro⟨h1,h2,h3⟩
        exact⟨h1,h2,h3.imp id fun z=>List.mem_append.mpr (.inl z)⟩
       ·rintro⟨h1,h2,h3⟩
        refine⟨h1,h2,h3.elim .inl fun z=>(List.mem_append.mp z).elim .inr fun e=>?_⟩
        rw[List.mem_singleton.mp e]
        exact((mem3 o).mp hof).2.2
      ·have hof:o∉fs':=fun z=>by rw[xI z] at hn';cases hn'
       have hno:¬ ∃ y∈ring.take i,adB ls y o=true:=fun z=>hof ((mem3 o).mpr ⟨c1,c2,.inl z⟩)
       rw[yW hof]
       have ec:tabV (fun y=>if y=o then V.int h else rgf ls (ring.take i++[h]) y) (fs'++[o])=tabV (rgf ls (ring.take i++[h])) (fs'++[o]):=zQ fun x hx=>by
        by_cases e:x=o
        ·rw[if_pos e,e,XH hno hom.2]
        ·rw[if_neg e]
       rw[ec]
       refine⟨fs'++[o],_,rfl,upd_same,?_,?_,fun x=>?_,Same.updF sm3 hq⟩
       ·rw[upd_ne nnq];exact hn3
       ·rw[List.nodup_append]
        exact⟨nd3,by simp,fun u hu v hv e=>hof (by rw[List.mem_singleton.mp hv] at e;rw[← e];exact hu)⟩
       ·rw[List.mem_append,mem3 x,etk2]
        constructor
        ·rintro(⟨h1,h2,h3⟩ | e)
         ·exact⟨h1,h2,h3.imp id fun z=>List.mem_append.mpr (.inl z)⟩
         ·rw[List.mem_singleton.mp e]
          exact⟨c1,c2,.inr (List.mem_append.mpr (.inr (by simp)))⟩
        ·rintro⟨h1,h2,h3⟩
         rcases h3 with h3 | h3
         ·exact .inl ⟨h1,h2,.inl h3⟩
         ·rcases List.mem_append.mp h3 with z | z
          ·exact .inl ⟨h1,h2,.inr z⟩
          ·exact .inr z
    ·refine⟨_,rfl,_,rfl,l,_,rfl,.inl (SqL.of (sm3 _ _ hl)),rfl,ya _,_,rfl,z4 (by show inV (.int o) _=false;rw[yz];exact decide_eq_false c1) ?_⟩
     refine⟨fs',_,rfl,hq3,hn3,nd3,fun x=>?_,sm3⟩
     rw[mem3 x,etk2]
     constructor
     ·rintro⟨h1,h2,h3⟩
      exact⟨h1,h2,h3.imp id fun z=>List.mem_append.mpr (.inl z)⟩
     ·rintro⟨h1,h2,h3⟩
      refine⟨h1,h2,h3.imp id fun z=>(List.mem_append.mp z).resolve_right fun e=>c1 ?_⟩
      rw[← List.mem_singleton.mp e];exact h1
   ·rintro σ H3 ⟨fs',o6,rfl,hq3,hn3,nd3,mem3,sm3⟩
    rw[List.length_map,List.take_length] at mem3
    refine⟨fs',_,_,rfl,by rw[etk];exact hq3,nd3,fun x=>?_,sm3⟩
    rw[mem3 x,etk]
    constructor
    ·rintro⟨h1,h2,h3⟩
     refine⟨h1,h2,h3.elim (fun⟨y,hy,z⟩=>⟨y,List.mem_append.mpr (.inl hy),z⟩) fun z=>⟨h,by simp,(List.mem_filter.mp z).2⟩⟩
    ·rintro⟨h1,h2,y,hy,z⟩
     refine⟨h1,h2,?_⟩
     rcases List.mem_append.mp hy with e | e
     ·exact .inl ⟨y,e,z⟩
     ·rw[List.mem_singleton.mp e] at z
      exact .inr (List.mem_filter.mpr ⟨hlh x h1,z⟩)
  ·rintro σ H1 ⟨fs,o5,o6,rfl,hq1,nd,mem,sm⟩
   rw[List.length_map,List.take_length] at hq1 mem
   exact⟨_,rfl,k q fs H1 hq hq1 nd mem sm⟩
open L2.Srt (wv)
theorem at_zero {v:V}{xs:List V}:atI (v::xs) 0=some v:=by
 unfold atI ixN
 simp
theorem zbF {ms fs:List Int}(pm:ms.Perm fs) (sd:ms.Pairwise (· ≤ ·)) (nd:fs.Nodup):ms.Pairwise (· < ·):=by
 have nd2:ms.Nodup:=pm.nodup_iff.mpr nd
 have:=List.pairwise_and_iff.mpr ⟨sd,List.nodup_iff_pairwise_ne.mp nd2⟩
 exact this.imp fun {a b} h=>by omega
def zg3 (a:Ad):Sp:=fun vs H Q _=>∃ (p dx oh ol d0 l:Addr) (ad:Int→Addr) (hs lt:List Int) (s:Int) (ls:List (Int×Int)) (r:Nat),vs=[.ref p,.ref l,.int (r:Int)]∧WebAt a H p hs ls dx oh ol d0 ad∧Hs hs∧Ls hs ls∧H l=some (.lst ((s::lt).map V.int))∧(∀ x∈s::lt,x∈hs)∧(s::lt).Pairwise (· < ·) ∧
 ∀ (q:Addr) (us:List Int) (H':Hp),H q=none→H' q=some (.dK (tabV (fun x=>opV (par ls (s::lt) (stp ls r (s::lt)) x)) us))→us.Nodup→(∀ x,x∈us↔stp ls r (s::lt) x≠none)→Same H H'→Q (.ref q) H'
theorem zcb (T:Txt w K mg a):FnOk P w K mg base CX0 5 a.f_qe a.d_qe ["web", "left", "reach"] (zg3 a):=by
 have c_qd:Callee P w K mg base "next_ring" a.f_qd a.d_qd ["web", "left", "parents", "ring"] 4 (zg4 a):=⟨zcc T,T.g_qd,T.F_qd.kp,T.b_qd⟩
 refine T.F_qe.ok sc_qe (fun vs H Q E h=>?_) (fun cdv A outer s H vs Q E hr h=>?_)
 ·obtain⟨p,dx,oh,ol,d0,l,ad,hs,lt,s,ls,r,rfl,_⟩:=h
  rfl
 ·obtain⟨p,dx,oh,ol,d0,l,ad,hs,lt,s,ls,r,rfl,W,wh,wl,hl,hsub,up,k⟩:=h
  have hu:=xm hr
  have hF:=stp_fp (ls:=ls) (r:=r) (s:=s) (left:=lt)
  generalize hFe:stp ls r (s::lt)=F at *
  generalize hle:s::lt=left at *
  have hsl:s∈left:=by rw[← hle];exact List.mem_cons_self
  have nd:left.Nodup:=List.nodup_iff_pairwise_ne.mpr (up.imp fun {a b} h=>by omega)
  have l12:left.length≤12:=Nat.le_trans (yo nd hsub) wh.l12
  have h0:atI (left.map V.int) 0=some (V.int s):=by rw[← hle];exact at_zero
  refine zU (w_pss_cons (w_ps_set (i:=3) sc_qe.nd rfl (Or.inl rfl) (wS (x8 (zJ z8 (zh 1) ze (fun _ _=>rfl)) xt wP) rfl rfl (by intro z;cases z) (by decide)))
   (w_pss_cons (w_ps_set (i:=4) sc_qe.nd rfl (Or.inl rfl) (zD (zo (zJ z8 (zh 1) ze (fun _ _=>rfl)) zd)))
   (w_pss_cons (w_ps_set (i:=5) sc_qe.nd rfl (Or.inl rfl) ze)
   (w_pss_cons (z5 PassesOwn.never (XW (yj (xZ (zh 4) (fun _=>rfl)) (yf (zn xX (zh 5) (zh 2) (zr _)))))
    (w_pss_cons (w_ps_set (i:=6) sc_qe.nd rfl (Or.inl rfl) (zp c_qd (hr.mono (by omega)) (zg (zh 0) (zg (zh 1) (zg (zh 3) (zg (zh 4) zd))))))
    (w_pss_cons (zC (wR (zh 3) (zh 6) ⟨rfl,rfl,rfl,rfl⟩))
    (w_pss_cons (w_ps_set (i:=4) sc_qe.nd rfl (Or.inl rfl) (zq wv (by rfl) T.n_sorted zT (zg (zh 6) zd)))
    (zf (YX (i:=5) sc_qe.nd rfl (Or.inl rfl) ze U2))))))
   (zf (zj (zh 3))))))) ?_
  refine fun q hq=>?_
  have s1:=Same.new (o:=HO.dK []) hq
  refine⟨_,rfl,l,_,0,_,rfl,rfl,SqL.of (s1 _ _ hl),h0,?_⟩
  refine⟨upd_same,[(Sum.inl s,V.non)],rfl,(by show 1≤15;decide),?_⟩
  rw[yO,xy (kvs:=[(Sum.inl s,V.non)]) (by simp)]
  have hps:par ls left F s=none:=by
   unfold par
   rw[hF.z]
  have ht1:([(Sum.inl s,V.non)]:List (Key×V))=tabV (fun x=>opV (par ls left F x)) [s]:=by
   show _=[(Sum.inl s,opV (par ls left F s))]
   rw[hps]
   rfl
  rw[ht1]
  have s2:=Same.new (o:=HO.dK (tabV (fun x=>opV (par ls left F x)) [s])) hq
  have hq2:=upd_same (H:=H) (a:=q) (o:=HO.dK (tabV (fun x=>opV (par ls left F x)) [s]))
  generalize upd H q (HO.dK (tabV (fun x=>opV (par ls left F x)) [s]))=H2 at *
  refine⟨_,rfl,l,_,0,_,rfl,rfl,SqL.of (s2 _ _ hl),h0,(by show 1≤sizeLine;decide),fun rg hrg=>?_⟩
  have s3:=s2.trans (Same.new (o:=HO.lst [V.int s]) hrg)
  have hf0:left.filter (fun x=>decide (F x=some 0))=[s]:=by
   rw[← hle] at nd ⊢
   rw[List.filter_cons_of_pos (by simp[hF.z])]
   rw[List.filter_eq_nil_iff.mpr fun x hx=>by
    have:x≠s:=fun z=>(List.nodup_cons.mp nd).1 (by rw[← z];exact hx)
    simp only[decide_eq_true_eq]
    exact fun z=>this (hF.z1 x z)]
  refine⟨fun m σ H'=>∃ (kk:Nat) (us:List Int) (rg:Addr) (o6:Option V),m=left.length+1-kk∧σ=[some (.ref p),some (.ref l),some (.int (r:Int)),some (.ref q),some (.ref rg),some (.int (kk:Int)),o6]∧H' q=some (.dK (tabV (fun x=>opV (par ls left F x)) us))∧H' rg=some (.lst ((left.filter fun x=>decide (F x=some kk)).map V.int))∧us.Nodup∧(∀ x,x∈us↔∃ d,d≤kk∧F x=some d)∧kk≤r∧Same H H',⟨_,0,[s],rg,none,rfl,rfl,?_,?_,by simp,fun x=>?_,Nat.zero_le _,s3⟩,?_⟩
  ·have nq:q≠rg:=fun z=>by rw[← z,hq2] at hrg;cases hrg
   rw[upd_ne nq]
   exact hq2
  ·rw[upd_same,hf0]
   rfl
  ·constructor
   ·intro h
    rw[List.mem_singleton.mp h]
    exact⟨0,Nat.le_refl _,hF.z⟩
   ·rintro⟨d,hd,e⟩
    rw[Nat.le_zero.mp hd] at e
    rw[hF.z1 x e]
    simp
  rintro m σ H4 ⟨kk,us,rg,o6,rfl,rfl,hq4,hrg4,ndu,mem,hkr,s4⟩
  have fin:(∀ x d,F x=some d→d≤kk)→Q (V.ref q) H4:=fun h=>k q us H4 hq hq4 ndu (fun x=>by
   rw[mem x]
   constructor
   ·rintro⟨d,_,e⟩ z
    rw[z] at e
    cases e
   ·intro h1
    cases hx:F x with
    |none=>exact absurd hx h1
    |some d=>exact⟨d,h x d hx,rfl⟩) s4
  have us12:us.length≤12:=Nat.le_trans (yo ndu fun x hx=>by
   obtain⟨d,_,e⟩:=(mem x).mp hx
   exact hsub x (hF.mem x d e).1) wh.l12
  refine⟨_,rfl,_,.inl ⟨_,SqL.of hrg4,rfl⟩,?_⟩
  cases hrl:left.filter fun x=>decide (F x=some kk) with
  |nil =>
   refine z4 (by rfl) ?_
   refine⟨_,rfl,fin fun x d e=>?_⟩
   rcases Nat.lt_or_ge kk d with z | z
   ·obtain⟨y,hy⟩:=hF.lower e kk (by omega)
    have:y∈left.filter fun x=>decide (F x=some kk):=List.mem_filter.mpr ⟨(hF.mem y _ hy).1,by simp[hy]⟩
    rw[hrl] at this
    cases this
   ·exact z
  |cons z0 zs0 =>
   have hz0:z0∈left.filter fun x=>decide (F x=some kk):=by rw[hrl];exact List.mem_cons_self
   have hkl:kk<left.length:=hF.few (of_decide_eq_true (List.mem_filter.mp hz0).2)
   refine iteB (by rfl) ?_
   by_cases hc:(kk:Int)<(r:Int)
   ·refine⟨_,rfl,_,rfl,_,_,rfl,rfl,_,rfl,iteB (by simp;omega) ?_⟩
    refine⟨_,fun σ' H' h=>h,?_⟩
    refine⟨_,rfl,_,rfl,_,rfl,_,rfl,p,dx,oh,ol,d0,l,q,rg,ad,hs,left,left.filter (fun x=>decide (F x=some kk)),us,ls,_,rfl,W.same s4,wh,wl,s4 _ _ hl,hq4,hrg4,hsub,(fun x hx=>hsub x (List.mem_filter.mp hx).1),fun fq fs H5 hfq hfq5 ndf memf s5=>?_⟩
    have hmf:∀ x,x∈fs↔F x=some (kk+1):=fun x=>by
     rw[memf x]
     constructor
     ·rintro⟨h1,h2,y,hy,a⟩
      have hy':F y=some kk:=of_decide_eq_true (List.mem_filter.mp hy).2
      obtain⟨e,he,hle2⟩:=hF.cl y kk x hy' (by omega) h1 a
      have:¬ e≤kk:=fun z=>h2 ((mem x).mpr ⟨e,z,he⟩)
      rw[he,show e=kk+1 by omega]
     ·intro e
      obtain⟨y,hy,a⟩:=hF.pr x kk e
      refine⟨(hF.mem x _ e).1,fun z=>?_,y,List.mem_filter.mpr ⟨(hF.mem y _ hy).1,by simp[hy]⟩,a⟩
      obtain⟨d,hd,e2⟩:=(mem x).mp z
      rw[e] at e2
      cases e2
      omega
    have ec:tabV (rgf ls (left.filter fun x=>decide (F x=some kk))) fs=tabV (fun x=>opV (par ls left F x)) fs:=zQ fun x hx=>by
     show opV _=opV (par ls left F x)
     unfold par
     rw[(hmf x).mp hx]
    rw[ec] at hfq5
    have nfq:q≠fq:=fun z=>by rw[← z,hq4] at hfq;cases hfq
    have ndx:(us++fs).Nodup:=by
     rw[List.nodup_append]
     refine⟨ndu,ndf,fun x hx y hy e=>?_⟩
     rw[← e] at hy
     obtain⟨d,hd,e2⟩:=(mem x).mp hx
     rw[(hmf x).mp hy] at e2
     cases e2
     omega
    have f12:fs.length≤12:=Nat.le_trans (yo ndf fun x hx=>hsub x (hF.mem x _ ((hmf x).mp hx)).1) wh.l12
    refine⟨_,rfl,q,rfl,.inl ⟨_,.inl (s5 _ _ hq4)⟩,_,rfl,fq,_,_,rfl,nfq,s5 _ _ hq4,hfq5,by rw[tabV_len,tabV_len];omega,?_⟩
    rw[we ndx]
    have hfq6:(upd H5 q (HO.dK (tabV (fun x=>opV (par ls left F x)) (us++fs)))) fq=some (.dK (tabV (fun x=>opV (par ls left F x)) fs)):=by rw[upd_ne nfq.symm];exact hfq5
    have s6:Same H (upd H5 q (HO.dK (tabV (fun x=>opV (par ls left F x)) (us++fs)))):=Same.updF (s4.trans s5) hq
    have hq6:=upd_same (H:=H5) (a:=q) (o:=HO.dK (tabV (fun x=>opV (par ls left F x)) (us++fs)))
    generalize upd H5 q (HO.dK (tabV (fun x=>opV (par ls left F x)) (us++fs)))=H6 at *
    refine⟨_,rfl,fq,_,fs,rfl,hfq6,yi,by omega,fun rg2 ms hrg2 pm sd=>?_⟩
    have ems:ms=left.filter fun x=>decide (F x=some (kk+1)):=Za (zbF pm sd ndf) (up.sublist (List.filter_sublist)) fun x=>by
     rw[pm.mem_iff,hmf x,List.mem_filter]
     constructor
     ·intro e
      exact⟨(hF.mem x _ e).1,by simp[e]⟩
     ·intro e
      exact of_decide_eq_true e.2
    rw[ems]
    have s7:=Same.new (o:=HO.lst ((left.filter fun x=>decide (F x=some (kk+1))).map V.int)) hrg2
    refine⟨_,rfl,_,_,rfl,rfl,?_⟩
    refine⟨left.length+1-(kk+1),by omega,kk+1,us++fs,rg2,_,rfl,rfl,s7 _ _ hq6,upd_same,ndx,fun x=>?_,by omega,s6.trans s7⟩
    rw[List.mem_append,mem x,hmf x]
    constructor
    ·rintro(⟨d,hd,e⟩ | e)
     ·exact⟨d,by omega,e⟩
     ·exact⟨kk+1,Nat.le_refl _,e⟩
    ·rintro⟨d,hd,e⟩
     rcases Nat.lt_or_eq_of_le hd with z | z
     ·exact .inl ⟨d,by omega,e⟩
     ·exact .inr (by rw[← z];exact e)
   ·refine⟨_,rfl,_,rfl,_,_,rfl,rfl,_,rfl,z4 (by simp;omega) ?_⟩
    exact⟨_,rfl,fin fun x d e=>by have:=(hF.mem x d e).2;omega⟩
open L2.Sco (PT PsAt)
structure WbP (a:Ad) (H:Hp) (p:Addr) (hs:List Int) (ls:List (Int×Int)):Prop where
 wh:Hs hs
 wl:Ls hs ls
 at_:∃ dx oh ol d ad,WebAt a H p hs ls dx oh ol d ad
theorem WbP.same {H H':Hp}{p:Addr}{hs:List Int}{ls:List (Int×Int)}(h:WbP a H p hs ls) (s:Same H H'):WbP a H' p hs ls:=⟨h.wh,h.wl,let ⟨dx,oh,ol,d,ad,W⟩:=h.at_;⟨dx,oh,ol,d,ad,W.same s⟩⟩
def zbJ (a:Ad):Sp:=fun vs H Q _=>∃ (p:Addr) (hs:List Int) (ls:List (Int×Int)) (dx oh ol d:Addr) (ad:Int→Addr),vs=[.ref p]∧WebAt a H p hs ls dx oh ol d ad∧∀ q zs,H q=none→LnAt H zs (srt ls)→Q (.ref q) (upd H q (.lst zs))
theorem Ux (T:Txt w K mg a):FnOk P w K mg base CX0 1 a.f_qE a.d_qE ["self"] (zbJ a):=by
 refine T.F_qE.ok zbZ (fun vs H Q E h=>?_) (fun cdv A outer s H vs Q E hr h=>?_)
 ·obtain⟨p,hs,ls,dx,oh,ol,d,ad,rfl,_⟩:=h
  rfl
 ·obtain⟨p,hs,ls,dx,oh,ol,d,ad,rfl,W,k⟩:=h
  refine zU (zf (zj (zP yd (by rfl) T.n_list yR (zo (yc (zh 0) rfl) zd)))) ?_
  obtain⟨zs,h1,h2⟩:=W.ol
  exact⟨_,rfl,p,_,dx,_,_,rfl,W.p,T.cl_Web,T.na_Web_own_lines,rfl,ol,_,rfl,.inl (SqL.of h1),fun q hq=>k q zs hq h2⟩
noncomputable def brs (ls:List (Int×Int)) (r:Nat) (hs:List Int):List (Int×Int):=srt ((jn (LF ls r hs.length hs) (srt ls)).map (·.2))
theorem WC {ls:List (Int×Int)}{r:Nat}{hs us:List Int}(h:∀ x,x∈us↔x∈hs):UpP us (PF ls r hs.length hs) (LF ls r hs.length hs):=⟨SF ls r hs.length hs,fun x hx=>by
 rcases u8 (ls:=ls) (r:=r) (n:=hs.length) (Nat.le_refl _) ((h x).mp hx) with z | ⟨y,h1,h2,h3,h4⟩
 ·exact .inl z
 ·exact .inr ⟨y,h1,(h y).mpr h2,h3,h4⟩⟩
theorem srt_mem {ls:List (Int×Int)}{p:Int×Int}:p∈srt ls↔p∈ls:=(xw ls).mem_iff
theorem xh {ls:List (Int×Int)}:(srt ls).length=ls.length:=(xw ls).length_eq
theorem YM {ls:List (Int×Int)}{r:Nat}{hs:List Int}:(brs ls r hs).length≤ls.length:=by
 unfold brs
 rw[xh,List.length_map]
 have:=vj (lf:=LF ls r hs.length hs) (ls:=srt ls)
 rw[xh] at this
 exact this
def zak (a:Ad):Sp:=fun vs H Q _=>∃ (p:Addr) (hs:List Int) (ls:List (Int×Int)) (r:Nat),vs=[.ref p,.int (r:Int)]∧WbP a H p hs ls ∧
 ∀ (q dx dp ob:Addr) (us:List Int) (H':Hp),WayAt a H' q (PF ls r hs.length hs) us (brs ls r hs) dx dp ob→(∀ x,x∈us↔x∈hs)→Same H H'→Q (.ref q) H'
theorem Vl (T:Txt w K mg a):FnOk P w K mg base CX0 8 a.f_qf a.d_qf ["web", "reach"] (zak a):=by
 have c_qe:Callee P w K mg base "parents_in_cluster" a.f_qe a.d_qe ["web", "left", "reach"] 5 (zg3 a):=⟨zcb T,T.g_qe,T.F_qe.kp,T.b_qe⟩
 have c_qc:Callee P w K mg base "first_joins" a.f_qc a.d_qc ["way", "lines"] 3 (zg9 a):=⟨zci T,T.g_qc,T.F_qc.kp,T.b_qc⟩
 have m_Way:Maker P w K mg base "Way" a.c_Way a.f_qx a.d_qx ["self", "parents", "bridges"] 6 (V9 a):=⟨Uw T,T.g_Way,T.mk_Way,T.b_qx⟩
 refine T.F_qf.ok sc_qf (fun vs H Q E h=>?_) (fun cdv A outer s H vs Q E hr h=>?_)
 ·obtain⟨p,hs,ls,r,rfl,_⟩:=h
  rfl
 ·obtain⟨p,hs,ls,r,rfl,WP,k⟩:=h
  obtain⟨wdx,oh,ol,d0,ad,W⟩:=WP.at_
  have wh:=WP.wh
  have wl:=WP.wl
  have hu:=xm hr
  have l12:=wh.l12
  refine zU (w_pss_cons (w_ps_set (i:=2) sc_qf.nd rfl (Or.inr rfl) yC)
   (w_pss_cons (w_ps_set (i:=3) sc_qf.nd rfl (Or.inl rfl) (zO (zh 0)))
   (w_pss_cons (z5 PassesOwn.never (xZ (zh 3) (fun _=>rfl))
    (w_pss_cons (zC (wR (zh 2) (zp c_qe (hr.mono (by omega)) (zg (zh 0) (zg (zh 3) (zg (zh 1) zd)))) ⟨rfl,rfl,rfl,rfl⟩))
    (zf (yb (i:=3) rfl sc_qf.nd rfl (Or.inl rfl) (N':=["hand", "parents"]) (t:=1) (caps:=[2]) ⟨rfl,rfl,rfl⟩ (zz (zh 3)) (fun _=>(zk (i:=0) (show(["hand", "parents"]:List Str).Nodup by decide +kernel) rfl (Or.inl rfl))) (fun _=>(yt (yS (ym hu (zh 0) (zh 1))))) (fun _=>(zh 0))))))
   (w_pss_cons (w_ps_set (i:=4) sc_qf.nd rfl (Or.inl rfl) (zp c_qc (hr.mono (by omega)) (zF (u4 m_Way (hr.mono (by omega)) (zg (zh 2) (zo (zD zd) zd))) (zF (zO (zh 0)) zd))))
   (zf (zj (u4 m_Way (hr.mono (by omega)) (zg (zh 2) (zF (xD rfl (by rfl) T.n_sorted zT (zh 4)) zd))))))))) ?_
  refine fun d hd=>?_
  have s1:=Same.new (o:=HO.dK []) hd
  refine⟨_,rfl,p,_,wdx,_,_,_,_,_,_,rfl,s1 _ _ W.p,rfl,T.cl_Web,T.mt_qD,vg (P:=P) (w:=w) T,hr.mono (by omega),T.b_qD,p,hs,ls,wdx,oh,ol,d0,ad,rfl,W.same s1,fun l0 hl0=>?_⟩
  have nl0:d≠l0:=fun z=>by rw[← z,upd_same] at hl0;cases hl0
  have s2:=s1.trans (Same.new (o:=HO.lst (hs.map V.int)) hl0)
  refine⟨fun m σ H'=>∃ (us left:List Int) (n:Nat) (l:Addr) (o4:Option V),m=left.length∧σ=[some (.ref p),some (.int (r:Int)),some (.ref d),some (.ref l),o4]∧H' d=some (.dK (tabV (fun x=>opV (PF ls r hs.length hs x)) us))∧H' l=some (.lst (left.map V.int))∧left=hs.filter (fun x=>decide (x∉us))∧us.Nodup∧(∀ x∈us,x∈hs)∧(∀ x∈left,PF ls r hs.length hs x=PF ls r n left x)∧left.length≤n∧Same H H',⟨_,[],hs,hs.length,l0,none,rfl,rfl,?_,upd_same,?_,List.nodup_nil,(fun x hx=>(nomatch hx)),(fun x _=>rfl),Nat.le_refl _,s2⟩,?_⟩
  ·rw[upd_ne nl0]
   exact upd_same
  ·rw[List.filter_eq_self.mpr fun x hx=>by simp]
  rintro m σ H3 ⟨us,left,n,l,o4,rfl,rfl,hd3,hl3,eleft,ndu,hsu,hpf,hln,s3⟩
  refine⟨_,rfl,_,.inl ⟨_,SqL.of hl3,rfl⟩,?_⟩
  have us12:us.length≤12:=Nat.le_trans (yo ndu hsu) l12
  have upl:left.Pairwise (· < ·):=by rw[eleft];exact wh.up.sublist List.filter_sublist
  have hlh:∀ x∈left,x∈hs:=fun x hx=>by rw[eleft] at hx;exact(List.mem_filter.mp hx).1
  have hlu:∀ x∈left,x∉us:=fun x hx=>by rw[eleft] at hx;exact of_decide_eq_true (List.mem_filter.mp hx).2
  cases hcl:left with
  |nil =>
   refine z4 (by rfl) ?_
   have hmem:∀ x,x∈us↔x∈hs:=fun x=>⟨hsu x,fun hx=>Classical.byContradiction fun z=>by
    have:x∈left:=by rw[eleft];exact List.mem_filter.mpr ⟨hx,by simpa using z⟩
    rw[hcl] at this
    cases this⟩
   refine⟨_,rfl,(by show 0≤sizeLine;decide),fun e0 he0=>?_⟩
   have s4:=Same.new (o:=HO.lst []) he0
   have he4:=upd_same (H:=H3) (a:=e0) (o:=HO.lst [])
   generalize upd H3 e0 (HO.lst [])=H4 at *
   refine fun x dx nx ndx nex=>?_
   have m5:Same H4 (upd (upd H4 dx (.own x)) x (.ins a.c_Way dx [])):=(Same.new ndx).updF nx
   refine⟨x,dx,d,e0,PF ls r hs.length hs,us,[],[],rfl,upd_same,m5 _ _ (s4 _ _ hd3),ndu,us12,m5 _ _ he4,⟨rfl,fun i r p h=>by simp at h⟩,Nat.zero_le _,fun dp ob H5 x5 W5=>⟨rfl,?_⟩⟩
   have s5:Same H4 H5:=fun b o e=>x5 b o (m5 b o e) (ne_of_none e nx)
   have s35:=s4.trans s5
   have s05:=s3.trans s35
   refine⟨_,rfl,p,_,wdx,_,_,_,_,_,_,rfl,s05 _ _ W.p,rfl,T.cl_Web,T.mt_qE,Ux (P:=P) (w:=w) T,hr.mono (by omega),T.b_qE,p,hs,ls,wdx,oh,ol,d0,ad,rfl,W.same s05,fun lq zs hlq Lz=>?_⟩
   have s6:=Same.new (o:=HO.lst zs) hlq
   have hl66:=wl.le
   have Bs:Bd (srt ls):=fun q hq=>(wl.bd wh) q (srt_mem.mp hq)
   refine⟨x,dx,dp,ob,lq,PF ls r hs.length hs,LF ls r hs.length hs,us,[],srt ls,zs,rfl,W5.same s6,WC hmem,upd_same,Lz.same s6,Bs,by rw[xh];exact hl66,fun q hq=>?_,fun jd js H7 hjd hj7 ej ps7 s7=>?_⟩
   ·have:=wl.ok q (srt_mem.mp hq)
    exact⟨(hmem _).mpr this.1,(hmem _).mpr this.2.1⟩
   have s37:=s35.trans (s6.trans s7)
   have hd7:=s37 _ _ hd3
   have ljs:js.length≤66:=by
    have h1:=congrArg List.length ej
    unfold tlJ at h1
    rw[List.length_map] at h1
    have h2:=vj (lf:=LF ls r hs.length hs) (ls:=srt ls)
    rw[xh] at h2
    omega
   refine⟨_,rfl,_,rfl,jd,kvJ js,js.map (·.2),rfl,hj7,?_,by rw[List.length_map];exact ljs,ps7,fun sl qs hsl pm up=>?_⟩
   ·unfold kvJ
    rw[List.map_map,List.map_map]
    rfl
   have s8:=Same.new (o:=HO.lst (qs.map fun p=>V.ref p.1)) hsl
   have L8:=(xJ ps7 pm up).same s8
   have eb:(js.map (·.2)).map (·.2)=(jn (LF ls r hs.length hs) (srt ls)).map (·.2):=by
    rw[← ej]
    unfold tlJ
    rw[List.map_map,List.map_map]
    rfl
   rw[eb] at L8
   have hsl8:=upd_same (H:=H7) (a:=sl) (o:=HO.lst (qs.map fun p=>V.ref p.1))
   generalize qs.map (fun p=>V.ref p.1)=zs8 at *
   generalize upd H7 sl (HO.lst zs8)=H8 at *
   refine fun x2 dx2 nx2 ndx2 nex2=>?_
   have m9:Same H8 (upd (upd H8 dx2 (.own x2)) x2 (.ins a.c_Way dx2 [])):=(Same.new ndx2).updF nx2
   refine⟨x2,dx2,d,sl,PF ls r hs.length hs,us,zs8,brs ls r hs,rfl,upd_same,m9 _ _ (s8 _ _ hd7),ndu,us12,m9 _ _ hsl8,L8.same m9,Nat.le_trans YM hl66,fun dp2 ob2 H9 x9 W9=>⟨rfl,?_⟩⟩
   have s9:Same H8 H9:=fun b o e=>x9 b o (m9 b o e) (ne_of_none e nx2)
   exact k x2 dx2 dp2 ob2 us H9 W9 hmem (s3.trans (s37.trans (s8.trans s9)))
  |cons s0 lt =>
   refine iteB (by rfl) ?_
   refine⟨_,fun σ' H' h=>h,?_⟩
   rw[hcl] at hl3 upl hlh hlu hpf hln
   obtain⟨n',rfl⟩:∃ n',n=n'+1:=⟨n-1,by rw[List.length_cons] at hln;omega⟩
   refine⟨_,rfl,d,rfl,.inl ⟨_,.inl hd3⟩,_,rfl,_,rfl,_,rfl,p,wdx,oh,ol,d0,l,ad,hs,lt,s0,ls,r,rfl,W.same s3,wh,wl,hl3,hlh,upl,fun q cu H4 hq hq4 ndc memc s4=>?_⟩
   have hF:=stp_fp (ls:=ls) (r:=r) (s:=s0) (left:=lt)
   have hcl2:∀ x∈cu,x∈s0::lt:=fun x hx=>by
    have:=(memc x).mp hx
    cases hx0:stp ls r (s0::lt) x with
    |none=>exact absurd hx0 this
    |some e=>exact(hF.mem x e hx0).1
   have ec:tabV (fun x=>opV (par ls (s0::lt) (stp ls r (s0::lt)) x)) cu=tabV (fun x=>opV (PF ls r hs.length hs x)) cu:=zQ fun x hx=>by
    rw[hpf x (hcl2 x hx)]
    show _=opV (if stp ls r (s0::lt) x=none then _ else _)
    rw[if_neg ((memc x).mp hx)]
   rw[ec] at hq4
   have ndq:d≠q:=fun z=>by rw[← z,hd3] at hq;cases hq
   have ndx:(us++cu).Nodup:=by
    rw[List.nodup_append]
    refine⟨ndu,ndc,fun x hx y hy e=>?_⟩
    rw[← e] at hy
    exact hlu x (hcl2 x hy) hx
   have c12:cu.length≤12:=Nat.le_trans (yo ndc fun x hx=>hlh x (hcl2 x hx)) l12
   refine⟨q,_,_,rfl,ndq,s4 _ _ hd3,hq4,by rw[tabV_len,tabV_len];omega,?_⟩
   rw[we ndx]
   have s5:Same H (upd H4 d (HO.dK (tabV (fun x=>opV (PF ls r hs.length hs x)) (us++cu)))):=Same.updF (s3.trans s4) hd
   have hd5:=upd_same (H:=H4) (a:=d) (o:=HO.dK (tabV (fun x=>opV (PF ls r hs.length hs x)) (us++cu)))
   have ndl:l≠d:=fun z=>by rw[z,hd3] at hl3;cases hl3
   have hl5:(upd H4 d (HO.dK (tabV (fun x=>opV (PF ls r hs.length hs x)) (us++cu)))) l=some (.lst ((s0::lt).map V.int)):=by rw[upd_ne ndl];exact s4 _ _ hl3
   generalize upd H4 d (HO.dK (tabV (fun x=>opV (PF ls r hs.length hs x)) (us++cu)))=H5 at *
   refine⟨_,rfl,l,rfl,⟨_,SqL.of hl5⟩,fun D hD _=>?_⟩
   have nDd:D≠d:=fun z=>by rw[z,hd5] at hD;cases hD
   refine zY (K:=K) (a:=l) (xs:=(s0::lt).map V.int) (fun i zs τ H'=>∃ (o:Option V),τ=[o,some (.ref d)]∧zs=(((s0::lt).take i).filter fun x=>decide (x∉us++cu)).map V.int∧H'=upd H5 D (.lst zs)) ?_ ?_ ?_ ?_
   ·exact⟨none,rfl,rfl,rfl⟩
   ·rintro i zs τ H' ⟨o,_,_,rfl⟩
    exact SqL.of (by rw[upd_ne (ne_of_none hl5 hD)];exact hl5)
   ·rintro i v zs τ H' hi ⟨o,rfl,rfl,rfl⟩
    rw[List.getElem?_map] at hi
    obtain⟨x,hx,rfl⟩:=Option.map_eq_some_iff.mp hi
    have etk:(s0::lt).take (i+1)=(s0::lt).take i++[x]:=by rw[List.take_add_one,hx];rfl
    have hd6:(upd H5 D (HO.lst ((((s0::lt).take i).filter fun x=>decide (x∉us++cu)).map V.int))) d=some (.dK (tabV (fun x=>opV (PF ls r hs.length hs x)) (us++cu))):=by rw[upd_ne nDd.symm];exact hd5
    have hlen:((((s0::lt).take i).filter fun x=>decide (x∉us++cu)).map V.int).length<sizeLine:=by
     rw[List.length_map]
     have h1:=List.length_filter_le (fun x=>decide (x∉us++cu)) ((s0::lt).take i)
     rw[List.length_take] at h1
     have h2:=yo (List.nodup_iff_pairwise_ne.mpr (upl.imp fun {a b} h=>by omega)) hlh
     exact zi (by omega)
    by_cases c:x∈us++cu
    ·refine⟨_,rfl,_,rfl,d,_,rfl,zN hd6 c,_,rfl,z4 rfl ?_⟩
     refine⟨_,rfl,?_,rfl⟩
     rw[etk,List.filter_append,List.filter_cons_of_neg (by simp[c]),List.filter_nil,List.append_nil]
    ·refine⟨_,rfl,_,rfl,d,none,rfl,wB hd6 c,_,rfl,vt ?_⟩
     refine⟨_,rfl,upd_same,hlen,_,rfl,?_,?_⟩
     ·rw[etk,List.filter_append,List.filter_cons_of_pos (by simpa using c),List.filter_nil,List.map_append]
      rfl
     ·rw[yO]
   ·rintro zs τ H' ⟨o,rfl,rfl,rfl⟩
    rw[List.length_map,List.take_length]
    have enx:(s0::lt).filter (fun x=>decide (x∉us++cu))=nxl ls r (s0::lt):=by
     unfold nxl
     refine List.filter_congr fun x hx=>decide_eq_decide.mpr ?_
     rw[List.mem_append]
     constructor
     ·intro h1
      exact Classical.byContradiction fun z=>h1 (.inr ((memc x).mpr z))
     ·intro h1 h2
      rcases h2 with h2 | h2
      ·exact hlu x hx h2
      ·exact(memc x).mp h2 h1
    have nl:=wJ (ls:=ls) (r:=r) (s:=s0) (left:=lt)
    rw[enx]
    refine⟨(nxl ls r (s0::lt)).length,?_,us++cu,nxl ls r (s0::lt),n',D,_,rfl,rfl,?_,upd_same,?_,ndx,fun x hx=>?_,fun x hx=>?_,?_,s5.trans (Same.new hD)⟩
    ·rw[List.length_cons];omega
    ·rw[upd_ne nDd.symm];exact hd5
    ·rw[← enx,← hcl,eleft,List.filter_filter]
     refine List.filter_congr fun x hx=>?_
     rw[← Bool.decide_and]
     refine decide_eq_decide.mpr ?_
     rw[List.mem_append]
     constructor
     ·rintro⟨h1,_⟩;exact h1
     ·intro h1
      exact⟨h1,fun z=>h1 (.inl z)⟩
    ·rcases List.mem_append.mp hx with z | z
     ·exact hsu x z
     ·exact hlh x (hcl2 x z)
    ·have hx2:=List.mem_filter.mp hx
     rw[hpf x hx2.1]
     show(if stp ls r (s0::lt) x=none then _ else _)=_
     rw[if_pos (of_decide_eq_true hx2.2)]
    ·rw[List.length_cons] at hln;omega
def zal (a:Ad) (f:List Int→Nat):Sp:=fun vs H Q _=>∃ (p:Addr) (hs:List Int) (ls:List (Int×Int)),vs=[.ref p]∧WbP a H p hs ls ∧
 ∀ (q dx dp ob:Addr) (us:List Int) (H':Hp),WayAt a H' q (PF ls (f hs) hs.length hs) us (brs ls (f hs) hs) dx dp ob→(∀ x,x∈us↔x∈hs)→Same H H'→Q (.ref q) H'
theorem zck (T:Txt w K mg a):FnOk P w K mg base CX0 9 a.f_qg a.d_qg ["web"] (zal a fun _=>0):=by
 have c_qf:Callee P w K mg base "by_clusters" a.f_qf a.d_qf ["web", "reach"] 8 (zak a):=⟨Vl T,T.g_qf,T.F_qf.kp,T.b_qf⟩
 refine T.F_qg.ok zbU (fun vs H Q E h=>?_) (fun cdv A outer s H vs Q E hr h=>?_)
 ·obtain⟨p,hs,ls,rfl,_⟩:=h
  rfl
 ·obtain⟨p,hs,ls,rfl,W,k⟩:=h
  refine zU (zf (zj (zp c_qf (hr.mono (by omega)) (zg (zh 0) (zI ze zd))))) ?_
  exact⟨_,rfl,p,hs,ls,0,rfl,W,k⟩
theorem zcj (T:Txt w K mg a):FnOk P w K mg base CX0 9 a.f_qh a.d_qh ["web"] (zal a List.length):=by
 have c_qf:Callee P w K mg base "by_clusters" a.f_qf a.d_qf ["web", "reach"] 8 (zak a):=⟨Vl T,T.g_qf,T.F_qf.kp,T.b_qf⟩
 refine T.F_qh.ok zbT (fun vs H Q E h=>?_) (fun cdv A outer s H vs Q E hr h=>?_)
 ·obtain⟨p,hs,ls,rfl,_⟩:=h
  rfl
 ·obtain⟨p,hs,ls,rfl,WP,k⟩:=h
  obtain⟨wdx,oh,ol,d0,ad,W⟩:=WP.at_
  refine zU (zf (zj (zp c_qf (hr.mono (by omega)) (zg (zh 0) (zF (zq zx (by rfl) T.n_len yN (zF (zO (zh 0)) zd)) zd))))) ?_
  refine⟨_,rfl,_,rfl,p,_,wdx,_,_,_,_,_,_,rfl,W.p,rfl,T.cl_Web,T.mt_qD,vg (P:=P) (w:=w) T,hr.mono (by omega),T.b_qD,p,hs,ls,wdx,oh,ol,d0,ad,rfl,W,fun l hl=>?_⟩
  have s1:=Same.new (o:=HO.lst (hs.map V.int)) hl
  refine⟨l,_,rfl,.inl (SqL.of upd_same),?_⟩
  refine⟨p,hs,ls,hs.length,by rw[List.length_map];rfl,WP.same s1,fun q dx dp ob us H' W' hm s'=>k q dx dp ob us H' W' hm (s1.trans s')⟩
def XsAt (H:Hp) (l:Addr):Prop:=∃ ns:List Int,H l=some (.lst (ns.map V.int))∧(∀ n∈ns,0≤n)∧ns.length≤150
theorem XsAt.ne {H:Hp}{l p:Addr}(s:XsAt H l) (h:H p=none):p≠l:=fun z=>by
 obtain⟨ns,e,_⟩:=s
 rw[← z,h] at e
 cases e
theorem XsAt.same {H H':Hp}{l:Addr}(s:XsAt H l) (k:Same H H'):XsAt H' l:=by
 obtain⟨ns,e,h⟩:=s
 exact⟨ns,k _ _ e,h⟩
theorem XsAt.new {H:Hp}{l p:Addr}{o:HO}(s:XsAt H l) (h:H p=none):XsAt (upd H p o) l:=s.same (Same.new h)
theorem XsAt.upd {H:Hp}{l p:Addr}{o:HO}(s:XsAt H l) (h:p≠l):XsAt (upd H p o) l:=by
 obtain⟨ns,e,h'⟩:=s
 exact⟨ns,by rw[upd_ne h.symm];exact e,h'⟩
def We (K:PySem.W.Frag):Sp:=fun vs H Q _=>∃ (l:Addr) (ns:List Int) (k:Int),vs=[.ref l,.int k]∧SqL K H l (ns.map V.int)∧0≤k∧∀ i:Int,Q (.int i) H
theorem Vk (T:Txt w K mg a):FnOk P w K mg base CX0 1 a.f_qm a.d_qm ["_law_script", "_law_k"] (We K):=by
 refine T.F_qm.ok zbR (fun vs H Q E h=>?_) (fun cdv A outer s H vs Q E hr h=>?_)
 ·obtain⟨l,ns,k,rfl,_⟩:=h
  rfl
 ·obtain⟨l,ns,k,rfl,hl,k0,q⟩:=h
  refine zU (w_pss_cons (zH (zn xX (zh 1) (zq zx (by rfl) T.n_len yN (zg (zh 0) zd)) (zr _))
    (zf (zj (zJ z8 (zh 0) (zh 1) (fun _ _=>rfl))))
    zt)
   (zf (zj ze))) ?_
  refine⟨_,rfl,_,rfl,l,_,rfl,.inl hl,_,_,rfl,rfl,_,rfl,?_⟩
  rw[List.length_map]
  refine ite2 (fun z=>?_) (fun z=>?_)
  ·have z:k<ns.length:=of_decide_eq_true z
   obtain⟨n,rfl⟩:∃ n:Nat,k=n:=⟨k.toNat,by omega⟩
   have hn:n<ns.length:=by omega
   refine⟨_,rfl,_,rfl,l,_,_,V.int ns[n],rfl,rfl,hl,vW (by simp[hn]),?_⟩
   exact q _
  ·exact q 0
def ub:Sp:=fun vs H Q _=>∃ (l:Addr) (n:Int),vs=[.ref l,.int n]∧XsAt H l∧0<n∧∀ (d:Int) (H':Hp),0≤d→d<n→XsAt H' l→Ext l H H'→Q (.int d) H'
theorem vF (T:Txt w K mg a):FnOk P w K mg base CX0 1 a.f_qo a.d_qo ["_law_xs", "_law_size"] ub:=by
 refine T.F_qo.ok zbQ (fun vs H Q E h=>?_) (fun cdv A outer s H vs Q E hr h=>?_)
 ·obtain⟨l,n,rfl,_⟩:=h
  rfl
 ·obtain⟨l,n,rfl,⟨ns,hl,h0,hlen⟩,hn,k⟩:=h
  have un:∀ n:Nat,n≤3→(A.deeper (PyProof.Rows.envOfC "_law_take" (defScope uG) s.heap.objs.size a.f_qo cdv)).units+n+2<cLine:=fun n hn=>by
   have:=hr.units
   omega
  refine zU (w_pss_cons (zH (zn (Yc Ut Uu) (zh 0) (zD zd) (zr _))
    (zf (zj ze))
    zt)
   (zf (zj (zl xp (yk PySem.F.plainAttrs_list PySem.F.slot_list_pop PySem.F.type_list_pop ul (zh 0) (zI ze zd)) (zh 1))))) ?_
  refine⟨_,rfl,(by show 0≤sizeLine;decide),fun q hq=>?_⟩
  have hql:q≠l:=fun z=>by rw[z,hl] at hq;cases hq
  have hl1:(L2.upd H q (.lst [])) l=_:=(upd_ne hql.symm).trans hl
  cases ns with
  |nil =>
   refine .inl ⟨l,q,_,_,fun _=>true,0,rfl,rfl,.inl ⟨SqL.of hl1,SqL.of upd_same⟩,rfl,?_,?_,?_⟩
   ·exact un 0 (by decide)
   ·intro j x y hx
    cases hx
   ·refine⟨_,rfl,iteB rfl ?_⟩
    exact k 0 _ (Int.le_refl _) hn ⟨[],hl1,h0,hlen⟩ (Ext.new hq)
  |cons n0 ns =>
   refine .inr ⟨l,q,_,_,rfl,rfl,SqL.of hl1,SqL.of upd_same,(by simp),?_,?_⟩
   ·exact Nat.lt_of_le_of_lt (Nat.le_add_right _ 2) (un 0 (by decide))
   ·refine⟨_,rfl,z4 rfl ?_⟩
    refine⟨_,rfl,.inl ⟨rfl,_,SqL.of hl1⟩,l,_,0,0,_,rfl,rfl,hl1,by decide,by decide,(by simp[seqIndex?]),rfl,?_⟩
    refine⟨_,rfl,_,_,rfl,rfl,hn,?_⟩
    refine k _ _ (Int.emod_nonneg _ (Int.ne_of_gt hn)) (Int.emod_lt_of_pos _ hn) ⟨ns,upd_same,fun x hx=>h0 x (List.mem_cons_of_mem _ hx),?_⟩ ((Ext.new hq).trans Ext.at)
    have:ns.length+1≤150:=hlen
    omega
def ZT:Sp:=fun vs H Q _=>∃ (c:Int) (m:Nat),vs=[.int c,.int (m:Int)]∧m≤150∧∀ (q:Addr) (H':Hp),H q=none→XsAt H' q→Same H H'→Q (.ref q) H'
theorem Xo (T:Txt w K mg a):FnOk P w K mg base CX0 1 a.f_qn a.d_qn ["_law_cell", "_law_many"] ZT:=by
 refine T.F_qn.ok sc_qn (fun vs H Q E h=>?_) (fun cdv A outer s H vs Q E hr h=>?_)
 ·obtain⟨c,m,rfl,_⟩:=h
  rfl
 ·obtain⟨c,m,rfl,hm,k⟩:=h
  refine zU (w_pss_cons (w_ps_set (i:=2) sc_qn.nd rfl (Or.inl rfl) (zD zd))
   (w_pss_cons (w_ps_set (i:=3) sc_qn.nd rfl (Or.inl rfl) ze)
   (wO (zH (zn zb9 (zh 0) (zl vc ze ze) (zr _))
    (zf (w_ps_set (i:=3) sc_qn.nd rfl (Or.inl rfl) (zl wk (zh 0) (zl vc ze ze))))
    zt)
   (w_pss_cons (z5 PassesOwn.never (XW (yj (zn Vg (zh 3) ze (zr _)) (yf (zn xX (zq zx (by rfl) T.n_len yN (zg (zh 2) zd)) (zh 1) (zr _)))))
    (w_pss_cons (zC (yk PySem.F.plainAttrs_list PySem.F.slot_list_append PySem.F.type_list_append zL (zh 2) (wc (zl xp (zh 3) (zl vc ze ze)) zd)))
    (zf (w_ps_set (i:=3) sc_qn.nd rfl (Or.inl rfl) (zl xx (zh 3) (zl vc ze ze))))))
   (w_pss_cons (w_ps_set (i:=4) sc_qn.nd rfl (Or.inl rfl) (zl xp (zl vf (zl yL (zl xp (zh 0) ze) ze) ze) ze))
   (w_pss_cons (zM PassesOwn.never rfl (z6 rfl T.n_range (wc (zl wk (zh 1) (zq zx (by rfl) T.n_len yN (zg (zh 2) zd))) zd)) (zk (i:=5) sc_qn.nd rfl (Or.inl rfl))
    (w_pss_cons (w_ps_set (i:=4) sc_qn.nd rfl (Or.inl rfl) (zl xp (zl vf (zl yL (zl yL (zh 4) (zl vf ze (zh 5))) ze) ze) ze))
    (w_pss_cons (w_ps_set (i:=6) sc_qn.nd rfl (Or.inl rfl) (zl xp (zl vf (zh 4) (zl yL (zl xx (zh 4) ze) ze)) ze))
    (zf (zC (yk PySem.F.plainAttrs_list PySem.F.slot_list_append PySem.F.type_list_append zL (zh 2) (wc (zl xp (zl vf (zh 6) (zl yL (zl xx (zh 6) ze) ze)) ze) zd)))))))
   (zf (zj (zh 2))))))))) ?_
  refine⟨(by show 0≤sizeLine;decide),fun p hp=>?_⟩
  refine⟨fun σ' H'=>∃ rest:Int,σ'=[some (.int c),some (.int m),some (.ref p),some (.int rest),none,none,none]∧H'=L2.upd H p (.lst []),?_,?_⟩
  ·refine⟨_,rfl,_,_,rfl,rfl,⟨by decide,by decide,by decide⟩,_,_,rfl,rfl,_,rfl,?_⟩
   refine ite2 (fun _=>?_) (fun _=>?_)
   ·exact⟨_,rfl,_,_,rfl,rfl,⟨by decide,by decide,by decide⟩,_,_,rfl,rfl,_,rfl,rfl⟩
   ·exact⟨_,rfl,rfl⟩
  ·rintro σ' H' ⟨rest,rfl,rfl⟩
   refine⟨fun μ σ H'=>∃ (ns:List Int) (rest:Int),μ=m-ns.length∧σ=[some (.int c),some (.int m),some (.ref p),some (.int rest),none,none,none]∧H' p=some (.lst (ns.map V.int))∧Same H H'∧(∀ n∈ns,0≤n)∧ns.length≤m,⟨_,[],rest,rfl,rfl,upd_same,Same.new hp,(fun n hn=>nomatch hn),Nat.zero_le _⟩,?_⟩
   rintro μ σ H1 ⟨ns,rest,rfl,rfl,hp1,s1,h0,hlen⟩
   refine⟨_,rfl,_,_,rfl,rfl,_,rfl,?_⟩
   refine(fun hB=>ite2 (fun _=>⟨_,rfl,p,_,rfl,.inl (SqL.of hp1),_,rfl,_,_,rfl,rfl,_,rfl,ite2 (fun z=>?gC) (fun _=>hB)⟩) (fun _=>hB)) ?gB
   case gC =>
    have z:(ns.length:Int)<m:=by
     have z:=of_decide_eq_true z
     rw[List.length_map] at z
     exact z
    refine⟨_,fun σ' H' h=>h,?_⟩
    refine⟨_,rfl,.inl ⟨rfl,_,SqL.of hp1⟩,_,rfl,_,_,rfl,rfl,⟨by decide,by decide,by decide⟩,_,_,rfl,rfl,(by show(0:Int)<10 ^ Int.toNat 6;decide),p,_,_,rfl,rfl,hp1,(by rw[List.length_map];exact zi (by omega)),?_⟩
    refine⟨_,rfl,_,_,rfl,rfl,⟨by decide,by decide,by decide⟩,_,_,rfl,rfl,⟨(by show(0:Int)<10 ^ Int.toNat 6;decide),(by show(10 ^ Int.toNat 6:Int).natAbs.log2<9000;decide)⟩,?_⟩
    refine⟨m-(ns.length+1),by omega,ns++[rest%10 ^ Int.toNat 6],_,by simp,rfl,?_,Same.updF s1 hp,?_,by simp;omega⟩
    ·rw[upd_same,List.map_append]
     rfl
    ·intro n hn
     rcases List.mem_append.mp hn with h | h
     ·exact h0 n h
     ·rw[List.mem_singleton.mp h]
      exact Int.emod_nonneg _ (by decide)
   case gB =>
    refine⟨_,rfl,_,_,rfl,rfl,(by show(0:Int)<2147483647;decide),_,_,rfl,rfl,_,_,rfl,rfl,.inr ⟨by decide,by decide⟩,_,_,rfl,rfl,(by show(0:Int)<2147483647;decide),?_⟩
    refine⟨_,rfl,_,rfl,p,_,rfl,.inl (SqL.of hp1),_,_,rfl,rfl,?_⟩
    rw[List.length_map]
    refine⟨(m:Int)-ns.length,rfl,by omega,by omega,?_⟩
    generalize ((c%2147483647+1)*48271%2147483647)=x0
    refine for_range (lo:=0) (fun i σ H'=>∃ (ns':List Int) (x:Int) (o5 o6:Option V),σ=[some (.int c),some (.int m),some (.ref p),some (.int rest),some (.int x),o5,o6]∧H' p=some (.lst (ns'.map V.int))∧Same H H'∧(∀ n∈ns',0≤n)∧ns'.length=ns.length+i) ?_ ?_ ?_
    ·exact⟨ns,_,none,none,rfl,hp1,s1,h0,rfl⟩
    ·rintro i σ H2 hi ⟨ns',x,o5,o6,rfl,hp2,s2,h2,hl2⟩
     refine⟨_,rfl,_,rfl,_,_,rfl,rfl,.inl ⟨by decide,by decide⟩,_,_,rfl,rfl,_,_,rfl,rfl,_,_,rfl,rfl,.inr ⟨by decide,by decide⟩,_,_,rfl,rfl,(by show(0:Int)<2147483647;decide),?_⟩
     generalize hv:(x+7919*(0+(i:Int))+1)*48271%2147483647=v
     have v1:0≤v:=by rw[← hv];exact Int.emod_nonneg _ (by decide)
     have v2:v<2147483647:=by rw[← hv];exact Int.emod_lt_of_pos _ (by decide)
     refine⟨_,rfl,_,rfl,_,_,rfl,rfl,⟨by show(0:Int)<1009;decide,Xz⟩,_,_,rfl,rfl,_,_,rfl,rfl,.inl ⟨by omega,by omega⟩,_,_,rfl,rfl,(by show(0:Int)<2147483647;decide),?_⟩
     generalize hu:v*(v/1009+65537)%2147483647=u
     have u1:0≤u:=by rw[← hu];exact Int.emod_nonneg _ (by decide)
     have u2:u<2147483647:=by rw[← hu];exact Int.emod_lt_of_pos _ (by decide)
     refine⟨_,rfl,.inl ⟨rfl,_,SqL.of hp2⟩,_,rfl,_,rfl,_,_,rfl,rfl,⟨by show(0:Int)<2003;decide,Xy⟩,_,_,rfl,rfl,_,_,rfl,rfl,.inl ⟨by omega,by omega⟩,_,_,rfl,rfl,(by show(0:Int)<2147483399;decide),p,_,_,rfl,rfl,hp2,(by rw[List.length_map];exact zi (by omega)),?_⟩
     refine⟨ns'++[u*(u/2003+40697)%2147483399],v,some (.int (0+(i:Int))),some (.int u),(by rw[← hu,← hv];rfl),?_,Same.updF s2 hp,?_,by simp;omega⟩
     ·rw[upd_same,List.map_append,← hu,← hv]
      rfl
     ·intro n hn
      rcases List.mem_append.mp hn with h | h
      ·exact h2 n h
      ·rw[List.mem_singleton.mp h]
       exact Int.emod_nonneg _ (by decide)
    ·rintro σ H2 ⟨ns',x,o5,o6,rfl,hp2,s2,h2,hl2⟩
     exact⟨_,rfl,k p H2 hp ⟨ns',hp2,h2,by omega⟩ s2⟩
def ot1 (ls:List (Int×Int)) (x:Int):List Int:=(ls.filter fun p=>decide (p.1=x)).map (·.2)
def ot2 (ls:List (Int×Int)) (x:Int):List Int:=(ls.filter fun p=>decide (p.2=x)).map (·.1)
theorem Xk {ls:List (Int×Int)}{p:Int×Int}{x:Int}:ot1 (ls++[p]) x=ot1 ls x++if p.1=x then[p.2] else[]:=by
 unfold ot1
 rw[List.filter_append,List.map_append]
 by_cases c:p.1=x<;>simp[c]
theorem Xj {ls:List (Int×Int)}{p:Int×Int}{x:Int}:ot2 (ls++[p]) x=ot2 ls x++if p.2=x then[p.1] else[]:=by
 unfold ot2
 rw[List.filter_append,List.map_append]
 by_cases c:p.2=x<;>simp[c]
theorem Ya {x:Int}:∀ {ls:List (Int×Int)},(ot1 ls x++ot2 ls x).Perm (nbs ls x)
 |[]=>List.Perm.refl _
 |p::ls=>by
  have e:nbs (p::ls) x=((if p.1=x then[p.2] else[])++if p.2=x then[p.1] else[])++nbs ls x:=by unfold nbs;rw[List.flatMap_cons]
  have e1:ot1 (p::ls) x=(if p.1=x then[p.2] else[])++ot1 ls x:=by unfold ot1;by_cases c:p.1=x<;>simp[c]
  have e2:ot2 (p::ls) x=(if p.2=x then[p.1] else[])++ot2 ls x:=by unfold ot2;by_cases c:p.2=x<;>simp[c]
  rw[e,e1,e2]
  refine List.Perm.trans ?_ (List.Perm.append_left _ (Ya (ls:=ls)))
  rw[List.append_assoc,List.append_assoc]
  refine List.Perm.append_left _ ?_
  rw[← List.append_assoc,← List.append_assoc]
  exact List.Perm.append_right _ List.perm_append_comm
theorem Wk {ls:List (Int×Int)}{x:Int}:(ot1 ls x).length≤ls.length∧(ot2 ls x).length≤ls.length:=by
 unfold ot1 ot2
 rw[List.length_map,List.length_map]
 exact⟨List.length_filter_le _ _,List.length_filter_le _ _⟩
def zbK:Sp:=fun vs H Q _=>∃ (q:Addr) (x:Int) (rs:List V) (hs:List Int) (ls:List (Int×Int)),vs=[.ref q,.int x]∧H q=some (.lst rs)∧LnAt H rs ls∧Hs hs∧Ls hs ls ∧
 ∀ (p:Addr) (H':Hp),H p=none→Same H H'→H' p=some (.lst ((hs.filter (adB ls x)).map V.int))→Q (.ref p) H'
theorem Uy (T:Txt w K mg a):FnOk P w K mg base CX0 1 a.f_qr a.d_qr ["_law_lines_here", "_law_hand"] zbK:=by
 refine T.F_qr.ok sc_qr (fun vs H Q E h=>?_) (fun cdv A outer s H vs Q E hr h=>?_)
 ·obtain⟨q,x,rs,hs,ls,rfl,_⟩:=h
  rfl
 ·obtain⟨q,x,rs,hs,ls,rfl,hq,L,wh,wl,k⟩:=h
  have hu:=xm hr
  have l66:=wl.le
  refine zU (w_pss_cons (yb (i:=2) rfl sc_qr.nd rfl (Or.inl rfl) (N':=["_law_one", "_law_other", "_law_hand"]) (t:=2) (caps:=[1]) ⟨rfl,rfl,rfl⟩ (zz (zh 0)) (fun _=>(yU rfl (zG (zk (i:=0) (show(["_law_one", "_law_other", "_law_hand"]:List Str).Nodup by decide +kernel) rfl (Or.inl rfl)) (zG (zk (i:=1) (show(["_law_one", "_law_other", "_law_hand"]:List Str).Nodup by decide +kernel) rfl (Or.inl rfl)) yv)))) (fun _=>(yt (zn vE (zh 0) (zh 2) (zr _)))) (fun _=>(zh 1)))
   (zf (zj (zq xn (by rfl) T.n_sorted zT (wc (zl Yb (zh 2) (yh rfl (N':=["_law_one", "_law_other", "_law_hand"]) (t:=2) (caps:=[1]) ⟨rfl,rfl,rfl⟩ (zz (zh 0)) (fun _=>(yU rfl (zG (zk (i:=0) (show(["_law_one", "_law_other", "_law_hand"]:List Str).Nodup by decide +kernel) rfl (Or.inl rfl)) (zG (zk (i:=1) (show(["_law_one", "_law_other", "_law_hand"]:List Str).Nodup by decide +kernel) rfl (Or.inl rfl)) yv)))) (fun _=>(yt (zn vE (zh 1) (zh 2) (zr _)))) (fun _=>(zh 0)))) zd))))) ?_
  refine⟨_,rfl,q,rfl,⟨_,SqL.of hq⟩,fun D hD _=>?_⟩
  refine zY (K:=K) (a:=q) (xs:=rs) (fun j zs τ H'=>∃ o1 o2,τ=[o1,o2,some (.int x)]∧zs=(ot1 (ls.take j) x).map V.int∧H' D=some (.lst zs)∧Same H H') ?_ ?_ ?_ ?_
  ·exact⟨none,none,rfl,rfl,upd_same,Same.new hD⟩
  ·rintro j zs τ H' ⟨o1,o2,_,_,_,sm⟩
   exact SqL.of (sm _ _ hq)
  ·rintro j v zs τ H' hj ⟨o1,o2,rfl,rfl,hD',sm⟩
   obtain⟨pr,r,hpr,rfl,hr'⟩:=L.get hj
   refine⟨r,_,rfl,SqT.of (sm _ _ hr'),rfl,_,_,rfl,_,_,rfl,rfl,?_⟩
   refine⟨_,rfl,_,rfl,rfl,_,rfl,?_⟩
   have st:ot1 (ls.take (j+1)) x=ot1 (ls.take j) x++if pr.1=x then[pr.2] else[]:=by
    rw[List.take_add_one,hpr]
    exact Xk
   refine ite2 (fun z=>?_) (fun z=>?_)
   ·have z:pr.1=x:=by
     have:=of_decide_eq_true z
     injection this
    refine⟨_,rfl,hD',?_,_,_,rfl,?_,upd_same,Same.updF sm hD⟩
    ·rw[List.length_map]
     have:=(Wk (ls:=ls.take j) (x:=x)).1
     rw[List.length_take] at this
     exact zi (by omega)
    ·rw[st,if_pos z,List.map_append]
     rfl
   ·have z:¬ pr.1=x:=fun e=>z (by rw[e];exact decide_eq_true rfl)
    refine⟨_,_,rfl,?_,hD',sm⟩
    rw[st,if_neg z,List.append_nil]
  ·rintro zs τ H1 ⟨o1,o2,rfl,rfl,hD1,sm⟩
   rw[L.1,List.take_length] at hD1
   refine⟨_,rfl,_,rfl,q,rfl,⟨_,SqL.of (sm _ _ hq)⟩,fun D2 hD2 _=>?_⟩
   refine zY (K:=K) (a:=q) (xs:=rs) (fun j zs τ H'=>∃ o1 o2,τ=[o1,o2,some (.int x)]∧zs=(ot2 (ls.take j) x).map V.int∧H' D2=some (.lst zs)∧Same H1 H') ?_ ?_ ?_ ?_
   ·exact⟨none,none,rfl,rfl,upd_same,Same.new hD2⟩
   ·rintro j zs τ H' ⟨o1,o2,_,_,_,sm2⟩
    exact SqL.of (sm2 _ _ (sm _ _ hq))
   ·rintro j v zs τ H' hj ⟨o1,o2,rfl,rfl,hD',sm2⟩
    obtain⟨pr,r,hpr,rfl,hr'⟩:=L.get hj
    refine⟨r,_,rfl,SqT.of (sm2 _ _ (sm _ _ hr')),rfl,_,_,rfl,_,_,rfl,rfl,?_⟩
    refine⟨_,rfl,_,rfl,rfl,_,rfl,?_⟩
    have st:ot2 (ls.take (j+1)) x=ot2 (ls.take j) x++if pr.2=x then[pr.1] else[]:=by
     rw[List.take_add_one,hpr]
     exact Xj
    refine ite2 (fun z=>?_) (fun z=>?_)
    ·have z:pr.2=x:=by
      have:=of_decide_eq_true z
      injection this
     refine⟨_,rfl,hD',?_,_,_,rfl,?_,upd_same,Same.updF sm2 hD2⟩
     ·rw[List.length_map]
      have:=(Wk (ls:=ls.take j) (x:=x)).2
      rw[List.length_take] at this
      exact zi (by omega)
     ·rw[st,if_pos z,List.map_append]
      rfl
    ·have z:¬ pr.2=x:=fun e=>z (by rw[e];exact decide_eq_true rfl)
     refine⟨_,_,rfl,?_,hD',sm2⟩
     rw[st,if_neg z,List.append_nil]
   ·rintro zs τ H2 ⟨o1',o2',rfl,rfl,hD3,sm2⟩
    rw[L.1,List.take_length] at hD3
    have pmx:=Ya (x:=x) (ls:=ls)
    have few:=Yg (x:=x) wh wl
    have flen:=pmx.length_eq
    rw[List.length_append] at flen
    refine⟨D,D2,_,_,rfl,rfl,sm2 _ _ hD1,hD3,(by rw[List.length_map,List.length_map];exact Nat.le_of_lt (zi (by omega))),fun p hp=>?_⟩
    have hp':L2.upd H2 p (HO.lst (List.map V.int (ot1 ls x)++List.map V.int (ot2 ls x))) p=some (.lst ((ot1 ls x++ot2 ls x).map V.int)):=by rw[upd_same,List.map_append]
    have y3:=Same.new (o:=HO.lst (List.map V.int (ot1 ls x)++List.map V.int (ot2 ls x))) hp
    have y123:=(sm.trans sm2).trans y3
    exact⟨p,_,rfl,SqL.of hp',by rw[List.length_append];omega,fun q' ms hq' pm sd=>by
     rw[uc wh wl (pm.trans pmx) sd]
     exact k q' _ (y123.free hq') (y123.trans (Same.new hq')) upd_same⟩
def zg8:Sp:=fun vs H Q _=>∃ (l:Addr),vs=[.ref l,.int 12]∧XsAt H l ∧
 ∀ (h:Addr) (hs:List Int) (H':Hp),H h=none→H' h=some (.lst (hs.map V.int))→Hs hs→XsAt H' l→Ext l H H'→Q (.ref h) H'
theorem zch (T:Txt w K mg a):FnOk P w K mg base CX0 2 a.f_qp a.d_qp ["_law_xs", "_law_most"] zg8:=by
 have c_qo:Callee P w K mg base "_law_take" a.f_qo a.d_qo ["_law_xs", "_law_size"] 1 ub:=⟨vF T,T.g_qo,T.F_qo.kp,T.b_qo⟩
 refine T.F_qp.ok sc_qp (fun vs H Q E h=>?_) (fun cdv A outer s H vs Q E hr h=>?_)
 ·obtain⟨l,rfl,_⟩:=h
  rfl
 ·obtain⟨l,rfl,hs,k⟩:=h
  refine zU (w_pss_cons (w_ps_set (i:=2) sc_qp.nd rfl (Or.inl rfl) (zp c_qo (hr.mono (by omega)) (zg (zh 0) (zI ze zd))))
   (w_pss_cons (w_ps_set (i:=3) sc_qp.nd rfl (Or.inr rfl) (zD (zg (zh 2) zd)))
   (w_pss_cons (zM PassesOwn.never rfl (z6 rfl T.n_range (zF (zp c_qo (hr.mono (by omega)) (zg (zh 0) (zg (zh 1) zd))) zd)) (zk (i:=4) sc_qp.nd rfl (Or.inl rfl))
    (w_pss_cons (w_ps_set (i:=2) sc_qp.nd rfl (Or.inl rfl) (zl yL (zl yL (zh 2) ze) (zp c_qo (hr.mono (by omega)) (zg (zh 0) (zI ze zd)))))
    (zf (zC (yk PySem.F.plainAttrs_list PySem.F.slot_list_append PySem.F.type_list_append zL (zh 3) (zg (zh 2) zd))))))
   (wO (zH (zn vE (zp c_qo (hr.mono (by omega)) (zg (zh 0) (zI ze zd))) ze (zr _))
    (zf (w_ps_set (i:=3) sc_qp.nd rfl (Or.inr rfl) (yh rfl (N':=["_law_one", "_law_found"]) (t:=1) (caps:=[3]) ⟨rfl,rfl,rfl⟩ (zz (zh 3)) (fun _=>(zk (i:=0) (show(["_law_one", "_law_found"]:List Str).Nodup by decide +kernel) rfl (Or.inl rfl))) (fun _=>yu) (fun _=>(zl wk (zl yL (zh 0) ze) (zJ z8 (zh 1) (uX Zb ze) (fun _ _=>rfl)))))))
    zt)
   (zf (zj (zh 3))))))) ?_
  refine⟨_,rfl,l,5,rfl,hs,by decide,fun d0 H1 g1 g2 s1 x1=>?_⟩
  refine⟨_,rfl,(by show 1≤sizeLine;decide),fun p hp=>?_⟩
  have npl:=s1.ne hp
  refine⟨_,rfl,_,rfl,l,12,rfl,s1.new hp,by decide,fun m H2 g3 g4 s2 x2=>?_⟩
  refine⟨m,rfl,by omega,by omega,?_⟩
  have hp2:H2 p=some (.lst [V.int d0]):=x2 _ _ upd_same npl
  have X2:Ext l H1 H2:=(Ext.new hp).trans x2
  refine for_range (lo:=0) (fun i σ H'=>∃ (ns:List Int) (x:Int) (o4:Option V),σ=[some (.ref l),some (.int 12),some (.int x),some (.ref p),o4]∧H' p=some (.lst ((ns++[x]).map V.int))∧ns.length=i∧(ns++[x]).Pairwise (· < ·)∧(∀ y∈ns++[x],0≤y)∧(∀ y∈ns++[x],y≤4+8*(i:Int))∧XsAt H' l∧Ext l H1 H') ?_ ?_ ?_
  ·refine⟨[],d0,none,rfl,hp2,rfl,by simp,?_,?_,s2,X2⟩
   ·intro y hy
    rw[List.mem_singleton.mp hy];exact g1
   ·intro y hy
    rw[List.mem_singleton.mp hy];omega
  ·rintro i σ H3 hi ⟨ns,x,o4,rfl,hp3,hln,up,lo,hi',s3,x3⟩
   refine⟨_,rfl,_,_,rfl,rfl,_,rfl,l,8,rfl,s3,by decide,fun d H4 a1 a2 s4 x4=>?_⟩
   have hp4:=x4 _ _ hp3 npl
   refine⟨_,_,rfl,rfl,_,rfl,.inl ⟨rfl,_,SqL.of hp4⟩,_,rfl,p,_,_,rfl,rfl,hp4,(by rw[List.length_map,List.length_append];exact zi (by simp;omega)),?_⟩
   refine⟨ns++[x],x+1+d,_,rfl,?_,by simp[hln],?_,?_,?_,s4.upd npl,?_⟩
   ·rw[upd_same,List.map_append (l₂:=[x+1+d])]
    rfl
   ·rw[List.pairwise_append]
    refine⟨up,by simp,fun y hy z hz=>?_⟩
    rw[List.mem_singleton.mp hz]
    rcases List.mem_append.mp hy with h | h
    ·have:=(List.pairwise_append.mp up).2.2 y h x (by simp)
     omega
    ·rw[List.mem_singleton.mp h];omega
   ·intro y hy
    rcases List.mem_append.mp hy with h | h
    ·exact lo y h
    ·rw[List.mem_singleton.mp h]
     have:=lo x (by simp)
     omega
   ·intro y hy
    rcases List.mem_append.mp hy with h | h
    ·have:=hi' y h
     omega
    ·rw[List.mem_singleton.mp h]
     have:=hi' x (by simp)
     omega
   ·intro b o e nb
    rw[upd_ne (ne_of_none e hp)]
    exact(x3.trans x4) b o e nb
  ·rintro σ H3 ⟨ns,x,o4,rfl,hp3,hln,up,lo,hi',s3,x3⟩
   have hp0:H p=none:=by
    cases e:H p with
    |none=>rfl
    |some o=>have:=x1 _ _ e npl;rw[hp] at this;cases this
   have X3:=x1.trans x3
   refine⟨fun σ' H'=>∃ (h:Addr) (hs':List Int),σ'=[some (.ref l),some (.int 12),some (.int x),some (.ref h),o4]∧H h=none∧H' h=some (.lst (hs'.map V.int))∧Hs hs'∧XsAt H' l∧Ext l H H',?_,?_⟩
   ·refine⟨_,rfl,l,4,rfl,s3,by decide,fun d H4 a1 a2 s4 x4=>⟨rfl,_,rfl,?_⟩⟩
    have hp4:=x4 _ _ hp3 npl
    have X4:=X3.trans x4
    have hl:(ns++[x]).length=m.toNat+1:=by rw[List.length_append,hln];rfl
    refine ite2 (fun _=>?_) (fun _=>?_)
    ·refine⟨_,rfl,p,rfl,⟨_,SqL.of hp4⟩,fun D hD _=>?_⟩
     have nDl:=s4.ne hD
     have hD0:H D=none:=by
      cases e:H D with
      |none=>rfl
      |some o=>have:=X4 _ _ e nDl;rw[hD] at this;cases this
     refine zY (K:=K) (a:=p) (xs:=(ns++[x]).map V.int) (fun j zs τ H'=>∃ o,τ=[o,some (.ref p)]∧zs=(((ns++[x]).take j).map fun y=>y+99-x).map V.int∧H' D=some (.lst zs)∧Same H4 H') ?_ ?_ ?_ ?_
     ·exact⟨none,rfl,by simp,upd_same,Same.new hD⟩
     ·rintro j zs τ H' ⟨o,_,_,_,sm⟩
      exact SqL.of (sm _ _ hp4)
     ·rintro j v zs τ H' hj ⟨o,rfl,rfl,hD',sm⟩
      rw[List.getElem?_map] at hj
      obtain⟨y,hy,rfl⟩:=Option.map_eq_some_iff.mp hj
      have hjl:=(List.getElem?_eq_some_iff.mp hy).1
      refine XF ?_
      refine⟨_,rfl,_,_,rfl,rfl,_,rfl,_,rfl,p,_,_,V.int x,rfl,rfl,SqL.of (sm _ _ hp4),(by rw[List.map_append];exact at_last),_,_,rfl,rfl,hD',by simp;exact zi (by omega),some (.int y),rfl,?_,upd_same,Same.updF sm hD⟩
      rw[List.take_add_one,hy]
      simp
     ·rintro zs τ H5 ⟨o,rfl,rfl,hD5,sm⟩
      rw[List.length_map,List.take_length] at hD5
      refine⟨D,_,rfl,hD0,hD5,⟨?_,?_,?_,?_,?_⟩,s4.same sm,X4.trans (Ext.same sm)⟩
      ·rw[List.length_map,hl];omega
      ·rw[List.length_map,hl];omega
      ·rw[List.pairwise_map]
       exact up.imp fun h=>by omega
      ·intro y hy
       obtain⟨z,hz,rfl⟩:=List.mem_map.mp hy
       have h1:=lo z hz
       have h2:=hi' x (by simp)
       omega
      ·intro y hy
       obtain⟨z,hz,rfl⟩:=List.mem_map.mp hy
       rcases List.mem_append.mp hz with h | h
       ·have:=(List.pairwise_append.mp up).2.2 z h x (by simp)
        omega
       ·rw[List.mem_singleton.mp h];omega
    ·refine⟨p,_,rfl,hp0,hp4,⟨?_,?_,up,lo,fun y hy=>?_⟩,s4,X4⟩
     ·rw[hl];omega
     ·rw[hl];omega
     ·have:=hi' y hy
      omega
   ·rintro σ' H4 ⟨h,hs',rfl,hh0,hh,wh,s4,x4⟩
    exact⟨_,rfl,k h hs' H4 hh0 hh wh s4 x4⟩
noncomputable def tri:Nat→Nat
 |0=>0
 |n+1=>tri n+n
theorem WD:∀ n,n≤12→tri n≤66:=by decide
theorem VS {n j:Nat}(h:j<n):tri j+j≤tri n:=by
 induction n with
 |zero=>omega
 |succ n ih =>
  show tri j+j≤tri n+n
  by_cases c:j=n
  ·subst c;exact Nat.le_refl _
  ·have:=ih (by omega)
   omega
theorem zb5 {b1 b2 b3 b4 b5 b6:Bool}{d:Int}(h0:0≤d) (h1:d<6):∃ z,atI [V.bl b1,V.bl b2,V.bl b3,V.bl b4,V.bl b5,V.bl b6] d=some (.bl z):=by
 rcases(by omega:d=0∨d=1∨d=2∨d=3∨d=4∨d=5) with rfl | rfl | rfl | rfl | rfl | rfl
 all_goals exact⟨_,rfl⟩
theorem LnAt.cut {H:Hp}{rs:List V}{ls:List (Int×Int)}{n:Nat}(h:LnAt H rs ls):LnAt H (rs.drop n++rs.take n) (ls.drop n++ls.take n):=by
 refine⟨by simp[h.1],fun i r p e1 e2=>?_⟩
 by_cases c:i<(ls.drop n).length
 ·rw[List.getElem?_append_left (by simp[h.1];simpa using c)] at e1
  rw[List.getElem?_append_left c] at e2
  rw[List.getElem?_drop] at e1 e2
  exact h.2 _ r p e1 e2
 ·rw[List.getElem?_append_right (by simp[h.1];simpa using c)] at e1
  rw[List.getElem?_append_right (by omega)] at e2
  have e:(rs.drop n).length=(ls.drop n).length:=by simp[h.1]
  rw[e,List.getElem?_take] at e1
  rw[List.getElem?_take] at e2
  split at e1
  ·rw[if_pos ‹_›] at e2
   exact h.2 _ r p e1 e2
  ·cases e1
theorem zeq {rs:List V}{n:Nat}(h:n≤rs.length):wN rs (some (n:Int)) none=rs.drop n:=by
 have h1:HT.sIx rs.length 0 (some (n:Int))=n:=by
  unfold HT.sIx
  show(if (n:Int)<0 then _ else _)=n
  rw[if_neg (by omega)]
  simp
  omega
 have h2:HT.sIx rs.length rs.length none=rs.length:=rfl
 unfold wN
 rw[h1,h2]
 exact List.take_of_length_le (by rw[List.length_drop];omega)
theorem zep {rs:List V}{n:Nat}(h:n≤rs.length):wN rs none (some (n:Int))=rs.take n:=by
 have h1:HT.sIx rs.length rs.length (some (n:Int))=n:=by
  unfold HT.sIx
  show(if (n:Int)<0 then _ else _)=n
  rw[if_neg (by omega)]
  simp
  omega
 have h2:HT.sIx rs.length 0 none=0:=rfl
 unfold wN
 rw[h1,h2]
 simp
theorem UU {hs:List Int}(nd:hs.Nodup){i j:Nat}{x:Int}(h1:hs[i]?=some x) (h2:hs[j]?=some x):i=j:=by
 obtain⟨a1,b1⟩:=List.getElem?_eq_some_iff.mp h1
 obtain⟨a2,b2⟩:=List.getElem?_eq_some_iff.mp h2
 exact(List.getElem?_inj a1 nd).mp (h1.trans h2.symm)
structure Lfd (hs:List Int) (ls:List (Int×Int)) (j k:Nat):Prop where
 nd:ls.Nodup
 at_:∀ p∈ls,∃ k' j',hs[k']?=some p.1∧hs[j']?=some p.2∧k'<j'∧(j'<j∨(j'=j∧k'<k))
 le:ls.length≤tri j+k
theorem Lfd.skip {hs:List Int}{ls:List (Int×Int)}{j k:Nat}(h:Lfd hs ls j k):Lfd hs ls j (k+1) :=
 ⟨h.nd,fun p hp=>by
  obtain⟨k',j',h1,h2,h3,h4⟩:=h.at_ p hp
  exact⟨k',j',h1,h2,h3,by omega⟩,by have:=h.le;omega⟩
theorem Lfd.row {hs:List Int}{ls:List (Int×Int)}{j:Nat}(h:Lfd hs ls j j):Lfd hs ls (j+1) 0 :=
 ⟨h.nd,fun p hp=>by
  obtain⟨k',j',h1,h2,h3,h4⟩:=h.at_ p hp
  exact⟨k',j',h1,h2,h3,by omega⟩,h.le⟩
theorem Lfd.add {hs:List Int}{ls:List (Int×Int)}{j k:Nat}{x y:Int}(W:Hs hs) (h:Lfd hs ls j k) (kj:k<j) (hx:hs[k]?=some x) (hy:hs[j]?=some y):Lfd hs (ls++[(x,y)]) j (k+1):=by
 have nd:=Vy W
 refine⟨?_,fun p hp=>?_,?_⟩
 ·rw[List.nodup_append]
  refine⟨h.nd,by simp,fun a ha b hb z=>?_⟩
  rw[List.mem_singleton.mp hb] at z
  obtain⟨k',j',h1,h2,h3,h4⟩:=h.at_ a ha
  rw[z] at h1 h2
  have:=UU nd h1 hx
  have:=UU nd h2 hy
  omega
 ·rcases List.mem_append.mp hp with h' | h'
  ·obtain⟨k',j',h1,h2,h3,h4⟩:=h.at_ p h'
   exact⟨k',j',h1,h2,h3,by omega⟩
  ·rw[List.mem_singleton.mp h']
   exact⟨k,j,hx,hy,kj,.inr ⟨rfl,by omega⟩⟩
 ·rw[List.length_append]
  have:=h.le
  simp
  omega
theorem Lfd.ls {hs:List Int}{ls:List (Int×Int)}{n:Nat}(W:Hs hs) (h:Lfd hs ls hs.length 0):Ls hs (ls.drop n++ls.take n):=by
 have pm:(ls.drop n++ls.take n).Perm ls:=List.perm_append_comm.trans (by rw[List.take_append_drop])
 refine⟨pm.nodup_iff.mpr h.nd,fun p hp=>?_,?_⟩
 ·obtain⟨k',j',h1,h2,h3,_⟩:=h.at_ p (pm.mem_iff.mp hp)
  obtain⟨a1,b1⟩:=List.getElem?_eq_some_iff.mp h1
  obtain⟨a2,b2⟩:=List.getElem?_eq_some_iff.mp h2
  refine⟨b1 ▸ List.getElem_mem a1,b2 ▸ List.getElem_mem a2,?_⟩
  rw[← b1,← b2]
  exact List.pairwise_iff_getElem.mp W.up _ _ a1 a2 h3
 ·rw[pm.length_eq]
  have:=h.le
  have:=WD hs.length W.l12
  omega
def zg7:Sp:=fun vs H Q _=>∃ (l h:Addr) (hs:List Int),vs=[.ref l,.ref h]∧XsAt H l∧H h=some (.lst (hs.map V.int))∧h≠l∧Hs hs ∧
 ∀ (q:Addr) (rs:List V) (ls:List (Int×Int)) (H':Hp),H q=none→H' q=some (.lst rs)→LnAt H' rs ls→Ls hs ls→XsAt H' l→Ext l H H'→Q (.ref q) H'
theorem Wl {tA tB:TE}{σ:St}{H:Hp}{Q:VK}(k:(∀ b:Bool,Q (.bl b) H)→zah tA tB σ H Q) (J:∀ b:Bool,Q (.bl b) H):zah tA tB σ H Q:=k J
theorem zcg (T:Txt w K mg a):FnOk P w K mg base CX0 2 a.f_qq a.d_qq ["_law_xs", "_law_hands_here"] zg7:=by
 have c_qo:Callee P w K mg base "_law_take" a.f_qo a.d_qo ["_law_xs", "_law_size"] 1 ub:=⟨vF T,T.g_qo,T.F_qo.kp,T.b_qo⟩
 refine T.F_qq.ok sc_qq (fun vs H Q E h=>?_) (fun cdv A outer s H vs Q E hr h=>?_)
 ·obtain⟨l,h,hs,rfl,_⟩:=h
  rfl
 ·obtain⟨l,h,hs,rfl,sl,hh,nhl,wh,k⟩:=h
  have l12:=wh.l12
  refine zU (w_pss_cons (w_ps_set (i:=2) sc_qq.nd rfl (Or.inl rfl) (zp c_qo (hr.mono (by omega)) (zg (zh 0) (zI ze zd))))
   (w_pss_cons (w_ps_set (i:=3) sc_qq.nd rfl (Or.inl rfl) (zD zd))
   (w_pss_cons (zM PassesOwn.never rfl (z6 rfl T.n_range (zF (zq zx (by rfl) T.n_len yN (zg (zh 1) zd)) zd)) (zk (i:=4) sc_qq.nd rfl (Or.inl rfl))
    (zf (zM PassesOwn.never rfl (z6 rfl T.n_range (zg (zh 4) zd)) (zk (i:=5) sc_qq.nd rfl (Or.inl rfl))
     (w_pss_cons (w_ps_set (i:=6) sc_qq.nd rfl (Or.inl rfl) (uZ (zS vE (zl wk (zh 4) (zh 5)) ze (zr _)) (xr (zS vE (zl wk (zh 4) (zh 5)) (zl wk (zq zx (by rfl) T.n_len yN (zg (zh 1) zd)) ze) (zr _)))))
     (w_pss_cons (w_ps_set (i:=7) sc_qq.nd rfl (Or.inl rfl) (zp c_qo (hr.mono (by omega)) (zg (zh 0) (zI ze zd))))
     (zf (zH (yB (zJ z8 (zD (zg (zh 6) (zo (zS xX (zh 7) ze (zr _)) (zo (zS xX (zh 7) ze (zr _)) (zo (zS xX (zh 7) ze (zr _)) (zI xf (zo (uZ (zS vE (zh 5) (zl xp (zh 7) (zh 4)) (zr _)) (xr (zS vE (zh 7) ze (zr _)))) zd))))))) (zh 2) (fun _ _=>rfl)))
      (zf (zC (yk PySem.F.plainAttrs_list PySem.F.slot_list_append PySem.F.type_list_append zL (zh 3) (XX (zV (zo (zJ z8 (zh 1) (zh 5) (fun _ _=>rfl)) (zo (zJ z8 (zh 1) (zh 4) (fun _ _=>rfl)) zd))) zd))))
      zt)))))))
   (w_pss_cons (w_ps_set (i:=8) sc_qq.nd rfl (Or.inl rfl) (zp c_qo (hr.mono (by omega)) (zg (zh 0) (wc (zl yL (zq zx (by rfl) T.n_len yN (zg (zh 3) zd)) ze) zd))))
   (zf (zj (zl Yb (xc vz (zh 3) (yT (zh 8)) wQ) (xc vz (zh 3) wQ (yT (zh 8)))))))))) ?_
  refine⟨_,rfl,l,6,rfl,sl,by decide,fun way H1 g1 g2 s1 x1=>?_⟩
  refine⟨(by show 0≤sizeLine;decide),fun p hp=>?_⟩
  have npl:=s1.ne hp
  have hh1:=x1 _ _ hh nhl
  have nhp:h≠p:=fun z=>by rw[z,hp] at hh1;cases hh1
  refine⟨_,rfl,h,_,rfl,.inl (SqL.of ((Same.new hp) _ _ hh1)),_,rfl,?_⟩
  rw[List.length_map]
  refine⟨by omega,by omega,?_⟩
  rw[show((hs.length:Int)).toNat=hs.length by omega]
  have St:∀ {rs:List V}{ls:List (Int×Int)}{H':Hp},LnAt H' rs ls→True:=fun _=>trivial
  refine for_range (lo:=0) (fun j σ H'=>∃ (o4 o5 o6 o7:Option V) (rs:List V) (ls:List (Int×Int)),σ=[some (.ref l),some (.ref h),some (.int way),some (.ref p),o4,o5,o6,o7,none]∧H' p=some (.lst rs)∧LnAt H' rs ls∧Lfd hs ls j 0∧XsAt H' l∧Ext l H1 H') ?_ ?_ ?_
  ·exact⟨none,none,none,none,[],[],rfl,upd_same,⟨rfl,fun i r q e=>by cases e⟩,⟨List.nodup_nil,(fun q hq=>nomatch hq),Nat.zero_le _⟩,s1.new hp,Ext.new hp⟩
  ·rintro j σ H2 hj ⟨o4,o5,o6,o7,rs,ls,rfl,hp2,L,F,s2,x2⟩
   refine⟨_,rfl,0+(j:Int),rfl,by omega,by omega,?_⟩
   rw[show(0+(j:Int)).toNat=j by omega]
   refine for_range (lo:=0) (fun i σ H'=>∃ (o5 o6 o7:Option V) (rs:List V) (ls:List (Int×Int)),σ=[some (.ref l),some (.ref h),some (.int way),some (.ref p),some (.int (0+(j:Int))),o5,o6,o7,none]∧H' p=some (.lst rs)∧LnAt H' rs ls∧Lfd hs ls j i∧XsAt H' l∧Ext l H1 H') ?_ ?_ ?_
   ·exact⟨o5,o6,o7,rs,ls,rfl,hp2,L,F,s2,x2⟩
   ·rintro i σ H3 hi ⟨o5,o6,o7,rs,ls,rfl,hp3,L,F,s3,x3⟩
    have hj2:hs[j]?=some hs[j]:=by simp[hj]
    have hi2:hs[i]?=some (hs[i]'(by omega)):=by simp
    have hh3:=x3 _ _ hh1 nhl
    refine Wl (fun hJ=>⟨_,rfl,_,rfl,_,_,rfl,rfl,rfl,_,rfl,ite2 (fun _=>hJ _) (fun _=>⟨_,rfl,_,rfl,_,_,rfl,rfl,_,rfl,h,_,rfl,.inl (SqL.of hh3),_,_,rfl,rfl,rfl,hJ _⟩)⟩) (fun bb=>?_)
    refine⟨_,rfl,l,6,rfl,s3,by decide,fun dr H4 a1 a2 s4 x4=>?_⟩
    refine⟨_,rfl,_,rfl,_,_,rfl,rfl,_,rfl,_,_,rfl,rfl,_,rfl,_,_,rfl,rfl,?_⟩
    refine Wl (fun hJ=>⟨_,rfl,_,rfl,_,rfl,_,_,rfl,rfl,(by show(0:Int)<0+(j:Int);omega),rfl,_,rfl,ite2 (fun _=>hJ _) (fun _=>⟨_,rfl,rfl,hJ _⟩)⟩) (fun bb2=>?_)
    have hp4:=x4 _ _ hp3 npl
    have hh4:=x4 _ _ hh3 nhl
    have L4:LnAt H4 rs ls:=⟨L.1,fun n r pr e1 e2=>by
     obtain⟨q,e,t⟩:=L.2 n r pr e1 e2
     exact⟨q,e,x4 _ _ t fun z=>by
      obtain⟨ns,e3,_⟩:=s3
      rw[z,e3] at t
      cases t⟩⟩
    have X4:=x3.trans x4
    refine⟨by show 6≤sizeLine;decide,fun q6 hq6=>?_⟩
    have y5:∀ o,Same H4 (L2.upd H4 q6 o):=fun o=>Same.new hq6
    have u5:∀ o,L2.upd H4 q6 o q6=some o:=fun o=>upd_same
    generalize L2.upd H4 q6=f at *
    obtain⟨z,hz⟩:=zb5 (b1:=_) (b2:=_) (b3:=_) (b4:=_) (b5:=_) (b6:=_) g1 g2
    refine⟨_,rfl,q6,_,_,_,rfl,rfl,SqL.of (u5 _),hz,_,rfl,?_⟩
    have hp5:=fun o=>y5 o _ _ hp4
    have hh5:=fun o=>y5 o _ _ hh4
    have L5:=fun o=>L4.same (y5 o)
    have s5:=fun o=>s4.same (y5 o)
    have X5:=fun o=>X4.trans (Ext.same (y5 o))
    refine ite2 (fun _=>?_) (fun _=>?_)
    ·refine⟨_,rfl,.inl ⟨rfl,_,SqL.of (hp5 _)⟩,_,rfl,_,rfl,h,_,_,V.int (hs[i]'(by omega)),rfl,rfl,SqL.of (hh5 _),(by rw[Int.zero_add];exact vW (by simp)),_,rfl,_,rfl,h,_,_,V.int hs[j],rfl,rfl,SqL.of (hh5 _),(by rw[Int.zero_add];exact vW (by simp[hj])),(by show 2≤sizeLine;decide),fun qt hqt=>?_⟩
     have y6:=Same.new (o:=HO.tup [V.int (hs[i]'(by omega)),V.int hs[j]]) hqt
     have l66:=F.le
     refine⟨p,_,_,rfl,rfl,y6 _ _ (hp5 _),(by rw[L.1];have:=WD hs.length l12;have:=VS hj;exact zi (by omega)),?_⟩
     refine⟨_,_,_,_,ls++[(hs[i]'(by omega),hs[j])],rfl,upd_same,LnAt.updL (y6 _ _ (hp5 _)) (LnAt.snoc (p:=(hs[i]'(by omega),hs[j])) ((L5 _).same y6) (q:=qt) upd_same),F.add wh hi hi2 hj2,((s5 _).same y6).upd npl.symm.symm,?_⟩
     intro b o e nb
     rw[upd_ne (ne_of_none e hp)]
     exact((X5 _).trans (Ext.same y6)) b o e nb
    ·exact⟨_,_,_,rs,ls,rfl,hp5 _,L5 _,F.skip,s5 _,X5 _⟩
   ·rintro σ H3 ⟨o5,o6,o7,rs,ls,rfl,hp3,L,F,s3,x3⟩
    exact⟨_,_,_,_,rs,ls,rfl,hp3,L,F.row,s3,x3⟩
  ·rintro σ H2 ⟨o4,o5,o6,o7,rs,ls,rfl,hp2,L,F,s2,x2⟩
   refine⟨_,rfl,_,rfl,p,_,rfl,.inl (SqL.of hp2),_,_,rfl,rfl,l,_,rfl,s2,by omega,fun d H3 a1 a2 s3 x3=>?_⟩
   obtain⟨n,rfl⟩:∃ n:Nat,d=n:=⟨d.toNat,by omega⟩
   have hp3:=x3 _ _ hp2 npl
   have L3:LnAt H3 rs ls:=⟨L.1,fun n r pr e1 e2=>by
      obtain⟨q,e,t⟩:=L.2 n r pr e1 e2
      exact⟨q,e,x3 _ _ t fun z=>by
       obtain⟨ns,e3,_⟩:=s2
       rw[z,e3] at t
       cases t⟩⟩
   refine⟨_,rfl,_,rfl,_,rfl,p,_,rfl,SqL.of hp3,fun q1 hq1=>?_⟩
   have y4:=Same.new (o:=HO.lst (wN rs (some (n:Int)) none)) hq1
   refine⟨_,rfl,_,rfl,_,rfl,p,_,rfl,SqL.of (y4 _ _ hp3),fun q2 hq2=>?_⟩
   have y5:=Same.new (o:=HO.lst (wN rs none (some (n:Int)))) hq2
   have hnl:n≤rs.length:=by omega
   have l66:=F.le
   have:=WD hs.length l12
   have l1:=yp rs (some (n:Int)) none
   have l2:=yp rs none (some (n:Int))
   have lL:=L.1
   refine⟨q1,q2,_,_,rfl,rfl,y5 _ _ upd_same,upd_same,(Nat.le_of_lt (zi (by omega))),fun q hq=>?_⟩
   have y6:=Same.new (o:=HO.lst (wN rs (some (n:Int)) none++wN rs none (some (n:Int)))) hq
   have y456:=(y4.trans y5).trans y6
   refine k q (rs.drop n++rs.take n) (ls.drop n++ls.take n) _ ((((x1.trans x2).trans x3).trans (Ext.same (y4.trans y5))).free ((s3.same (y4.trans y5)).ne hq) hq) (by rw[upd_same,zeq hnl,zep hnl]) (L3.same y456).cut (F.ls wh) (s3.same y456) ?_
   exact(x1.trans x2).trans (x3.trans (Ext.same y456))
theorem Wu {hs:List Int}{ls:List (Int×Int)}{x y:Int}(L:Ls hs ls) (h:adB ls x y=true):y∈hs:=by
 unfold adB at h
 rw[Bool.or_eq_true,decide_eq_true_eq,decide_eq_true_eq] at h
 rcases h with h | h
 ·exact(L.ok _ h).2.1
 ·exact(L.ok _ h).1
noncomputable def fN (F:Int→Option Nat) (x:Int):Nat:=(F x).getD 0
theorem YA {F:Int→Option Nat}{x:Int}(h:F x≠none):F x=some (fN F x):=by
 unfold fN
 cases e:F x with
 |none=>exact absurd e h
 |some d=>rfl
structure Qu (ls:List (Int×Int)) (left:List Int) (s:Int) (r:Nat) (F:Int→Option Nat) (us row:List Int):Prop where
 s0:s∈us
 d:∀ x∈us,F x≠none
 sub:∀ x∈row,x∈us
 nd:row.Nodup
 srt:row.Pairwise fun x y=>fN F x≤fN F y
 hi:∀ h∈row.head?,∀ x∈row,fN F x≤fN F h+1
 old:∀ x∈us,x∉row→fN F x<r→∀ y∈left,adB ls x y=true→y∈us
theorem Qu.all {ls:List (Int×Int)}{left:List Int}{s:Int}{r:Nat}{F:Int→Option Nat}{us row:List Int}(hF:FP ls left s r F) (q:Qu ls left s r F us row):∀ {j:Nat}{z:Int},F z=some j→(∀ h∈row.head?,j≤fN F h)→z∈us
 |0,z,hz,_=>by rw[hF.z1 z hz];exact q.s0
 |j+1,z,hz,hj=>by
  obtain⟨y,hy,ad⟩:=hF.pr z j hz
  have hyu:y∈us:=q.all hF hy fun h hh=>by have:=hj h hh;omega
  have fy:fN F y=j:=by unfold fN;rw[hy];rfl
  refine q.old y hyu (fun hr=>?_) ?_ z (hF.mem z _ hz).1 ad
  ·cases row with
   |nil=>cases hr
   |cons h t =>
    have h1:=hj h (by simp)
    rcases List.mem_cons.mp hr with e | e
    ·rw[e] at fy;omega
    ·have:=(List.pairwise_cons.mp q.srt).1 y e
     omega
  ·have:=(hF.mem z _ hz).2
   omega
structure Qj (ls:List (Int×Int)) (left:List Int) (s:Int) (r:Nat) (F:Int→Option Nat) (h:Int) (us row dn:List Int):Prop where
 s0:s∈us
 my:h∈us
 d:∀ x∈us,F x≠none
 sub:∀ x∈row,x∈us
 nd:row.Nodup
 nh:h∉row
 srt:row.Pairwise fun x y=>fN F x≤fN F y
 hi:∀ x∈row,fN F h≤fN F x∧fN F x≤fN F h+1
 old:∀ x∈us,x∉row→x≠h→fN F x<r→∀ y∈left,adB ls x y=true→y∈us
 dn:fN F h<r→∀ y∈dn,y∈left→y∈us
 all:∀ z j,F z=some j→j≤fN F h→z∈us
theorem Qu.start {ls:List (Int×Int)}{left:List Int}{s:Int}{r:Nat}{F:Int→Option Nat}{us row:List Int}{h:Int}(hF:FP ls left s r F) (q:Qu ls left s r F us (h::row)):Qj ls left s r F h us row []:=by
 obtain⟨n1,n2⟩:=List.nodup_cons.mp q.nd
 obtain⟨s1,s2⟩:=List.pairwise_cons.mp q.srt
 refine⟨q.s0,q.sub h (by simp),q.d,fun x hx=>q.sub x (by simp[hx]),n2,n1,s2,fun x hx=>⟨s1 x hx,q.hi h (by simp) x (by simp[hx])⟩,fun x hx hr hn=>q.old x hx fun z=>?_,fun _ y hy=>(nomatch hy),fun z j hz hj=>q.all hF hz fun h' hh=>?_⟩
 ·rcases List.mem_cons.mp z with e | e
  ·exact hn e
  ·exact hr e
 ·have:h=h':=by simpa using hh
  rw[← this];exact hj
theorem Qj.skip {ls:List (Int×Int)}{left:List Int}{s:Int}{r:Nat}{F:Int→Option Nat}{us row dn:List Int}{h o:Int}(q:Qj ls left s r F h us row dn) (c:¬ (o∈left∧o∉us∧fN F h<r)):Qj ls left s r F h us row (dn++[o]) :=
 { q with dn:=fun hr y hy hl=>(List.mem_append.mp hy).elim (fun z=>q.dn hr y z hl) fun z=>Classical.byContradiction fun hn=>c (by rw[List.mem_singleton.mp z] at hl hn;exact⟨hl,hn,hr⟩) }
theorem Qj.new {ls:List (Int×Int)}{left:List Int}{s:Int}{r:Nat}{F:Int→Option Nat}{us row dn:List Int}{h o:Int}(hF:FP ls left s r F) (q:Qj ls left s r F h us row dn) (h1:o∈left) (h2:o∉us) (h3:fN F h<r) (ad:adB ls h o=true):F o=some (fN F h+1):=by
 obtain⟨e,he,hle⟩:=hF.cl h (fN F h) o (YA (q.d h q.my)) h3 h1 ad
 have:¬ e≤fN F h:=fun z=>h2 (q.all o e he z)
 rw[he,show e=fN F h+1 by omega]
theorem Qj.add {ls:List (Int×Int)}{left:List Int}{s:Int}{r:Nat}{F:Int→Option Nat}{us row dn:List Int}{h o:Int}(hF:FP ls left s r F) (q:Qj ls left s r F h us row dn) (h1:o∈left) (h2:o∉us) (h3:fN F h<r) (ad:adB ls h o=true):Qj ls left s r F h (us++[o]) (row++[o]) (dn++[o]):=by
 have ho:=q.new hF h1 h2 h3 ad
 have fo:fN F o=fN F h+1:=by unfold fN;rw[ho];rfl
 have inl:∀ {x},x∈us→x∈us++[o]:=fun hx=>List.mem_append.mpr (.inl hx)
 refine⟨inl q.s0,inl q.my,fun x hx=>?_,fun x hx=>?_,?_,fun hx=>?_,?_,fun x hx=>?_,fun x hx hr hn hlt y hy hxy=>?_,fun _ y hy hl=>?_,fun z j hz hj=>inl (q.all z j hz hj)⟩
 ·rcases List.mem_append.mp hx with z | z
  ·exact q.d x z
  ·rw[List.mem_singleton.mp z,ho];simp
 ·rcases List.mem_append.mp hx with z | z
  ·exact inl (q.sub x z)
  ·rw[List.mem_singleton.mp z];simp
 ·rw[List.nodup_append]
  exact⟨q.nd,by simp,fun u hu v hv e=>h2 (by rw[List.mem_singleton.mp hv] at e;rw[← e];exact q.sub u hu)⟩
 ·rcases List.mem_append.mp hx with z | z
  ·exact q.nh z
  ·exact h2 (by rw[← List.mem_singleton.mp z];exact q.my)
 ·rw[List.pairwise_append]
  refine⟨q.srt,by simp,fun u hu v hv=>?_⟩
  rw[List.mem_singleton.mp hv,fo]
  exact(q.hi u hu).2
 ·rcases List.mem_append.mp hx with z | z
  ·exact q.hi x z
  ·rw[List.mem_singleton.mp z,fo]
   exact⟨by omega,by omega⟩
 ·rcases List.mem_append.mp hx with z | z
  ·exact inl (q.old x z (fun w=>hr (List.mem_append.mpr (.inl w))) hn hlt y hy hxy)
  ·exact absurd (List.mem_append.mpr (.inr z)) hr
 ·rcases List.mem_append.mp hy with z | z
  ·exact inl (q.dn h3 y z hl)
  ·exact List.mem_append.mpr (.inr z)
theorem Qj.done {ls:List (Int×Int)}{left:List Int}{s:Int}{r:Nat}{F:Int→Option Nat}{us row dn:List Int}{h:Int}(q:Qj ls left s r F h us row dn) (hd:∀ y,adB ls h y=true→y∈dn):Qu ls left s r F us row:=by
 refine⟨q.s0,q.d,q.sub,q.nd,q.srt,fun h' hh x hx=>?_,fun x hx hr hlt y hy hxy=>?_⟩
 ·have hm:h'∈row:=List.mem_of_mem_head? hh
  have:=(q.hi h' hm).1
  have:=(q.hi x hx).2
  omega
 ·by_cases c:x=h
  ·subst c
   exact q.dn hlt y (hd y hxy) hy
  ·exact q.old x hx hr c hlt y hy hxy
def sV (F:Int→Option Nat) (x:Int):V:=.int ((fN F x:Nat):Int)
def zg6:Sp:=fun vs H Q _=>∃ (q l:Addr) (rs:List V) (hs lt:List Int) (s:Int) (ls:List (Int×Int)) (r:Nat),vs=[.ref q,.ref l,.int s,.int (r:Int)]∧H q=some (.lst rs)∧LnAt H rs ls∧Hs hs∧Ls hs ls∧H l=some (.lst ((s::lt).map V.int))∧(∀ x∈s::lt,x∈hs) ∧
 ∀ (d:Addr) (us:List Int) (H':Hp),H d=none→H' d=some (.dK (tabV (sV (stp ls r (s::lt))) us))→us.Nodup→(∀ x,x∈us↔stp ls r (s::lt) x≠none)→Same H H'→Q (.ref d) H'
theorem zcf (T:Txt w K mg a):FnOk P w K mg base CX0 2 a.f_qs a.d_qs ["_law_lines_here", "_law_left", "_law_leader", "_law_reach"] zg6:=by
 have c_qr:Callee P w K mg base "_law_near" a.f_qr a.d_qr ["_law_lines_here", "_law_hand"] 1 zbK:=⟨Uy T,T.g_qr,T.F_qr.kp,T.b_qr⟩
 refine T.F_qs.ok sc_qs (fun vs H Q E h=>?_) (fun cdv A outer s H vs Q E hr h=>?_)
 ·obtain⟨q,l,rs,hs,lt,s,ls,r,rfl,_⟩:=h
  rfl
 ·obtain⟨q,l,rs,hs,lt,b0,ls,r,rfl,hq,L,wh,wl,hl,hsub,k⟩:=h
  have hu:=xm hr
  have hF:=stp_fp (ls:=ls) (r:=r) (s:=b0) (left:=lt)
  generalize hFe:stp ls r (b0::lt)=F at *
  generalize hle:b0::lt=left at *
  have l12:=wh.l12
  have hsl:b0∈left:=by rw[← hle];exact List.mem_cons_self
  have f0:fN F b0=0:=by unfold fN;rw[hF.z];rfl
  have un:∀ n:Nat,n≤3→(A.deeper (PyProof.Rows.envOfC "_law_steps" (defScope uF) s.heap.objs.size a.f_qs cdv)).units+n+2<cLine:=fun n hn=>by
   have:=hr.units
   omega
  refine zU (w_pss_cons (w_ps_set (i:=4) sc_qs.nd rfl (Or.inl rfl) (wS (x8 (zh 2) ze wP) rfl rfl (by intro z;cases z) (by decide)))
   (w_pss_cons (w_ps_set (i:=5) sc_qs.nd rfl (Or.inl rfl) (zD (zg (zh 2) zd)))
   (w_pss_cons (z5 PassesOwn.never (zn (Yc Wm Wn) (zh 5) (zD zd) (zr _))
    (w_pss_cons (w_ps_set (i:=6) sc_qs.nd rfl (Or.inl rfl) (yk PySem.F.plainAttrs_list PySem.F.slot_list_pop PySem.F.type_list_pop ul (zh 5) (zI ze zd)))
    (zf (zM PassesOwn.never rfl (zz (zp c_qr (hr.mono (by omega)) (zg (zh 0) (zg (zh 6) zd)))) (zk (i:=7) sc_qs.nd rfl (Or.inl rfl))
     (zf (zH (XW (yj (zn yX (zh 7) (zh 1) (by with_unfolding_all rfl)) (yj (yS (ym hu (zh 7) (zh 4))) (yf (zn xX (zR hu (zh 4) (zh 6) (fun _ _=>rfl)) (zh 3) (zr _))))))
      (w_pss_cons (xC hu (zh 4) (zh 7) (zl yL (zR hu (zh 4) (zh 6) (fun _ _=>rfl)) ze) rfl)
      (zf (zC (yk PySem.F.plainAttrs_list PySem.F.slot_list_append PySem.F.type_list_append zL (zh 5) (zg (zh 7) zd)))))
      zt))))))
   (zf (zj (zh 4)))))) ?_
  refine fun d hd=>?_
  refine⟨_,rfl,?_⟩
  refine⟨upd_same,[(Sum.inl b0,V.int 0)],rfl,(by show 1≤15;decide),?_⟩
  rw[yO,xy (kvs:=[(Sum.inl b0,V.int 0)]) (by simp)]
  have ht1:([(Sum.inl b0,V.int 0)]:List (Key×V))=tabV (sV F) [b0]:=by
   show _=[(Sum.inl b0,V.int ((fN F b0:Nat):Int))]
   rw[f0]
   rfl
  rw[ht1]
  have sd:=Same.new (o:=HO.dK (tabV (sV F) [b0])) hd
  have hdd:=upd_same (H:=H) (a:=d) (o:=HO.dK (tabV (sV F) [b0]))
  generalize upd H d (HO.dK (tabV (sV F) [b0]))=H3 at *
  refine⟨_,rfl,(by show 1≤sizeLine;decide),fun rw0 hr0=>?_⟩
  have nrd:d≠rw0:=fun z=>by rw[z,hr0] at hdd;cases hdd
  have sr:=Same.new (o:=HO.lst [V.int b0]) hr0
  have hr00:=sd.free hr0
  refine⟨fun m σ H'=>∃ (us row:List Int) (o6 o7:Option V),m=row.length+2*(hs.length-us.length)∧σ=[some (.ref q),some (.ref l),some (.int b0),some (.int (r:Int)),some (.ref d),some (.ref rw0),o6,o7]∧H' d=some (.dK (tabV (sV F) us))∧H' rw0=some (.lst (row.map V.int))∧us.Nodup∧(∀ z∈us,z∈hs)∧row.length≤us.length∧Qu ls left b0 r F us row∧Same H H',⟨_,[b0],[b0],none,none,rfl,rfl,sr _ _ hdd,upd_same,(by simp),?_,Nat.le_refl _,?_,sd.trans sr⟩,?_⟩
  ·intro z hz
   rw[List.mem_singleton.mp hz]
   exact hsub b0 hsl
  ·refine⟨by simp,fun x hx=>?_,fun x hx=>hx,by simp,by simp,fun h hh x hx=>?_,fun x hx hn=>absurd hx hn⟩
   ·rw[List.mem_singleton.mp hx,hF.z];simp
   ·have e:b0=h:=by simpa using hh
    rw[List.mem_singleton.mp hx,e]
    omega
  rintro m σ H4 ⟨us,row,o6,o7,rfl,rfl,hd4,hr4,nd,hsu,hle2,QU,s4⟩
  have lus:=yo nd hsu
  refine⟨_,rfl,(by show 0≤sizeLine;decide),fun e he=>?_⟩
  have se:=Same.new (o:=HO.lst []) he
  cases row with
  |nil =>
   refine .inl ⟨rw0,e,_,_,fun _=>true,0,rfl,rfl,.inl ⟨SqL.of (se _ _ hr4),SqL.of upd_same⟩,rfl,un 0 (by omega),(fun j x y hx=>by cases hx),_,rfl,z4 rfl ?_⟩
   refine⟨_,rfl,k d us _ hd (se _ _ hd4) nd (fun x=>⟨QU.d x,fun hx=>?_⟩) (s4.trans se)⟩
   exact QU.all hF (YA hx) fun h hh=>(by simp at hh)
  |cons z row =>
   refine .inr ⟨rw0,e,_,_,rfl,rfl,SqL.of (se _ _ hr4),SqL.of upd_same,(by simp),Nat.lt_of_le_of_lt (Nat.le_add_right _ 2) (un 0 (by omega)),_,rfl,vt ?_⟩
   refine⟨_,fun σ' H' h=>h,?_⟩
   refine⟨_,rfl,.inl ⟨rfl,_,SqL.of (se _ _ hr4)⟩,rw0,_,0,0,V.int z,rfl,rfl,se _ _ hr4,by decide,by decide,(by simp[seqIndex?]),rfl,?_⟩
   have hr5:(upd (upd H4 e (HO.lst [])) rw0 (HO.lst (((z::row).map V.int).eraseIdx 0))) rw0=some (.lst (row.map V.int)):=upd_same
   have hd5:(upd (upd H4 e (HO.lst [])) rw0 (HO.lst (((z::row).map V.int).eraseIdx 0))) d=_:=(upd_ne nrd).trans (se _ _ hd4)
   have s5:Same H (upd (upd H4 e (HO.lst [])) rw0 (HO.lst (((z::row).map V.int).eraseIdx 0))):=Same.updF (s4.trans se) hr00
   generalize upd (upd H4 e (HO.lst [])) rw0 (HO.lst (((z::row).map V.int).eraseIdx 0))=H5 at *
   refine⟨_,rfl,_,rfl,q,z,rs,hs,ls,rfl,s5 _ _ hq,L.same s5,wh,wl,fun p H6 hp0 s6 hp6=>?_⟩
   refine⟨p,rfl,⟨_,SqL.of hp6⟩,?_⟩
   have npd:p≠d:=fun z=>by rw[z,hd5] at hp0;cases hp0
   have npr:p≠rw0:=fun z=>by rw[z,hr5] at hp0;cases hp0
   rw[List.length_cons] at hle2
   refine for_list (xs:=(hs.filter (adB ls z)).map V.int) (fun i σ H'=>∃ (us' row':List Int) (o7:Option V),σ=[some (.ref q),some (.ref l),some (.int b0),some (.int (r:Int)),some (.ref d),some (.ref rw0),some (.int z),o7]∧H' d=some (.dK (tabV (sV F) us'))∧H' rw0=some (.lst (row'.map V.int))∧H' p=some (.lst ((hs.filter (adB ls z)).map V.int))∧us'.Nodup∧(∀ v∈us',v∈hs)∧row'.length≤us'.length∧Qj ls left b0 r F z us' row' ((hs.filter (adB ls z)).take i)∧Same H H'∧row'.length+2*(hs.length-us'.length)≤row.length+2*(hs.length-us.length)) ?_ ?_ ?_ ?_
   ·exact⟨us,row,o7,rfl,s6 _ _ hd5,s6 _ _ hr5,hp6,nd,hsu,by omega,QU.start hF,s5.trans s6,Nat.le_refl _⟩
   ·rintro i σ H' hi ⟨us',row',o7,_,_,_,hp',_⟩
    exact SqL.of hp'
   ·rintro i v σ H7 hi ⟨us',row',o7,rfl,hd7,hr7,hp7,nd',hsu',hle',J,s7,hm⟩
    rw[List.getElem?_map] at hi
    obtain⟨v,hv,rfl⟩:=Option.map_eq_some_iff.mp hi
    have et:(hs.filter (adB ls z)).take (i+1)=(hs.filter (adB ls z)).take i++[v]:=by
     rw[List.take_add_one,hv]
     rfl
    have lus':=yo nd' hsu'
    have hvh:=List.mem_filter.mp (List.mem_of_getElem? hv)
    have sk:¬ (v∈left∧v∉us'∧fN F z<r)→∃ (us'' row'':List Int) (o7:Option V),([some (.ref q),some (.ref l),some (.int b0),some (.int (r:Int)),some (.ref d),some (.ref rw0),some (.int z),some (.int v)]:St)=[some (.ref q),some (.ref l),some (.int b0),some (.int (r:Int)),some (.ref d),some (.ref rw0),some (.int z),o7]∧H7 d=some (.dK (tabV (sV F) us''))∧H7 rw0=some (.lst (row''.map V.int))∧H7 p=some (.lst ((hs.filter (adB ls z)).map V.int))∧us''.Nodup∧(∀ v∈us'',v∈hs)∧row''.length≤us''.length∧Qj ls left b0 r F z us'' row'' ((hs.filter (adB ls z)).take (i+1))∧Same H H7∧row''.length+2*(hs.length-us''.length)≤row.length+2*(hs.length-us.length):=fun c =>
     ⟨us',row',_,rfl,hd7,hr7,hp7,nd',hsu',hle',by rw[et];exact J.skip c,s7,hm⟩
    by_cases c1:v∈left
    ·refine⟨_,rfl,_,rfl,l,_,rfl,.inl (SqL.of (s7 _ _ hl)),rfl,ya _,_,rfl,iteB (by show inV (.int v) _=true;rw[yz];exact decide_eq_true c1) ?_⟩
     by_cases c2:v∈us'
     ·refine⟨_,rfl,_,rfl,d,_,rfl,zN hd7 c2,_,rfl,z4 rfl ?_⟩
      exact sk fun h=>h.2.1 c2
     ·refine⟨_,rfl,_,rfl,d,none,rfl,wB hd7 c2,_,rfl,vt ?_⟩
      refine⟨_,rfl,_,rfl,d,_,rfl,zN hd7 J.my,_,rfl,_,_,rfl,rfl,_,rfl,?_⟩
      by_cases c3:fN F z<r
      ·refine iteB (by simp;omega) ?_
       refine⟨_,rfl,_,rfl,d,_,rfl,zN hd7 J.my,_,_,rfl,rfl,_,rfl,_,rfl,d,_,rfl,DPut.k (k:=.inl v) hd7 (by rw[tabV_len];exact zi (by omega)),?_⟩
       have hFv:=J.new hF c1 c2 c3 hvh.2
       have ec:putK (tabV (sV F) us') (.inl v) (.int ((fN F z:Nat)+1:Int))=tabV (sV F) (us'++[v]):=by
        rw[yW c2]
        refine zQ fun x hx=>?_
        by_cases e:x=v
        ·rw[if_pos e,e]
         show _=V.int ((fN F v:Nat):Int)
         have:fN F v=fN F z+1:=by unfold fN;rw[hFv];rfl
         rw[this]
         rfl
        ·rw[if_neg e]
       rw[ec]
       have hR:=(upd_ne (o:=HO.dK (tabV (sV F) (us'++[v]))) nrd.symm).trans hr7
       have nd2:(us'++[v]).Nodup:=by
        rw[List.nodup_append]
        exact⟨nd',by simp,fun a ha b hb e=>c2 (by rw[List.mem_singleton.mp hb] at e;rw[← e];exact ha)⟩
       have hsub2:∀ u∈us'++[v],u∈hs:=fun u hu=>(List.mem_append.mp hu).elim (hsu' u) fun e=>by rw[List.mem_singleton.mp e];exact hvh.1
       have lus2:=yo nd2 hsub2
       rw[List.length_append,List.length_singleton] at lus2
       refine⟨_,rfl,.inl ⟨rfl,_,SqL.of hR⟩,_,rfl,rw0,_,_,rfl,rfl,hR,(by rw[List.length_map];exact zi (by omega)),?_⟩
       refine⟨us'++[v],row'++[v],_,rfl,(upd_ne nrd).trans upd_same,?_,?_,nd2,hsub2,by simp;exact hle',by rw[et];exact J.add hF c1 c2 c3 hvh.2,Same.updF (Same.updF s7 hd) hr00,by simp;omega⟩
       ·rw[upd_same,List.map_append]
        rfl
       ·rw[upd_ne npr,upd_ne npd]
        exact hp7
      ·refine z4 (by simp;omega) ?_
       exact sk fun h=>c3 h.2.2
    ·refine⟨_,rfl,_,rfl,l,_,rfl,.inl (SqL.of (s7 _ _ hl)),rfl,ya _,_,rfl,z4 (by show inV (.int v) _=false;rw[yz];exact decide_eq_false c1) ?_⟩
     exact sk fun h=>c1 h.1
   ·rintro σ H7 ⟨us',row',o7,rfl,hd7,hr7,hp7,nd',hsu',hle',J,s7,hm⟩
    rw[List.length_map,List.take_length] at J
    refine⟨_,?_,us',row',some (.int z),o7,rfl,rfl,hd7,hr7,nd',hsu',hle',J.done fun v hv=>List.mem_filter.mpr ⟨Wu wl hv,hv⟩,s7⟩
    rw[List.length_cons]
    omega
open L2.Sco (PT PsAt)
theorem Yz {p:Int→Bool}:∀ {l:List Int}{y m:Int},l.Pairwise (· < ·)→l.find? p=some y→m∈l→p m=true→y≤m
 |[],y,m,_,h,_,_=>by cases h
 |x::l,y,m,up,h,hm,pm=>by
  obtain⟨u1,u2⟩:=List.pairwise_cons.mp up
  rw[List.find?_cons] at h
  cases hx:p x with
  |true =>
   rw[hx] at h
   cases h
   rcases List.mem_cons.mp hm with e | e
   ·rw[e];exact Int.le_refl _
   ·have:=u1 m e;omega
  |false =>
   rw[hx] at h
   rcases List.mem_cons.mp hm with e | e
   ·rw[e,hx] at pm;cases pm
   ·exact Yz u2 h e pm
def nrb (ls:List (Int×Int)) (hs:List Int) (F:Int→Option Nat) (x:Int):List Int:=(hs.filter (adB ls x)).filter fun y=>decide (F y≠none∧fN F y<fN F x)
theorem Vo {ls:List (Int×Int)}{hs left:List Int}{s:Int}{r:Nat}{F:Int→Option Nat}(hF:FP ls left s r F) (wl:Ls hs ls) (up:left.Pairwise (· < ·)){x:Int}(hx:F x≠none) :
  (nrb ls hs F x=[]→par ls left F x=none)∧∀ m∈nrb ls hs F x,(∀ y∈nrb ls hs F x,m≤y)→par ls left F x=some m:=by
 have hx':=YA hx
 cases hd:fN F x with
 |zero =>
  rw[hd] at hx'
  have e:nrb ls hs F x=[]:=by
   unfold nrb
   rw[List.filter_eq_nil_iff]
   intro y _ h
   have:=(of_decide_eq_true h).2
   omega
  refine⟨fun _=>?_,fun m hm=>?_⟩
  ·unfold par
   rw[hx']
  ·rw[e] at hm;cases hm
 |succ d =>
  rw[hd] at hx'
  obtain⟨y0,h1,h2,h3,h4⟩:=ui hF hx'
  have f0:fN F y0=d:=by unfold fN;rw[h3];rfl
  have hy0:y0∈nrb ls hs F x:=List.mem_filter.mpr ⟨List.mem_filter.mpr ⟨Wu wl (by rw[xa];exact h4),by rw[xa];exact h4⟩,decide_eq_true ⟨by rw[h3];simp,by omega⟩⟩
  refine⟨fun e=>?_,fun m hm hle=>?_⟩
  ·rw[e] at hy0;cases hy0
  ·rw[h1]
   have a1:=hle y0 hy0
   obtain⟨b1,b2⟩:=List.mem_filter.mp hm
   obtain⟨b3,b4⟩:=of_decide_eq_true b2
   have b5:=(List.mem_filter.mp b1).2
   have fm:=YA b3
   have hr:=(hF.mem x _ hx').2
   obtain⟨e,he,hle2⟩:=hF.cl m (fN F m) x fm (by omega) (hF.mem x _ hx').1 (by rw[xa];exact b5)
   rw[hx'] at he
   cases he
   have e2:fN F m=d:=by omega
   rw[e2] at fm
   have e1:(left.filter fun y=>decide (F y=some d)).find? (fun y=>adB ls y x)=some y0:=by
    rw[← h1]
    unfold par
    rw[hx']
   have:=Yz (up.sublist List.filter_sublist) e1 (List.mem_filter.mpr ⟨(hF.mem m _ fm).1,by simp[fm]⟩) (by rw[xa];exact b5)
   rw[show y0=m by omega]
theorem xH {H:Hp}{d:Addr}{od:Obj}{f:Int→V}{us:List Int}{x:Int}(e:H d=some (.frz od (.dK (tabV f us)))) (h:x∈us):DGet H d (V.int x) (some (f x)):=.inl ⟨_,.inl x,.inr ⟨od,e⟩,rfl,(xI h).symm⟩
theorem Y5 {H:Hp}{d:Addr}{od:Obj}{f:Int→V}{us:List Int}{x:Int}(e:H d=some (.frz od (.dK (tabV f us)))) (h:x∉us):DGet H d (V.int x) none:=.inl ⟨_,.inl x,.inr ⟨od,e⟩,rfl,(wA h).symm⟩
structure PbAt (H:Hp) (t:Addr) (pf:Int→Option Int) (hs us:List Int) (bs:List (Int×Int)) (d l:Addr) (rs:List V):Prop where
 t:H t=some (.tup [.ref d,.ref l])
 d:H d=some (.dK (tabV (fun x=>opV (pf x)) us))
 l:H l=some (.lst rs)
 L:LnAt H rs bs
 nd:us.Nodup
 m:∀ x,x∈us↔x∈hs
def zg5:Sp:=fun vs H Q _=>∃ (h q:Addr) (rs:List V) (hs:List Int) (ls:List (Int×Int)) (r:Nat),vs=[.ref h,.ref q,.int (r:Int)]∧H h=some (.lst (hs.map V.int))∧H q=some (.lst rs)∧LnAt H rs ls∧Hs hs∧Ls hs ls ∧
 ∀ (t d l:Addr) (us:List Int) (rs':List V) (H':Hp),PbAt H' t (PF ls r hs.length hs) hs us (brs ls r hs) d l rs'→Same H H'→Q (.ref t) H'
theorem zce (T:Txt w K mg a):FnOk P w K mg base CX0 3 a.f_qt a.d_qt ["_law_hands_here", "_law_lines_here", "_law_reach"] zg5:=by
 have c_qr:Callee P w K mg base "_law_near" a.f_qr a.d_qr ["_law_lines_here", "_law_hand"] 1 zbK:=⟨Uy T,T.g_qr,T.F_qr.kp,T.b_qr⟩
 have c_qs:Callee P w K mg base "_law_steps" a.f_qs a.d_qs ["_law_lines_here", "_law_left", "_law_leader", "_law_reach"] 2 zg6:=⟨zcf T,T.g_qs,T.F_qs.kp,T.b_qs⟩
 refine T.F_qt.ok sc_qt (fun vs H Q E h=>?_) (fun cdv A outer s H vs Q E hr h=>?_)
 ·obtain⟨h,q,rs,hs,ls,r,rfl,_⟩:=h
  rfl
 ·obtain⟨h,q,rs,hs,ls,r,rfl,hh,hq,L,wh,wl,k⟩:=h
  have hu:=xm hr
  have l12:=wh.l12
  have un:∀ n:Nat,n≤3→(A.deeper (PyProof.Rows.envOfC "_law_way" (defScope uE) s.heap.objs.size a.f_qt cdv)).units+n+2<cLine:=fun n hn=>by
   have:=hr.units
   omega
  refine zU (w_pss_cons (w_ps_set (i:=3) sc_qt.nd rfl (Or.inl rfl) (zP yd (by rfl) T.n_list yR (zg (zh 0) zd)))
   (w_pss_cons (w_ps_set (i:=4) sc_qt.nd rfl (Or.inl rfl) yC)
   (w_pss_cons (w_ps_set (i:=5) sc_qt.nd rfl (Or.inl rfl) yC)
   (w_pss_cons (z5 PassesOwn.never (zn (Yc Wm Wn) (zh 3) (zD zd) (zr _))
    (w_pss_cons (w_ps_set (i:=6) sc_qt.nd rfl (Or.inr rfl) (zp c_qs (hr.mono (by omega)) (zg (zh 1) (zg (zh 3) (zo (zJ z8 (zh 3) ze (fun _ _=>rfl)) (zg (zh 2) zd))))))
    (w_pss_cons (uW (zM PassesOwn.never rfl (uy (zh 6)) (zk (i:=7) sc_qt.nd rfl (Or.inr rfl))
     (w_pss_cons (yb (i:=8) rfl sc_qt.nd rfl (Or.inl rfl) (N':=["_law_one", "_law_steps_here", "_law_hand"]) (t:=1) (caps:=[6,7]) ⟨rfl,rfl,rfl⟩ (zz (zp c_qr (hr.mono (by omega)) (zg (zh 1) (zg (zh 7) zd)))) (fun _=>(zk (i:=0) (show(["_law_one", "_law_steps_here", "_law_hand"]:List Str).Nodup by decide +kernel) rfl (Or.inl rfl))) (fun _=>(yt (XW (yj (yS (v5 hu (zh 0) (zh 1))) (yf (zn xX (zR hu (zh 1) (zh 0) (fun _ _=>rfl)) (zR hu (zh 1) (zh 2) (fun _ _=>rfl)) (zr _))))))) (fun _=>(zh 0)))
     (w_pss_cons (xC hu (zh 4) (zh 7) (u0 rfl (by rfl) T.n_min (zg (zh 8) zd) xt) rfl)
     (zf (xC hu (zh 5) (zh 7) (zJ z8 (zh 3) ze (fun _ _=>rfl)) rfl))))))
    (zf (yb (i:=3) rfl sc_qt.nd rfl (Or.inl rfl) (N':=["_law_hand", "_law_steps_here"]) (t:=1) (caps:=[6]) ⟨rfl,rfl,rfl⟩ (zz (zh 3)) (fun _=>(zk (i:=0) (show(["_law_hand", "_law_steps_here"]:List Str).Nodup by decide +kernel) rfl (Or.inl rfl))) (fun _=>(yt (yS (ym hu (zh 0) (zh 1))))) (fun _=>(zh 0)))))))
   (w_pss_cons (w_ps_set (i:=9) sc_qt.nd rfl (Or.inl rfl) wa)
   (w_pss_cons (zM PassesOwn.never rfl (zz (zq Sco.call_sortX (by rfl) T.n_sorted zT (zg (zh 1) zd))) (yU rfl (zG (zk (i:=10) sc_qt.nd rfl (Or.inl rfl)) (zG (zk (i:=11) sc_qt.nd rfl (Or.inl rfl)) yv)))
    (w_pss_cons (w_ps_set (i:=12) sc_qt.nd rfl (Or.inl rfl) (zV (zF (zq (YJ rfl) (by rfl) T.n_min bt_min (zo (zR hu (zh 5) (zh 10) (fun _ _=>rfl)) (zo (zR hu (zh 5) (zh 11) (fun _ _=>rfl)) zd))) (zF (zq (YK rfl) (by rfl) T.n_max zad (zo (zR hu (zh 5) (zh 10) (fun _ _=>rfl)) (zo (zR hu (zh 5) (zh 11) (fun _ _=>rfl)) zd))) zd))))
    (zf (zH (zn Vf (zJ yy (zh 12) ze (fun _ _=>rfl)) (zJ yy (zh 12) ze (fun _ _=>rfl)) (zr _))
     (zf (zC (xE hu (zh 9) (zh 12) (zV (zg (zh 10) (zg (zh 11) zd))) ⟨rfl,rfl,rfl,rfl⟩)))
     zt))))
   (zf (zj (zV (zg (zh 4) (zF (xD rfl (by rfl) T.n_sorted zT (zh 9)) zd))))))))))) ?_
  refine⟨_,rfl,h,_,rfl,.inl (SqL.of hh),fun l0 hl0=>?_⟩
  have s0:=Same.new (o:=HO.lst (hs.map V.int)) hl0
  refine fun dp hdp=>?_
  have s1:=s0.trans (Same.new (o:=HO.dK []) hdp)
  refine fun dl hdl=>?_
  have s2:=s1.trans (Same.new (o:=HO.dK []) hdl)
  have ndl:dp≠dl:=fun z=>by rw[← z,upd_same] at hdl;cases hdl
  have nlp:dp≠l0:=fun z=>by rw[z,upd_same] at hdp;cases hdp
  have nll:dl≠l0:=fun z=>by rw[z,upd_ne nlp.symm,upd_same] at hdl;cases hdl
  have fp:H dp=none:=s0.free hdp
  have fl:H dl=none:=s1.free hdl
  refine⟨fun m σ H'=>∃ (us left:List Int) (n:Nat) (l:Addr) (o6 o7 o8 o9 o10 o11 o12:Option V),m=left.length∧σ=[some (.ref h),some (.ref q),some (.int (r:Int)),some (.ref l),some (.ref dp),some (.ref dl),o6,o7,o8,o9,o10,o11,o12]∧H' dp=some (.dK (tabV (fun x=>opV (PF ls r hs.length hs x)) us))∧H' dl=some (.dK (tabV (fun x=>V.int (LF ls r hs.length hs x)) us))∧H' l=some (.lst (left.map V.int))∧left=hs.filter (fun x=>decide (x∉us))∧us.Nodup∧(∀ x∈us,x∈hs)∧(∀ x∈left,PF ls r hs.length hs x=PF ls r n left x∧LF ls r hs.length hs x=LF ls r n left x)∧left.length≤n∧Same H H',⟨_,[],hs,hs.length,l0,none,none,none,none,none,none,none,rfl,rfl,?_,upd_same,?_,?_,List.nodup_nil,(fun x hx=>(nomatch hx)),(fun x _=>⟨rfl,rfl⟩),Nat.le_refl _,s2⟩,?_⟩
  ·rw[upd_ne ndl]
   exact upd_same
  ·rw[upd_ne nll.symm,upd_ne nlp.symm]
   exact upd_same
  ·rw[List.filter_eq_self.mpr fun x hx=>by simp]
  rintro m σ H3 ⟨us,left,n,l,o6,o7,o8,o9,o10,o11,o12,rfl,rfl,hp3,hl3',hl3,eleft,ndu,hsu,hpf,hln,s3⟩
  have us12:us.length≤12:=Nat.le_trans (yo ndu hsu) l12
  have upl:left.Pairwise (· < ·):=by rw[eleft];exact wh.up.sublist List.filter_sublist
  have hlh:∀ x∈left,x∈hs:=fun x hx=>by rw[eleft] at hx;exact(List.mem_filter.mp hx).1
  have hlu:∀ x∈left,x∉us:=fun x hx=>by rw[eleft] at hx;exact of_decide_eq_true (List.mem_filter.mp hx).2
  refine⟨_,rfl,(by show 0≤sizeLine;decide),fun e he=>?_⟩
  have se:=Same.new (o:=HO.lst []) he
  cases hcl:left with
  |nil =>
   rw[hcl] at hl3
   refine .inl ⟨l,e,_,_,fun _=>true,0,rfl,rfl,.inl ⟨SqL.of (se _ _ hl3),SqL.of upd_same⟩,rfl,un 0 (by omega),(fun j x y hx=>by cases hx),_,rfl,z4 rfl ?_⟩
   have hmem:∀ x,x∈us↔x∈hs:=fun x=>⟨hsu x,fun hx=>Classical.byContradiction fun z=>by
    have:x∈left:=by rw[eleft];exact List.mem_filter.mpr ⟨hx,by simpa using z⟩
    rw[hcl] at this
    cases this⟩
   have s4:=s3.trans se
   have hp4:=se _ _ hp3
   have hd4:=se _ _ hl3'
   generalize upd H3 e (HO.lst [])=H4 at *
   refine fun df hdf=>?_
   have s5:=Same.new (o:=HO.dT []) hdf
   have hf5:=upd_same (H:=H4) (a:=df) (o:=HO.dT [])
   have s05:=s4.trans s5
   have fdf:H df=none:=s4.free hdf
   generalize upd H4 df (HO.dT [])=H5 at *
   obtain⟨ps0,e1,e2,e3⟩:=(L.same s05).ps (wl.bd wh)
   have l67:ps0.length≤66:=by
    have h1:=congrArg List.length e2
    rw[List.length_map] at h1
    have:=wl.le
    omega
   refine⟨_,rfl,q,ps0,rfl,by rw[e1];exact SqL.of (s05 _ _ hq),l67,e3,fun sl qs hsl pm up=>?_⟩
   have hq3:=xJ e3 pm up
   rw[e2] at hq3
   generalize qs.map (fun p=>V.ref p.1)=zs at hq3 ⊢
   have s6:=Same.new (o:=HO.lst zs) hsl
   have L6:=hq3.same s6
   have hsl6:=upd_same (H:=H5) (a:=sl) (o:=HO.lst zs)
   have hf6:=s6 _ _ hf5
   have hp6:=s6 _ _ (s5 _ _ hp4)
   have hd6:=s6 _ _ (s5 _ _ hd4)
   have s06:=s05.trans s6
   generalize upd H5 sl (HO.lst zs)=H6 at *
   refine⟨sl,rfl,⟨_,SqL.of hsl6⟩,?_⟩
   have lz:zs.length=(srt ls).length:=L6.1
   have ll:(srt ls).length≤66:=by rw[xh];exact wl.le
   have nfp:dp≠df:=fun z=>by rw[z,hf6] at hp6;cases hp6
   have nfl:dl≠df:=fun z=>by rw[z,hf6] at hd6;cases hd6
   have nfs:sl≠df:=fun z=>by rw[z,hf6] at hsl6;cases hsl6
   refine for_list (xs:=zs) (fun i σ H'=>∃ (js:List ((Int×Int)×PT)) (o10 o11 o12:Option V),σ=[some (.ref h),some (.ref q),some (.int (r:Int)),some (.ref l),some (.ref dp),some (.ref dl),o6,o7,o8,some (.ref df),o10,o11,o12]∧H' df=some (.dT (kvJ js))∧tlJ js=jn (LF ls r hs.length hs) ((srt ls).take i)∧PsAt H' (js.map (·.2))∧LnAt H' zs (srt ls)∧H' sl=some (.lst zs)∧H' dp=some (.dK (tabV (fun x=>opV (PF ls r hs.length hs x)) us))∧H' dl=some (.dK (tabV (fun x=>V.int (LF ls r hs.length hs x)) us))∧Same H H') ?_ ?_ ?_ ?_
   ·exact⟨[],_,_,_,rfl,hf6,rfl,(fun p hp=>(nomatch hp)),L6,hsl6,hp6,hd6,s06⟩
   ·rintro i σ H' hi ⟨js,_,_,_,_,_,_,_,_,h1,_⟩
    exact SqL.of h1
   ·rintro i v σ H7 hi ⟨js,o10,o11,o12,rfl,hf7,ej,ps,L7,hsl7,hp7,hd7,s7⟩
    obtain⟨⟨x,y⟩,qa,hp,rfl,hqa⟩:=L7.get hi
    have hpm:=srt_mem.mp (List.mem_of_getElem? hp)
    have hxy:=wl.ok _ hpm
    have hbd:=wl.bd wh _ hpm
    dsimp only at hxy hbd hqa
    have hx:=(hmem x).mpr hxy.1
    have hy:=(hmem y).mpr hxy.2.1
    generalize hlf:LF ls r hs.length hs=lf at *
    have ljs:js.length≤66:=by
     have h1:=congrArg List.length ej
     unfold tlJ at h1
     rw[List.length_map] at h1
     have h2:=vj (lf:=lf) (ls:=(srt ls).take i)
     rw[List.length_take] at h2
     omega
    refine⟨qa,_,rfl,SqT.of hqa,rfl,_,_,rfl,_,_,rfl,rfl,?_⟩
    refine⟨_,rfl,_,rfl,dl,_,rfl,zN hd7 hx,_,rfl,_,rfl,dl,_,rfl,zN hd7 hy,_,_,rfl,_,rfl,_,rfl,dl,_,rfl,zN hd7 hx,_,rfl,_,rfl,dl,_,rfl,zN hd7 hy,_,_,rfl,(by show 2≤sizeLine;decide),fun pt hpt=>?_⟩
    have em:(if lf y<lf x then lf y else lf x)=min (lf x) (lf y):=by split<;>omega
    have ex:(if lf y>lf x then lf y else lf x)=max (lf x) (lf y):=by split<;>omega
    rw[em,ex] at *
    have t8:=Same.new (o:=HO.tup [V.int (min (lf x) (lf y)),V.int (max (lf x) (lf y))]) hpt
    have ht8:=upd_same (H:=H7) (a:=pt) (o:=HO.tup [V.int (min (lf x) (lf y)),V.int (max (lf x) (lf y))])
    generalize upd H7 pt (HO.tup [V.int (min (lf x) (lf y)),V.int (max (lf x) (lf y))])=H8 at *
    refine⟨_,rfl,pt,_,0,_,rfl,rfl,SqT.of ht8,rfl,_,rfl,pt,_,1,_,rfl,rfl,SqT.of ht8,rfl,rfl,_,rfl,?_⟩
    have etk:(srt ls).take (i+1)=(srt ls).take i++[(x,y)]:=by rw[List.take_add_one,hp];rfl
    by_cases c:lf x=lf y
    ·refine z4 (by rw[c];simp) ?_
     refine⟨js,_,_,_,rfl,t8 _ _ hf7,?_,ps.same t8,L7.same t8,t8 _ _ hsl7,t8 _ _ hp7,t8 _ _ hd7,s7.trans t8⟩
     rw[etk,xl]
     unfold jst
     rw[if_pos c]
     exact ej
    ·refine iteB (by simp;omega) ?_
     refine⟨_,rfl,df,rfl,.inr ⟨_,.inl (t8 _ _ hf7)⟩,_,rfl,_,rfl,_,rfl,(by show 2≤sizeLine;decide),fun pr hpr=>?_⟩
     have s9:=Same.new (o:=HO.tup [V.int x,V.int y]) hpr
     have t9:=t8.trans s9
     have hf9:=t9 _ _ hf7
     have hpr9:=upd_same (H:=H8) (a:=pr) (o:=HO.tup [V.int x,V.int y])
     have npd:pr≠df:=fun z=>by rw[z,t8 _ _ hf7] at hpr;cases hpr
     have key:(yw (kvJ js) ([Sum.inl (min (lf x) (lf y)),Sum.inl (max (lf x) (lf y))]:List Key)).isSome=decide (jk lf (x,y)∈js.map (·.1)):=Yj (js:=js) (k:=jk lf (x,y))
     have emp:(tlJ js).map (·.1)=js.map (·.1):=by unfold tlJ;rw[List.map_map];rfl
     have ht9:=s9 _ _ ht8
     have s09:=s7.trans t9
     generalize upd H8 pr (HO.tup [V.int x,V.int y])=H9 at *
     refine .inr ⟨kvJ js,[Sum.inl (min (lf x) (lf y)),Sum.inl (max (lf x) (lf y))],pt,hf9,rfl,ht9,by unfold kvJ;rw[List.length_map];exact zi (by omega),fun u hu'=>?_,fun hn=>?_⟩
     ·rw[hu'] at key
      have hk:jk lf (x,y)∈js.map (·.1):=of_decide_eq_true key.symm
      refine⟨js,_,_,_,rfl,hf9,?_,ps.same t9,L7.same t9,t9 _ _ hsl7,t9 _ _ hp7,t9 _ _ hd7,s09⟩
      rw[etk,xl,← ej]
      unfold jst
      rw[if_neg c,if_pos (by rw[emp];exact hk)]
     ·rw[hn] at key
      have hk:jk lf (x,y)∉js.map (·.1):=of_decide_eq_false key.symm
      have hnd:∀ b xs,H9 b=some (.tup xs)→b≠df:=fun b xs e z=>by rw[z,hf9] at e;cases e
      refine⟨js++[(jk lf (x,y),(pr,x,y))],_,_,_,rfl,?_,?_,?_,?_,?_,?_,?_,Same.updF s09 fdf⟩
      ·rw[upd_same]
       rw[L2.putK_new _ hn]
       unfold kvJ
       rw[List.map_append]
       rfl
      ·rw[etk,xl,← ej]
       unfold jst
       rw[if_neg c,if_neg (by rw[emp];exact hk)]
       unfold tlJ
       rw[List.map_append]
       rfl
      ·rw[List.map_append]
       intro q' hq'
       rcases List.mem_append.mp hq' with z | z
       ·have h1:=ps.same t9 q' z
        exact⟨by rw[upd_ne (hnd _ _ h1.1)];exact h1.1,h1.2⟩
       ·rw[List.mem_singleton.mp z]
        exact⟨by rw[upd_ne npd];exact hpr9,hbd⟩
      ·have L9:=L7.same t9
       exact⟨L9.1,fun n r p a1 a2=>by
        obtain⟨qq,b1,b2⟩:=L9.2 n r p a1 a2
        exact⟨qq,b1,by rw[upd_ne (hnd _ _ b2)];exact b2⟩⟩
      ·rw[upd_ne nfs];exact t9 _ _ hsl7
      ·rw[upd_ne nfp];exact t9 _ _ hp7
      ·rw[upd_ne nfl];exact t9 _ _ hd7
   ·rintro σ H7 ⟨js,o10,o11,o12,rfl,hf7,ej,ps,L7,hsl7,hp7,hd7,s7⟩
    rw[lz,List.take_length] at ej
    have ljs:js.length≤66:=by
     have h1:=congrArg List.length ej
     unfold tlJ at h1
     rw[List.length_map] at h1
     have h2:=vj (lf:=LF ls r hs.length hs) (ls:=srt ls)
     omega
    refine⟨_,rfl,_,rfl,df,kvJ js,js.map (·.2),rfl,hf7,?_,by rw[List.length_map];exact ljs,ps,fun sl2 qs2 hsl2 pm2 up2=>?_⟩
    ·unfold kvJ
     rw[List.map_map,List.map_map]
     rfl
    have s8:=Same.new (o:=HO.lst (qs2.map fun p=>V.ref p.1)) hsl2
    have L8:=(xJ ps pm2 up2).same s8
    have eb:(js.map (·.2)).map (·.2)=(jn (LF ls r hs.length hs) (srt ls)).map (·.2):=by
     rw[← ej]
     unfold tlJ
     rw[List.map_map,List.map_map]
     rfl
    rw[eb] at L8
    have hsl8:=upd_same (H:=H7) (a:=sl2) (o:=HO.lst (qs2.map fun p=>V.ref p.1))
    generalize qs2.map (fun p=>V.ref p.1)=zs8 at *
    generalize upd H7 sl2 (HO.lst zs8)=H8 at *
    refine⟨(by show 2≤sizeLine;decide),fun pt hpt=>?_⟩
    have s9:=Same.new (o:=HO.tup [V.ref dp,V.ref sl2]) hpt
    exact k pt dp sl2 us zs8 _ ⟨upd_same,s9 _ _ (s8 _ _ hp7),s9 _ _ hsl8,L8.same s9,ndu,hmem⟩ (s7.trans (s8.trans s9))
  |cons b0 lt =>
   rw[hcl] at hl3 upl hlh hlu hpf hln
   refine .inr ⟨l,e,_,_,rfl,rfl,SqL.of (se _ _ hl3),SqL.of upd_same,(by simp),Nat.lt_of_le_of_lt (Nat.le_add_right _ 2) (un 0 (by omega)),_,rfl,vt ?_⟩
   refine⟨_,fun σ' H' h=>h,?_⟩
   obtain⟨n',rfl⟩:∃ n',n=n'+1:=⟨n-1,by rw[List.length_cons] at hln;omega⟩
   have hp4:=se _ _ hp3
   have hd4:=se _ _ hl3'
   have hl4:=se _ _ hl3
   have s4:=s3.trans se
   generalize upd H3 e (HO.lst [])=H4 at *
   refine⟨_,rfl,_,rfl,_,rfl,l,_,0,_,rfl,rfl,SqL.of hl4,at_zero,_,rfl,q,l,rs,hs,lt,b0,ls,r,rfl,s4 _ _ hq,L.same s4,wh,wl,hl4,hlh,fun ds cu H5 hds hds5 ndc memc s5=>?_⟩
   have hF:=stp_fp (ls:=ls) (r:=r) (s:=b0) (left:=lt)
   generalize hFe:stp ls r (b0::lt)=F at *
   refine⟨_,rfl,ds,_,rfl,hds5,fun od S=>?_⟩
   have hcl2:∀ x∈cu,x∈b0::lt:=fun x hx=>(hF.mem x _ (YA ((memc x).mp hx))).1
   have ndx:(us++cu).Nodup:=by
    rw[List.nodup_append]
    refine⟨ndu,ndc,fun x hx y hy e=>?_⟩
    rw[← e] at hy
    exact hlu x (hcl2 x hy) hx
   have c12:cu.length≤12:=Nat.le_trans (yo ndc fun x hx=>hlh x (hcl2 x hx)) l12
   have hp5:=s5 _ _ hp4
   have hd5:=s5 _ _ hd4
   have hl5:=s5 _ _ hl4
   have s05:=s4.trans s5
   have nsp:ds≠dp:=fun z=>by rw[z,hp4] at hds;cases hds
   have nsl:ds≠dl:=fun z=>by rw[z,hd4] at hds;cases hds
   have nsv:ds≠l:=fun z=>by rw[z,hl4] at hds;cases hds
   have nvp:l≠dp:=fun z=>by rw[z,hp4] at hl4;cases hl4
   have nvl:l≠dl:=fun z=>by rw[z,hd4] at hl4;cases hl4
   have fds:H ds=none:=s4.free hds
   have hz6:=upd_same (H:=H5) (a:=ds) (o:=HO.frz od (HO.dK (tabV (sV F) cu)))
   have hp6:(upd H5 ds (HO.frz od (HO.dK (tabV (sV F) cu)))) dp=_:=(upd_ne nsp.symm).trans hp5
   have hd6:(upd H5 ds (HO.frz od (HO.dK (tabV (sV F) cu)))) dl=_:=(upd_ne nsl.symm).trans hd5
   have hl6:(upd H5 ds (HO.frz od (HO.dK (tabV (sV F) cu)))) l=_:=(upd_ne nsv.symm).trans hl5
   have s06:Same H (upd H5 ds (HO.frz od (HO.dK (tabV (sV F) cu)))):=Same.updF s05 fds
   generalize upd H5 ds (HO.frz od (HO.dK (tabV (sV F) cu)))=H6 at *
   refine for_view (yl:=yK) (d:=ds) (od:=od) (kvs:=tabV (sV F) cu) (fun i σ H'=>∃ (o7 o8:Option V),σ=[some (.ref h),some (.ref q),some (.int (r:Int)),some (.ref l),some (.ref dp),some (.ref dl),some (.ref ds),o7,o8,o9,o10,o11,o12]∧H' ds=some (.frz od (.dK (tabV (sV F) cu)))∧H' dp=some (.dK (tabV (fun x=>opV (PF ls r hs.length hs x)) (us++cu.take i)))∧H' dl=some (.dK (tabV (fun x=>V.int (LF ls r hs.length hs x)) (us++cu.take i)))∧H' l=some (.lst ((b0::lt).map V.int))∧Same H H') ?_ ?_ ?_ ?_
   ·exact⟨o7,o8,rfl,hz6,by rw[List.take_zero,List.append_nil];exact hp6,by rw[List.take_zero,List.append_nil];exact hd6,hl6,s06⟩
   ·rintro i σ H' ⟨o7,o8,_,hz',_⟩
    exact hz'
   ·rintro i kv v σ H7 H7' hkv ⟨o7,o8,rfl,hz7,hp7,hd7,hl7,s7⟩ hy
    obtain⟨x,hx,rfl⟩:∃ x,cu[i]?=some x∧kv=(Sum.inl x,sV F x):=by
     unfold tabV at hkv
     rw[List.getElem?_map] at hkv
     obtain⟨x,h1,h2⟩:=Option.map_eq_some_iff.mp hkv
     exact⟨x,h1,h2.symm⟩
    obtain⟨rfl,rfl⟩:=hy
    have hxc:=List.mem_of_getElem? hx
    have hxF:=(memc x).mp hxc
    have etk:cu.take (i+1)=cu.take i++[x]:=by rw[List.take_add_one,hx];rfl
    have hxn:x∉us++cu.take i:=fun z=>by
     rcases List.mem_append.mp z with z | z
     ·exact hlu x (hcl2 x hxc) z
     ·exact vH ndc hx z
    refine⟨_,rfl,_,rfl,q,x,rs,hs,ls,rfl,s7 _ _ hq,L.same s7,wh,wl,fun pn H8 hpn s8 hpn8=>?_⟩
    have hz8:=s8 _ _ hz7
    refine⟨pn,rfl,⟨_,SqL.of hpn8⟩,fun D hD _=>?_⟩
    have nDz:ds≠D:=fun z=>by rw[← z,hz8] at hD;cases hD
    refine zY (K:=K) (a:=pn) (xs:=(hs.filter (adB ls x)).map V.int) (fun j zs τ H'=>∃ (o:Option V),τ=[o,some (.ref ds),some (.int x)]∧zs=(((hs.filter (adB ls x)).take j).filter fun y=>decide (F y≠none∧fN F y<fN F x)).map V.int∧H'=upd H8 D (.lst zs)) ?_ ?_ ?_ ?_
    ·exact⟨none,rfl,rfl,rfl⟩
    ·rintro j zs τ H' ⟨o,_,_,rfl⟩
     exact SqL.of (by rw[upd_ne (ne_of_none hpn8 hD)];exact hpn8)
    ·rintro j v zs τ H' hj ⟨o,rfl,rfl,rfl⟩
     rw[List.getElem?_map] at hj
     obtain⟨y,hy,rfl⟩:=Option.map_eq_some_iff.mp hj
     have etk2:(hs.filter (adB ls x)).take (j+1)=(hs.filter (adB ls x)).take j++[y]:=by rw[List.take_add_one,hy];rfl
     have hz9:(upd H8 D (HO.lst ((((hs.filter (adB ls x)).take j).filter fun y=>decide (F y≠none∧fN F y<fN F x)).map V.int))) ds=some (.frz od (.dK (tabV (sV F) cu))):=by rw[upd_ne nDz];exact hz8
     have hlen:((((hs.filter (adB ls x)).take j).filter fun y=>decide (F y≠none∧fN F y<fN F x)).map V.int).length<sizeLine:=by
      rw[List.length_map]
      have h1:=List.length_filter_le (fun y=>decide (F y≠none∧fN F y<fN F x)) ((hs.filter (adB ls x)).take j)
      rw[List.length_take] at h1
      have h2:=List.length_filter_le (adB ls x) hs
      exact zi (by omega)
     have no:¬ (F y≠none∧fN F y<fN F x)→((((hs.filter (adB ls x)).take (j+1)).filter fun y=>decide (F y≠none∧fN F y<fN F x)).map V.int)=((((hs.filter (adB ls x)).take j).filter fun y=>decide (F y≠none∧fN F y<fN F x)).map V.int):=fun c=>by
      rw[etk2,List.filter_append,List.filter_cons_of_neg (by simpa using c),List.filter_nil,List.append_nil]
     by_cases c1:y∈cu
     ·refine⟨_,rfl,_,rfl,ds,_,rfl,xH hz9 c1,_,rfl,vt ?_⟩
      refine⟨_,rfl,_,rfl,ds,_,rfl,xH hz9 c1,_,rfl,_,rfl,ds,_,rfl,xH hz9 hxc,_,_,rfl,rfl,_,rfl,?_⟩
      by_cases c2:fN F y<fN F x
      ·refine iteB (by simp;omega) ?_
       refine⟨_,rfl,upd_same,hlen,_,rfl,?_,?_⟩
       ·rw[etk2,List.filter_append,List.filter_cons_of_pos (by exact decide_eq_true ⟨(memc y).mp c1,c2⟩),List.filter_nil,List.map_append]
        rfl
       ·rw[yO]
      ·refine z4 (by simp;omega) ?_
       refine⟨_,rfl,?_,rfl⟩
       exact(no fun h=>c2 h.2).symm
     ·refine⟨_,rfl,_,rfl,ds,none,rfl,Y5 hz9 c1,_,rfl,z4 rfl ?_⟩
      refine⟨_,rfl,?_,rfl⟩
      exact(no fun h=>c1 ((memc y).mpr h.1)).symm
    ·rintro zs τ H' ⟨o,rfl,rfl,rfl⟩
     rw[List.length_map,List.take_length]
     have enr:((hs.filter (adB ls x)).filter fun y=>decide (F y≠none∧fN F y<fN F x))=nrb ls hs F x:=rfl
     rw[enr]
     have s9:=s8.trans (Same.new (o:=HO.lst ((nrb ls hs F x).map V.int)) hD)
     have hD9:=upd_same (H:=H8) (a:=D) (o:=HO.lst ((nrb ls hs F x).map V.int))
     generalize upd H8 D (HO.lst ((nrb ls hs F x).map V.int))=H9 at *
     obtain⟨pm1,pm2⟩:=Vo hF wl upl hxF
     have hpx:par ls (b0::lt) F x=PF ls r hs.length hs x:=by
      rw[(hpf x (hcl2 x hxc)).1]
      show _=(if stp ls r (b0::lt) x=none then _ else par ls (b0::lt) (stp ls r (b0::lt)) x)
      rw[hFe,if_neg hxF]
     have hlx:LF ls r hs.length hs x=b0:=by
      rw[(hpf x (hcl2 x hxc)).2]
      show(if stp ls r (b0::lt) x=none then _ else _)=_
      rw[hFe,if_neg hxF]
      rfl
     have hp9:=s9 _ _ hp7
     have hd9:=s9 _ _ hd7
     have hl9:=s9 _ _ hl7
     have hz9:=s9 _ _ hz7
     have ut12:(us++cu.take i).length≤24:=by rw[List.length_append,List.length_take];omega
     have s09:=s7.trans s9
     have go:∀ v:V,v=opV (PF ls r hs.length hs x)→∀ H10,H10=upd H9 dp (.dK (putK (tabV (fun x=>opV (PF ls r hs.length hs x)) (us++cu.take i)) (.inl x) v))→H10 dp=some (.dK (tabV (fun x=>opV (PF ls r hs.length hs x)) (us++cu.take (i+1))))∧H10 dl=H9 dl∧H10 ds=H9 ds∧H10 l=H9 l∧Same H H10:=fun v hv H10 e10=>by
      subst e10
      refine⟨?_,upd_ne ndl.symm,upd_ne nsp,upd_ne nvp,Same.updF s09 fp⟩
      rw[upd_same,yW hxn,etk,← List.append_assoc]
      rw[zQ fun y hy=>by
       show(if y=x then v else _)=opV (PF ls r hs.length hs y)
       by_cases c:y=x
       ·rw[if_pos c,hv,c]
       ·rw[if_neg c]]
     refine⟨_,rfl,D,nrb ls hs F x,rfl,SqL.of hD9,fun en=>?_,fun mm hmm hle=>?_⟩
     ·have hv:V.non=opV (PF ls r hs.length hs x):=by rw[← hpx,pm1 en];rfl
      obtain⟨g1,g2,g3,g4,g5⟩:=go _ hv _ rfl
      refine⟨_,rfl,_,rfl,dp,_,rfl,DPut.k (k:=.inl x) hp9 (by rw[tabV_len];exact zi (by omega)),?_⟩
      generalize upd H9 dp (HO.dK (putK (tabV (fun x=>opV (PF ls r hs.length hs x)) (us++cu.take i)) (.inl x) V.non))=H10 at *
      refine⟨_,rfl,l,_,0,_,rfl,rfl,SqL.of (g4.trans hl9),at_zero,_,rfl,_,rfl,dl,_,rfl,DPut.k (k:=.inl x) (g2.trans hd9) (by rw[tabV_len];exact zi (by omega)),?_⟩
      refine⟨_,_,rfl,(upd_ne nsl).trans (g3.trans hz9),(upd_ne ndl).trans g1,?_,(upd_ne nvl).trans (g4.trans hl9),Same.updF g5 fl⟩
      rw[upd_same,yW hxn,etk,← List.append_assoc]
      rw[zQ fun y hy=>by
       show(if y=x then V.int b0 else _)=V.int (LF ls r hs.length hs y)
       by_cases c:y=x
       ·rw[if_pos c,c,hlx]
       ·rw[if_neg c]]
     ·have hv:V.int mm=opV (PF ls r hs.length hs x):=by rw[← hpx,pm2 mm hmm hle];rfl
      obtain⟨g1,g2,g3,g4,g5⟩:=go _ hv _ rfl
      refine⟨_,rfl,_,rfl,dp,_,rfl,DPut.k (k:=.inl x) hp9 (by rw[tabV_len];exact zi (by omega)),?_⟩
      generalize upd H9 dp (HO.dK (putK (tabV (fun x=>opV (PF ls r hs.length hs x)) (us++cu.take i)) (.inl x) (V.int mm)))=H10 at *
      refine⟨_,rfl,l,_,0,_,rfl,rfl,SqL.of (g4.trans hl9),at_zero,_,rfl,_,rfl,dl,_,rfl,DPut.k (k:=.inl x) (g2.trans hd9) (by rw[tabV_len];exact zi (by omega)),?_⟩
      refine⟨_,_,rfl,(upd_ne nsl).trans (g3.trans hz9),(upd_ne ndl).trans g1,?_,(upd_ne nvl).trans (g4.trans hl9),Same.updF g5 fl⟩
      rw[upd_same,yW hxn,etk,← List.append_assoc]
      rw[zQ fun y hy=>by
       show(if y=x then V.int b0 else _)=V.int (LF ls r hs.length hs y)
       by_cases c:y=x
       ·rw[if_pos c,c,hlx]
       ·rw[if_neg c]]
   ·rintro σ H7 ⟨o7,o8,rfl,hz7,hp7,hd7,hl7,s7⟩
    rw[tabV_len,List.take_length] at hp7 hd7
    refine .inr ⟨ds,od,tabV (sV F) cu,S,hz7,?_⟩
    have hz8:=upd_same (H:=H7) (a:=ds) (o:=HO.dK (tabV (sV F) cu))
    have hp8:(upd H7 ds (HO.dK (tabV (sV F) cu))) dp=_:=(upd_ne nsp.symm).trans hp7
    have hd8:(upd H7 ds (HO.dK (tabV (sV F) cu))) dl=_:=(upd_ne nsl.symm).trans hd7
    have hl8:(upd H7 ds (HO.dK (tabV (sV F) cu))) l=_:=(upd_ne nsv.symm).trans hl7
    have s8:Same H (upd H7 ds (HO.dK (tabV (sV F) cu))):=Same.updF s7 fds
    generalize upd H7 ds (HO.dK (tabV (sV F) cu))=H8 at *
    refine⟨_,rfl,l,rfl,⟨_,SqL.of hl8⟩,fun D hD _=>?_⟩
    have nDz:ds≠D:=fun z=>by rw[← z,hz8] at hD;cases hD
    refine zY (K:=K) (a:=l) (xs:=(b0::lt).map V.int) (fun i zs τ H'=>∃ (o:Option V),τ=[o,some (.ref ds)]∧zs=(((b0::lt).take i).filter fun x=>decide (x∉cu)).map V.int∧H'=upd H8 D (.lst zs)) ?_ ?_ ?_ ?_
    ·exact⟨none,rfl,rfl,rfl⟩
    ·rintro i zs τ H' ⟨o,_,_,rfl⟩
     exact SqL.of (by rw[upd_ne (ne_of_none hl8 hD)];exact hl8)
    ·rintro i v zs τ H' hi ⟨o,rfl,rfl,rfl⟩
     rw[List.getElem?_map] at hi
     obtain⟨x,hx,rfl⟩:=Option.map_eq_some_iff.mp hi
     have etk:(b0::lt).take (i+1)=(b0::lt).take i++[x]:=by rw[List.take_add_one,hx];rfl
     have hz9:(upd H8 D (HO.lst ((((b0::lt).take i).filter fun x=>decide (x∉cu)).map V.int))) ds=some (.dK (tabV (sV F) cu)):=by rw[upd_ne nDz];exact hz8
     have hlen:((((b0::lt).take i).filter fun x=>decide (x∉cu)).map V.int).length<sizeLine:=by
      rw[List.length_map]
      have h1:=List.length_filter_le (fun x=>decide (x∉cu)) ((b0::lt).take i)
      rw[List.length_take] at h1
      have h2:=yo (List.nodup_iff_pairwise_ne.mpr (upl.imp fun {a b} h=>by omega)) hlh
      exact zi (by omega)
     by_cases c:x∈cu
     ·refine⟨_,rfl,_,rfl,ds,_,rfl,zN hz9 c,_,rfl,z4 rfl ?_⟩
      refine⟨_,rfl,?_,rfl⟩
      rw[etk,List.filter_append,List.filter_cons_of_neg (by simp[c]),List.filter_nil,List.append_nil]
     ·refine⟨_,rfl,_,rfl,ds,none,rfl,wB hz9 c,_,rfl,vt ?_⟩
      refine⟨_,rfl,upd_same,hlen,_,rfl,?_,?_⟩
      ·rw[etk,List.filter_append,List.filter_cons_of_pos (by simpa using c),List.filter_nil,List.map_append]
       rfl
      ·rw[yO]
    ·rintro zs τ H' ⟨o,rfl,rfl,rfl⟩
     rw[List.length_map,List.take_length]
     have enx:(b0::lt).filter (fun x=>decide (x∉cu))=nxl ls r (b0::lt):=by
      unfold nxl
      rw[hFe]
      refine List.filter_congr fun x hx=>decide_eq_decide.mpr ?_
      constructor
      ·intro h1
       exact Classical.byContradiction fun z=>h1 ((memc x).mpr z)
      ·intro h1 h2
       exact(memc x).mp h2 h1
     have nl:=wJ (ls:=ls) (r:=r) (s:=b0) (left:=lt)
     rw[enx]
     have nDp:dp≠D:=fun z=>by rw[← z,hp8] at hD;cases hD
     have nDl:dl≠D:=fun z=>by rw[← z,hd8] at hD;cases hD
     refine⟨(nxl ls r (b0::lt)).length,?_,us++cu,nxl ls r (b0::lt),n',D,_,_,_,_,_,_,_,rfl,rfl,?_,?_,upd_same,?_,ndx,fun x hx=>?_,fun x hx=>?_,?_,s8.trans (Same.new hD)⟩
     ·rw[List.length_cons];omega
     ·rw[upd_ne nDp];exact hp8
     ·rw[upd_ne nDl];exact hd8
     ·rw[← enx,← hcl,eleft,List.filter_filter]
      refine List.filter_congr fun x hx=>?_
      rw[← Bool.decide_and]
      refine decide_eq_decide.mpr ?_
      rw[List.mem_append]
      constructor
      ·rintro⟨h1,h2⟩ (z | z)
       ·exact h2 z
       ·exact h1 z
      ·intro h1
       exact⟨fun z=>h1 (.inr z),fun z=>h1 (.inl z)⟩
     ·rcases List.mem_append.mp hx with z | z
      ·exact hsu x z
      ·exact hlh x (hcl2 x z)
     ·have hx2:=List.mem_filter.mp hx
      have hx3:stp ls r (b0::lt) x=none:=of_decide_eq_true hx2.2
      rw[(hpf x hx2.1).1,(hpf x hx2.1).2]
      constructor
      ·show(if stp ls r (b0::lt) x=none then _ else _)=_
       rw[if_pos hx3]
      ·show(if stp ls r (b0::lt) x=none then _ else _)=_
       rw[if_pos hx3]
     ·rw[List.length_cons] at hln;omega
theorem U1 {lf:Int→Int}(hl:∀ x,lf x=x):∀ {ls:List (Int×Int)}{acc:List ((Int×Int)×(Int×Int))},(∀ p∈ls,p.1<p.2)→(acc.map (·.1)++ls).Nodup→ls.foldl (jst lf) acc=acc++ls.map fun p=>(p,p)
 |[],acc,_,_=>by simp
 |p::ls,acc,hp,nd=>by
  have h0:=hp p List.mem_cons_self
  have hk:jk lf p=p:=by
   unfold jk
   rw[hl,hl]
   obtain⟨x,y⟩:=p
   show(min x y,max x y)=(x,y)
   dsimp only at h0
   rw[show min x y=x by omega,show max x y=y by omega]
  have hn:p∉acc.map (·.1):=fun z=>by
   rw[List.nodup_append] at nd
   exact nd.2.2 p z p List.mem_cons_self rfl
  have hs:jst lf acc p=acc++[(p,p)]:=by
   unfold jst
   rw[hl,hl,if_neg (by omega),hk,if_neg hn]
  rw[List.foldl_cons,hs,U1 hl (fun q hq=>hp q (List.mem_cons_of_mem _ hq)) (by simpa using nd)]
  simp
theorem Y7 {ls:List (Int×Int)}(B:Bd ls):srt (srt ls)=srt ls:=(Wb (as:=srt ls) (ls:=srt ls) (fun p hp=>B p (srt_mem.mp hp)) (List.Perm.refl _) (Wa ls)).symm
theorem XV {ls:List (Int×Int)}{hs:List Int}(wh:Hs hs) (wl:Ls hs ls):brs ls 0 hs=srt ls:=by
 unfold brs
 have e:jn (LF ls 0 hs.length hs) (srt ls)=(srt ls).map fun p=>(p,p):=by
  unfold jn
  rw[U1 (fun x=>YW) (fun p hp=>(wl.ok p (srt_mem.mp hp)).2.2) (by simpa using(xw ls).nodup_iff.mpr wl.nd)]
  rfl
 rw[e,List.map_map]
 show srt ((srt ls).map fun p=>p)=srt ls
 rw[List.map_id']
 exact Y7 (wl.bd wh)
theorem Yp {lf:Int→Int}:∀ {ls:List (Int×Int)},(∀ p∈ls,lf p.1=lf p.2)→ls.foldl (jst lf) []=[]
 |[],_=>rfl
 |p::ls,h=>by
  have hs:jst lf [] p=[]:=by
   unfold jst
   rw[if_pos (h p List.mem_cons_self)]
  rw[List.foldl_cons,hs]
  exact Yp fun q hq=>h q (List.mem_cons_of_mem _ hq)
theorem vU {ls:List (Int×Int)}{hs:List Int}(wl:Ls hs ls){r:Nat}(h:hs.length≤r):brs ls r hs=[]:=by
 unfold brs
 have e:jn (LF ls r hs.length hs) (srt ls)=[]:=Yp fun p hp=>by
  have hp:=srt_mem.mp hp
  have:=wl.ok p hp
  refine Ww (Nat.le_refl _) h this.1 this.2.1 ?_
  unfold adB
  rw[Bool.or_eq_true]
  exact .inl (decide_eq_true hp)
 rw[e]
 exact List.eq_nil_of_length_eq_zero (by rw[xh];rfl)
section
variable {X:Cx}
theorem XM {H:Hp}{x y:V}{b:Bool}{n m:Nat}(h:EqP X H x y b n) (l:n≤m):EqP X H x y b m:=fun pins σ s I A u v hu r1 r2=>h pins σ s I A u v (by omega) r1 r2
theorem Wq {H:Hp}{o:Option Int}:EqP X H (opV o) (opV o) true 0:=by
 cases o with
 |none=>exact EqP.of (EqD.flat (x:=.non) (y:=.non) rfl rfl)
 |some i =>
  have:=EqP.of (X:=X) (EqD.flat (K:=X.K) (H:=H) (x:=.int i) (y:=.int i) (n:=0) rfl rfl)
  have e:eqV (.int i) (.int i)=true:=by show(i == i)=true;simp
  rw[e] at this
  exact this
theorem Ws {H:Hp}{i:Int}:EqP X H (.int i) (.int i) true 0:=Wq (o:=some i)
theorem U9 {H:Hp}{l l':Addr}{rs rs':List V}{bs:List (Int×Int)}(h:H l=some (.lst rs)) (h':H l'=some (.lst rs')) (L:LnAt H rs bs) (L':LnAt H rs' bs):EqP X H (.ref l) (.ref l') true 4:=by
 refine EqP.lst (n:=2) (SqL.of h) (SqL.of h') (L.1.trans L'.1.symm) fun j x y e1 e2=>?_
 obtain⟨p,q,hp,rfl,hq⟩:=L.get e1
 obtain⟨p',q',hp',rfl,hq'⟩:=L'.get e2
 rw[hp] at hp'
 cases hp'
 refine EqP.tup (n:=0) (SqT.of hq) (SqT.of hq') rfl fun i u v e3 e4=>?_
 match i,e3,e4 with
 |0,e3,e4=>cases e3;cases e4;exact Ws
 |1,e3,e4=>cases e3;cases e4;exact Ws
 |i+2,e3,e4=>simp at e3
theorem U8 {H:Hp}{d d':Addr}{f g:Int→Option Int}{hs us vs:List Int}(h:H d=some (.dK (tabV (fun x=>opV (f x)) us))) (h':H d'=some (.dK (tabV (fun x=>opV (g x)) vs))) (n1:us.Nodup) (n2:vs.Nodup) (m1:∀ x,x∈us↔x∈hs) (m2:∀ x,x∈vs↔x∈hs) (e:∀ x∈hs,f x=g x):EqP X H (.ref d) (.ref d') true 2:=by
 refine EqP.dct (n:=0) h h' ?_ (fun p hp=>?_) (fun p hp=>?_) fun p hp=>?_
 ·rw[tabV_len,tabV_len]
  exact Nat.le_antisymm (yo n1 fun x hx=>(m2 x).mpr ((m1 x).mp hx)) (yo n2 fun x hx=>(m1 x).mpr ((m2 x).mp hx))
 ·obtain⟨x,_,rfl⟩:=vy hp
  exact⟨x,rfl⟩
 ·obtain⟨x,_,rfl⟩:=vy hp
  exact⟨x,rfl⟩
 ·obtain⟨x,hx,rfl⟩:=vy hp
  refine⟨_,xI ((m2 x).mpr ((m1 x).mp hx)),?_⟩
  show EqP X H (opV (f x)) (opV (g x)) true 0
  rw[e x ((m1 x).mp hx)]
  exact Wq
theorem uJ {H:Hp}{t t' d d' l l':Addr}{f g:Int→Option Int}{hs us vs:List Int}{bs cs:List (Int×Int)}{rs rs':List V}(p:PbAt H t f hs us bs d l rs) (p':PbAt H t' g hs vs cs d' l' rs') (e:∀ x∈hs,f x=g x) (eb:bs=cs) :
  ∀ (j:Nat) x y,[V.ref d,V.ref l][j]?=some x→[V.ref d',V.ref l'][j]?=some y→EqP X H x y true 4:=fun j x y e1 e2=>by
 match j,e1,e2 with
 |0,e1,e2=>cases e1;cases e2;exact XM (U8 p.d p'.d p.nd p'.nd p.m p'.m e) (by decide)
 |1,e1,e2=>cases e1;cases e2;exact U9 p.l p'.l p.L (by rw[eb];exact p'.L)
 |j+2,e1,e2=>simp at e1
end
theorem PbAt.same {H H':Hp}{t d l:Addr}{f:Int→Option Int}{hs us:List Int}{bs:List (Int×Int)}{rs:List V}(p:PbAt H t f hs us bs d l rs) (s:Same H H'):PbAt H' t f hs us bs d l rs:=⟨s _ _ p.t,s _ _ p.d,s _ _ p.l,p.L.same s,p.nd,p.m⟩
def Wc (a:Ad):Sp:=fun vs H Q _=>∃ (p dx dp ob:Addr) (pf:Int→Option Int) (hs us:List Int) (bs:List (Int×Int)),vs=[.ref p]∧WayAt a H p pf us bs dx dp ob∧(∀ x,x∈us↔x∈hs) ∧
 ∀ (t d l:Addr) (rs:List V) (H':Hp),PbAt H' t pf hs us bs d l rs→Same H H'→Q (.ref t) H'
theorem Vh (T:Txt w K mg a):FnOk P w K mg base CX0 7 a.f_qu a.d_qu ["_law_way_here"] (Wc a):=by
 refine T.F_qu.ok zbP (fun vs H Q E h=>?_) (fun cdv A outer s H vs Q E hr h=>?_)
 ·obtain⟨p,dx,dp,ob,pf,hs,us,bs,rfl,_⟩:=h
  rfl
 ·obtain⟨p,dx,dp,ob,pf,hs,us,bs,rfl,W,hm,k⟩:=h
  refine zU (zf (zj (zV (zF (zO (zh 0)) (zF (zO (zh 0)) zd))))) ?_
  refine⟨_,rfl,p,_,dx,_,_,_,_,_,_,rfl,W.p,rfl,T.cl_Way,T.mt_qy,UB (P:=P) (w:=w) T,hr.mono (by omega),T.b_qy,p,dx,dp,ob,pf,us,bs,rfl,W,fun d H1 hd hd1 s1=>?_⟩
  refine⟨_,rfl,p,_,dx,_,_,_,_,_,_,rfl,s1 _ _ W.p,rfl,T.cl_Way,T.mt_qz,UC (P:=P) (w:=w) T,hr.mono (by omega),T.b_qz,p,dx,dp,ob,pf,us,bs,rfl,W.same s1,fun l rs H2 hl hl2 L2 s2=>?_⟩
  refine⟨(by show 2≤sizeLine;decide),fun t ht=>?_⟩
  have s3:=Same.new (o:=HO.tup [V.ref d,V.ref l]) ht
  exact k t d l rs _ ⟨upd_same,s3 _ _ (s2 _ _ hd1),s3 _ _ hl2,L2.same s3,W.nd,hm⟩ (s1.trans (s2.trans s3))
open L2.Sco (PT PsAt)
def ZQ:Sp:=fun vs H Q _=>∃ (h q:Addr) (rs:List V) (hs:List Int) (ls:List (Int×Int)) (r:Nat),vs=[.ref h,.ref q,.int (r:Int)]∧H h=some (.lst (hs.map V.int))∧H q=some (.lst rs)∧LnAt H rs ls∧Hs hs∧Ls hs ls∧∀ H',Same H H'→Q (.bl true) H'
theorem Xl (T:Txt w K mg a):FnOk P w K mg base CX0 10 a.f_qv a.d_qv ["_law_hands_here", "_law_lines_here", "_law_reach"] ZQ:=by
 have c_qt:Callee P w K mg base "_law_way" a.f_qt a.d_qt ["_law_hands_here", "_law_lines_here", "_law_reach"] 3 zg5:=⟨zce T,T.g_qt,T.F_qt.kp,T.b_qt⟩
 have c_qu:Callee P w K mg base "_law_told" a.f_qu a.d_qu ["_law_way_here"] 7 (Wc a):=⟨Vh T,T.g_qu,T.F_qu.kp,T.b_qu⟩
 have c_qf:Callee P w K mg base "by_clusters" a.f_qf a.d_qf ["web", "reach"] 8 (zak a):=⟨Vl T,T.g_qf,T.F_qf.kp,T.b_qf⟩
 have c_qg:Callee P w K mg base "by_neighbours" a.f_qg a.d_qg ["web"] 9 (zal a fun _=>0):=⟨zck T,T.g_qg,T.F_qg.kp,T.b_qg⟩
 have c_qh:Callee P w K mg base "by_tree" a.f_qh a.d_qh ["web"] 9 (zal a List.length):=⟨zcj T,T.g_qh,T.F_qh.kp,T.b_qh⟩
 have m_Web:Maker P w K mg base "Web" a.c_Web a.f_qC a.d_qC ["self", "hands", "lines"] 4 (V8 a):=⟨Uv T,T.g_Web,T.mk_Web,T.b_qC⟩
 refine T.F_qv.ok sc_qv (fun vs H Q E h=>?_) (fun cdv A outer s H vs Q E hr h=>?_)
 ·obtain⟨h,q,rs,hs,ls,r,rfl,_⟩:=h
  rfl
 ·obtain⟨h,q,rs,hs,ls,r,rfl,hh,hq,L,wh,wl,k⟩:=h
  have hu:=xm hr
  have l12:=wh.l12
  have un:∀ n:Nat,n≤8→(A.deeper (PyProof.Rows.envOfC "_law_right" (defScope uD) s.heap.objs.size a.f_qv cdv)).units+n+2<cLine:=fun n hn=>by
   have:=hr.units
   omega
  have eB0:=XV wh wl
  have eBT:=vU wl (Nat.le_refl hs.length)
  have eB12:=vU wl l12
  have eBx:=vU wl (r:=10 ^ 19) (Nat.le_trans l12 (by decide))
  have eP12:=YV (ls:=ls) (r:=hs.length) (r':=12) (n:=hs.length) (Nat.le_refl hs.length) l12
  have ePx:=YV (ls:=ls) (r:=10 ^ 19) (r':=12) (n:=hs.length) (left:=hs) (Nat.le_trans l12 (by decide)) l12
  refine zU (w_pss_cons (w_ps_set (i:=3) sc_qv.nd rfl (Or.inl rfl) (u4 m_Web (hr.mono (by omega)) (zg (zh 0) (zg (zh 1) zd))))
   (w_pss_cons (w_ps_set (i:=4) sc_qv.nd rfl (Or.inl rfl) (zV (zF (zP (ww rfl) (by rfl) T.n_dict vT (zo (yh rfl (N':=["_law_hand"]) (t:=1) (caps:=[]) ⟨rfl,rfl,rfl⟩ (zz (zh 0)) (fun _=>(zk (i:=0) (show(["_law_hand"]:List Str).Nodup by decide +kernel) rfl (Or.inl rfl))) (fun _=>yu) (fun _=>(zV (zg (zh 0) (zI xt zd))))) zd)) (zF (zq Sco.call_sortX (by rfl) T.n_sorted zT (zg (zh 1) zd)) zd))))
   (w_pss_cons (w_ps_set (i:=5) sc_qv.nd rfl (Or.inl rfl) (zp c_qt (hr.mono (by omega)) (zg (zh 0) (zg (zh 1) (zI ze zd)))))
   (w_pss_cons (zM PassesOwn.never rfl (z6 rfl T.n_range (zI ze zd)) (zk (i:=6) sc_qv.nd rfl (Or.inl rfl))
    (w_pss_cons (zH (XW (uV (zn ve (zp c_qu (hr.mono (by omega)) (zF (zp c_qg (hr.mono (by omega)) (zg (zh 3) zd)) zd)) (zh 4) (zr _)) (vZ (zn ve (zp c_qu (hr.mono (by omega)) (zF (zp c_qf (hr.mono (by omega)) (zg (zh 3) (zI ze zd))) zd)) (zh 4) (zr _)))))
     (zf (zj xf))
     zt)
    (w_pss_cons (zH (XW (uV (zn ve (zp c_qu (hr.mono (by omega)) (zF (zp c_qh (hr.mono (by omega)) (zg (zh 3) zd)) zd)) (zh 5) (zr _)) (vZ (zn ve (zJ yy (zh 5) ze (fun _ _=>rfl)) (zD zd) (zr _)))))
     (zf (zj xf))
     zt)
    (w_pss_cons (w_ps_set (i:=7) sc_qv.nd rfl (Or.inl rfl) (zp c_qf (hr.mono (by omega)) (zg (zh 3) (zg (zh 2) zd))))
    (w_pss_cons (zH (zn ve (zp c_qu (hr.mono (by omega)) (zg (zh 7) zd)) (zp c_qt (hr.mono (by omega)) (zg (zh 0) (zg (zh 1) (zg (zh 2) zd)))) (zr _))
     (zf (zj xf))
     zt)
    (w_pss_cons (zC (u6 (zO (zh 7))))
    (zf (zC (yk PySem.F.plainAttrs_list PySem.F.slot_list_append PySem.F.type_list_append zL (zO (zh 7)) (XX (zV (zI ze (zI ze zd))) zd))))))))))
   (zf (zj (v4 (zS Wo (zp c_qu (hr.mono (by omega)) (zF (zp c_qf (hr.mono (by omega)) (zg (zh 3) (zI ze zd))) zd)) (zh 5) (zr _)) (xr (zS Wo (zp c_qu (hr.mono (by omega)) (zF (zp c_qf (hr.mono (by omega)) (zg (zh 3) (wc (zl vc ze ze) zd))) zd)) (zh 5) (zr _)))))))))) ?_
  refine⟨_,rfl,_,rfl,fun x dx nx ndx nex=>?_⟩
  have m1:Same H (upd (upd H dx (.own x)) x (.ins a.c_Web dx [])):=(Same.new ndx).updF nx
  refine⟨x,dx,h,q,rs,hs,ls,rfl,upd_same,m1 _ _ hh,m1 _ _ hq,L.same m1,wh,wl,fun oh ol wd ad H1 foh fd fad x1 W1=>⟨rfl,?_⟩⟩
  have s1:Same H H1:=fun b o e=>x1 b o (m1 b o e) (ne_of_none e nx)
  have WP1:WbP a H1 x hs ls:=⟨wh,wl,dx,oh,ol,wd,ad,W1⟩
  have hh1:=s1 _ _ hh
  refine⟨_,rfl,h,rfl,⟨_,SqL.of hh1⟩,fun D hD _=>?_⟩
  refine zY (K:=K) (a:=h) (xs:=hs.map V.int) (fun i zs τ H'=>∃ (o:Option V) (qs:List Addr),τ=[o]∧zs=qs.map V.ref∧qs.length=i∧(∀ (j:Nat) (q:Addr) (z:Int),qs[j]?=some q→hs[j]?=some z→H' q=some (.tup [.int z,.non]))∧H' D=some (.lst zs)∧Same H1 H') ?_ ?_ ?_ ?_
  ·exact⟨none,[],rfl,rfl,rfl,fun j q z h=>by simp at h,upd_same,Same.new hD⟩
  ·rintro i zs τ H' ⟨o,qs,_,_,_,_,_,sm⟩
   exact SqL.of (sm _ _ hh1)
  ·rintro i v zs τ H' hi ⟨o,qs,rfl,rfl,lq,hq',hD',sm⟩
   rw[List.getElem?_map] at hi
   obtain⟨z,hz,rfl⟩:=Option.map_eq_some_iff.mp hi
   have hil:i<hs.length:=(List.getElem?_eq_some_iff.mp hz).1
   refine XF ?_
   refine⟨_,rfl,(by show 2≤sizeLine;decide),fun pt hpt=>?_⟩
   have n2:=Same.new (o:=HO.tup [V.int z,V.non]) hpt
   refine⟨n2 _ _ hD',by rw[List.length_map,lq];exact zi (by omega),some (.int z),qs++[pt],rfl,by simp,by simp[lq],fun j q y' hj hy'=>?_,upd_same,Same.updF (sm.trans n2) hD⟩
   by_cases hji:j<i
   ·rw[List.getElem?_append_left (by omega)] at hj
    have h1:=hq' j q y' hj hy'
    rw[upd_ne (fun z=>by rw[z,hD'] at h1;cases h1)]
    exact n2 _ _ h1
   ·rw[List.getElem?_append_right (by omega)] at hj
    have:j=i:=by
     have:=(List.getElem?_eq_some_iff.mp hj).1
     simp at this
     omega
    subst this
    rw[lq,Nat.sub_self] at hj
    cases hj
    rw[hz] at hy'
    cases hy'
    rw[upd_ne (fun z=>by rw[z,hD'] at hpt;cases hpt)]
    exact upd_same
  ·rintro zs τ H2 ⟨o,qs,rfl,rfl,lq,hq',hD2,sm⟩
   rw[List.length_map] at lq
   refine⟨D,qs,tabV (fun _=>V.non) hs,rfl,hD2,by rw[tabV_len];exact lq,by rw[tabV_len];omega,fun i q kv h1 h2=>?_,fun dn hdn=>?_⟩
   ·unfold tabV at h2
    rw[List.getElem?_map] at h2
    obtain⟨z,h3,h4⟩:=Option.map_eq_some_iff.mp h2
    subst h4
    exact hq' i q z h1 h3
   rw[xy (by rw[yi];exact Yu (Vy wh))]
   have s3:=s1.trans (sm.trans (Same.new (o:=HO.dK (tabV (fun _=>V.non) hs)) hdn))
   have s13:=sm.trans (Same.new (o:=HO.dK (tabV (fun _=>V.non) hs)) hdn)
   have hdn3:=upd_same (H:=H2) (a:=dn) (o:=HO.dK (tabV (fun _=>V.non) hs))
   generalize upd H2 dn (HO.dK (tabV (fun _=>V.non) hs))=H3 at *
   obtain⟨ps0,e1,e2,e3⟩:=(L.same s3).ps (wl.bd wh)
   have l67:ps0.length≤66:=by
    have h1:=congrArg List.length e2
    rw[List.length_map] at h1
    have:=wl.le
    omega
   refine⟨_,rfl,q,ps0,rfl,by rw[e1];exact SqL.of (s3 _ _ hq),l67,e3,fun sl qs2 hsl pm up=>?_⟩
   have hq3:=xJ e3 pm up
   rw[e2] at hq3
   generalize qs2.map (fun p=>V.ref p.1)=zs at hq3 ⊢
   have s4:=Same.new (o:=HO.lst zs) hsl
   have hsl4:=upd_same (H:=H3) (a:=sl) (o:=HO.lst zs)
   refine⟨(by show 2≤sizeLine;decide),fun tn htn=>?_⟩
   have s5:=s4.trans (Same.new (o:=HO.tup [V.ref dn,V.ref sl]) htn)
   have PN:PbAt (upd (upd H3 sl (HO.lst zs)) tn (HO.tup [V.ref dn,V.ref sl])) tn (fun _=>none) hs hs (srt ls) dn sl zs:=⟨upd_same,s5 _ _ hdn3,(Same.new htn) _ _ hsl4,hq3.same s5,Vy wh,fun x=>Iff.rfl⟩
   have s15:=s13.trans s5
   have s05:=s1.trans s15
   have WP5:=WP1.same s15
   generalize upd (upd H3 sl (HO.lst zs)) tn (HO.tup [V.ref dn,V.ref sl])=H5 at *
   refine⟨_,rfl,_,rfl,h,q,rs,hs,ls,12,rfl,s05 _ _ hh,s05 _ _ hq,L.same s05,wh,wl,fun tw dw lw uw rw' H6 PW s6=>?_⟩
   have PN6:=PN.same s6
   have WP6:=WP5.same s6
   have s06:=s05.trans s6
   refine⟨2,rfl,by decide,by decide,?_⟩
   refine for_range (lo:=0) (n:=2) (fun i σ H'=>∃ (o6 o7:Option V),σ=[some (.ref h),some (.ref q),some (.int (r:Int)),some (.ref x),some (.ref tn),some (.ref tw),o6,o7]∧WbP a H' x hs ls∧PbAt H' tn (fun _=>none) hs hs (srt ls) dn sl zs∧PbAt H' tw (PF ls 12 hs.length hs) hs uw (brs ls 12 hs) dw lw rw'∧Same H H') ?_ ?_ ?_
   ·exact⟨none,none,rfl,WP6,PN6,PW,s06⟩
   ·rintro i σ G0 hi ⟨o6,o7,rfl,WG,PNG,PWG,sG⟩
    refine⟨_,rfl,x,hs,ls,rfl,WG,fun q1 dx1 dp1 ob1 us1 G1 W1 m1 t1=>?_⟩
    refine⟨q1,dx1,dp1,ob1,_,hs,us1,_,rfl,W1,m1,fun u1 d1 l1 rs1 G2 P2 t2=>?_⟩
    have t02:=t1.trans t2
    refine⟨_,rfl,u1,tn,_,_,4,rfl,rfl,.inr ⟨SqT.of P2.t,SqT.of (t02 _ _ PNG.t)⟩,rfl,un 4 (by omega),uJ P2 (PNG.same t02) (fun x _=>vX) eB0,_,rfl,z4 rfl ?_⟩
    refine⟨_,rfl,x,hs,ls,0,rfl,WG.same t02,fun q3 dx3 dp3 ob3 us3 G3 W3 m3 t3=>?_⟩
    refine⟨q3,dx3,dp3,ob3,_,hs,us3,_,rfl,W3,m3,fun u3 d3 l3 rs3 G4 P4 t4=>?_⟩
    have t04:=t02.trans (t3.trans t4)
    refine⟨_,rfl,u3,tn,_,_,4,rfl,rfl,.inr ⟨SqT.of P4.t,SqT.of (t04 _ _ PNG.t)⟩,rfl,un 4 (by omega),uJ P4 (PNG.same t04) (fun x _=>vX) eB0,_,rfl,z4 rfl ?_⟩
    refine⟨_,rfl,x,hs,ls,rfl,WG.same t04,fun q5 dx5 dp5 ob5 us5 G5 W5 m5 t5=>?_⟩
    refine⟨q5,dx5,dp5,ob5,_,hs,us5,_,rfl,W5,m5,fun u5 d5 l5 rs5 G6 P6 t6=>?_⟩
    have t06:=t04.trans (t5.trans t6)
    refine⟨_,rfl,u5,tw,_,_,4,rfl,rfl,.inr ⟨SqT.of P6.t,SqT.of (t06 _ _ PWG.t)⟩,rfl,un 4 (by omega),uJ P6 (PWG.same t06) (fun x _=>by rw[eP12]) (by rw[eB12];exact eBT),_,rfl,z4 rfl ?_⟩
    have PW6:=PWG.same t06
    refine⟨_,rfl,tw,_,1,_,rfl,rfl,SqT.of PW6.t,rfl,(by show 0≤sizeLine;decide),fun e0 he0=>?_⟩
    have t7:=Same.new (o:=HO.lst []) he0
    have hrw:rw'=[]:=List.eq_nil_of_length_eq_zero (by rw[PWG.L.1,eB12];rfl)
    refine⟨lw,e0,_,_,0,rfl,rfl,.inl ⟨SqL.of (t7 _ _ PW6.l),SqL.of upd_same⟩,by rw[hrw],un 0 (by omega),(fun j x y hx=>by rw[hrw] at hx;cases hx),_,rfl,z4 rfl ?_⟩
    have t07:=t06.trans t7
    generalize upd G6 e0 (HO.lst [])=G7 at *
    refine⟨_,rfl,_,rfl,x,hs,ls,r,rfl,WG.same t07,fun q8 dx8 dp8 ob8 us8 G8 W8 m8 t8=>?_⟩
    refine⟨_,rfl,q8,dx8,dp8,ob8,_,hs,us8,_,rfl,W8,m8,fun u9 d9 l9 rs9 G9 P9 t9=>?_⟩
    have t09:=t07.trans (t8.trans t9)
    have sG9:=sG.trans t09
    refine⟨_,rfl,_,rfl,_,rfl,h,q,rs,hs,ls,r,rfl,sG9 _ _ hh,sG9 _ _ hq,L.same sG9,wh,wl,fun ua da la uaa rsa Ga Pa ta=>?_⟩
    refine⟨u9,ua,_,_,4,rfl,rfl,.inr ⟨SqT.of (ta _ _ P9.t),SqT.of Pa.t⟩,rfl,un 4 (by omega),uJ (P9.same ta) Pa (fun x _=>rfl) rfl,_,rfl,z4 rfl ?_⟩
    have W10:=(W8.same t9).same ta
    have t10:=t09.trans ta
    refine⟨_,rfl,q8,_,dx8,_,_,_,_,_,_,rfl,W10.p,rfl,T.cl_Way,T.mt_qy,UB (P:=P) (w:=w) T,hr.mono (by omega),T.b_qy,q8,dx8,dp8,ob8,_,us8,_,rfl,W10,fun dc Gb hdc hdcb tb=>?_⟩
    refine⟨dc,_,rfl,hdcb,?_⟩
    have t11:Same Ga (upd Gb dc (HO.dK [])):=Same.updF tb hdc
    generalize upd Gb dc (HO.dK [])=Gc at *
    have W11:=W10.same t11
    refine⟨_,rfl,q8,_,dx8,_,_,_,_,_,_,rfl,W11.p,rfl,T.cl_Way,T.mt_qz,UC (P:=P) (w:=w) T,hr.mono (by omega),T.b_qz,q8,dx8,dp8,ob8,_,us8,_,rfl,W11,fun lc rsc Gd hlc hlcd Lc td=>?_⟩
    refine⟨.inl ⟨rfl,_,SqL.of hlcd⟩,(by show 2≤sizeLine;decide),fun pz hpz=>?_⟩
    have t12:=Same.new (o:=HO.tup [V.int 0,V.int 0]) hpz
    have lrc:rsc.length≤66:=by rw[Lc.1];exact Nat.le_trans YM wl.le
    refine⟨lc,_,_,rfl,rfl,t12 _ _ hlcd,zi (by omega),?_⟩
    have t13:=t10.trans (t11.trans (Same.updF (o:=HO.lst (rsc++[V.ref pz])) (td.trans t12) hlc))
    exact⟨_,_,rfl,WG.same t13,PNG.same t13,PWG.same t13,sG.trans t13⟩
   ·rintro σ G0 ⟨o6,o7,rfl,WG,PNG,PWG,sG⟩
    refine⟨_,rfl,x,hs,ls,12,rfl,WG,fun q1 dx1 dp1 ob1 us1 G1 W1 m1 t1=>?_⟩
    refine⟨q1,dx1,dp1,ob1,_,hs,us1,_,rfl,W1,m1,fun u1 d1 l1 rs1 G2 P2 t2=>?_⟩
    have t02:=t1.trans t2
    refine⟨_,rfl,u1,tw,_,_,4,rfl,rfl,.inr ⟨SqT.of P2.t,SqT.of (t02 _ _ PWG.t)⟩,rfl,un 4 (by omega),uJ P2 (PWG.same t02) (fun x _=>rfl) rfl,_,rfl,vt ?_⟩
    refine⟨_,rfl,_,_,rfl,rfl,⟨by decide,by decide,by decide⟩,x,hs,ls,10 ^ 19,rfl,WG.same t02,fun q3 dx3 dp3 ob3 us3 G3 W3 m3 t3=>?_⟩
    refine⟨q3,dx3,dp3,ob3,_,hs,us3,_,rfl,W3,m3,fun u3 d3 l3 rs3 G4 P4 t4=>?_⟩
    have t04:=t02.trans (t3.trans t4)
    exact⟨_,rfl,u3,tw,_,_,4,rfl,rfl,.inr ⟨SqT.of P4.t,SqT.of (t04 _ _ PWG.t)⟩,rfl,un 4 (by omega),uJ P4 (PWG.same t04) (fun x _=>by rw[ePx]) (by rw[eB12];exact eBx),k _ (sG.trans t04)⟩
theorem ziA {K:PySem.W.Frag}{H H':Hp}{a:Addr}{xs:List V}(h:SqL K H a xs) (s:Same H H'):SqL K H' a xs:=by
 rcases h with(h | ⟨o,h⟩) | h
 ·exact .inl (.inl (s _ _ h))
 ·exact .inl (.inr ⟨o,s _ _ h⟩)
 ·exact .inr h
def spLaw (K:PySem.W.Frag):Sp:=fun vs H Q _=>∃ (a:Addr) (ns:List Int),vs=[.ref a]∧SqL K H a (ns.map V.int)∧ns.length≤63∧∀ H',Q (.bl true) H'
theorem sp_law_of {K:PySem.W.Frag}{H:Hp}{a:Addr}{ns:List Int}(hl:ns.length≤63) (hO:zaf H) (hS:SqL K H a (ns.map V.int)):spLaw K [.ref a] H (fun v _=>v=.bl true) fun _ _ _=>False:=⟨a,ns,rfl,hS,hl,fun _=>rfl⟩
theorem ok_law (T:Txt w K mg a):FnOk P w K mg base CX0 26 a.f_qw a.d_qw ["_law_script"] (spLaw K):=by
 have c_qm:Callee P w K mg base "_law_cell_at" a.f_qm a.d_qm ["_law_script", "_law_k"] 1 (We K):=⟨Vk T,T.g_qm,T.F_qm.kp,T.b_qm⟩
 have c_qn:Callee P w K mg base "_law_draws" a.f_qn a.d_qn ["_law_cell", "_law_many"] 1 ZT:=⟨Xo T,T.g_qn,T.F_qn.kp,T.b_qn⟩
 have c_qp:Callee P w K mg base "_law_hands" a.f_qp a.d_qp ["_law_xs", "_law_most"] 2 zg8:=⟨zch T,T.g_qp,T.F_qp.kp,T.b_qp⟩
 have c_qq:Callee P w K mg base "_law_lines" a.f_qq a.d_qq ["_law_xs", "_law_hands_here"] 2 zg7:=⟨zcg T,T.g_qq,T.F_qq.kp,T.b_qq⟩
 have c_qo:Callee P w K mg base "_law_take" a.f_qo a.d_qo ["_law_xs", "_law_size"] 1 ub:=⟨vF T,T.g_qo,T.F_qo.kp,T.b_qo⟩
 have c_qv:Callee P w K mg base "_law_right" a.f_qv a.d_qv ["_law_hands_here", "_law_lines_here", "_law_reach"] 10 ZQ:=⟨Xl T,T.g_qv,T.F_qv.kp,T.b_qv⟩
 refine T.F_qw.ok sc_qw (fun vs H Q E h=>?_) (fun cdv A outer s H vs Q E hr h=>?_)
 ·obtain⟨x,ns,rfl,_⟩:=h
  rfl
 ·obtain⟨sc,ns,rfl,hS,hlen,k⟩:=h
  refine zU (w_pss_cons (zM PassesOwn.never rfl (zz (zl Yb (zD (zF (zp c_qm (hr.mono (by omega)) (zg (zh 0) (zI ze zd))) zd)) (xc vz (zh 0) (yT ze) (yT ze)))) (zk (i:=1) sc_qw.nd rfl (Or.inl rfl))
    (w_pss_cons (w_ps_set (i:=2) sc_qw.nd rfl (Or.inl rfl) (zp c_qn (hr.mono (by omega)) (zg (zh 1) (zI ze zd))))
    (w_pss_cons (w_ps_set (i:=3) sc_qw.nd rfl (Or.inl rfl) (zp c_qp (hr.mono (by omega)) (zg (zh 2) (zI ze zd))))
    (w_pss_cons (w_ps_set (i:=4) sc_qw.nd rfl (Or.inl rfl) (zp c_qq (hr.mono (by omega)) (zg (zh 2) (zg (zh 3) zd))))
    (zf (zH (v0 (yB (zp c_qv (hr.mono (by omega)) (zg (zh 3) (zg (zh 4) (zF (zp c_qo (hr.mono (by omega)) (zg (zh 2) (zo (zJ z8 (zD (zI ze (zI ze zd))) (zl xx (zp c_qo (hr.mono (by omega)) (zg (zh 2) (zI ze zd))) ze) (fun _ _=>rfl)) zd))) zd))))))
     (zf (zj xf))
     zt))))))
   (zf (zj xf))) ?_
  refine⟨_,rfl,sc,ns,0,rfl,hS,by decide,fun c0=>?_⟩
  refine⟨(by show 1≤sizeLine;decide),fun p1 hp1=>?_⟩
  have s1:=Same.new (o:=HO.lst [V.int c0]) hp1
  refine⟨_,rfl,_,rfl,_,rfl,sc,_,rfl,ziA hS s1,fun p2 hp2=>?_⟩
  have s2:=Same.new (o:=HO.lst (wN (ns.map V.int) (some 1) (some 6))) hp2
  have hcl:=yp (ns.map V.int) (some 1) (some 6)
  rw[List.length_map] at hcl
  have hz:[V.int c0].length+(wN (ns.map V.int) (some 1) (some 6)).length≤sizeLine:=by
   have:1000≤sizeLine:=by decide
   show 1+_≤_
   omega
  refine⟨p1,p2,_,_,rfl,rfl,s2 _ _ upd_same,upd_same,hz,fun p3 hp3=>?_⟩
  refine⟨p3,rfl,⟨_,SqL.of upd_same⟩,?_⟩
  have hall:∀ (i:Nat) v,([V.int c0]++wN (ns.map V.int) (some 1) (some 6))[i]?=some v→∃ c,v=V.int c:=fun i v hi=>by
   cases i with
   |zero=>exact⟨c0,by cases hi;rfl⟩
   |succ i=>exact XR (i:=i) (by simpa using hi)
  generalize hxs:[V.int c0]++wN (ns.map V.int) (some 1) (some 6)=xs at *
  refine for_list (K:=K) (a:=p3) (xs:=xs) (fun i σ H'=>∃ (o1 o2 o3 o4:Option V),σ=[some (.ref sc),o1,o2,o3,o4]∧H' p3=some (.lst xs)) ?_ ?_ ?_ ?_
  ·exact⟨none,none,none,none,rfl,upd_same⟩
  ·rintro i σ H' _ ⟨_,_,_,_,_,e⟩
   exact SqL.of e
  ·rintro i v σ H0 hi ⟨o1,o2,o3,o4,rfl,h3⟩
   obtain⟨c,rfl⟩:=hall i v hi
   refine⟨_,rfl,c,90,rfl,by decide,fun l H1 hl0 x1 y1=>?_⟩
   refine⟨_,rfl,l,rfl,x1,fun h hs H2 hh0 hh wh x2 y2=>?_⟩
   have hne:=x1.ne hh0
   refine⟨_,rfl,_,rfl,l,h,hs,rfl,x2,hh,hne,wh,fun q rs ls H3 hq0 hq L wl x3 y3=>?_⟩
   have S3:Same H0 H3:=fun b o e=>(y2.trans y3) b o (y1 b o e) fun z=>by rw[z,hl0] at e;cases e
   have hh3:=y3 _ _ hh hne
   have hql:q≠l:=x2.ne hq0
   refine⟨_,rfl,_,rfl,_,rfl,(by show 2≤sizeLine;decide),fun p4 hp4=>?_⟩
   have n4:=Same.new (o:=HO.lst [V.int 3,V.int 13]) hp4
   have n4l:p4≠l:=x3.ne hp4
   refine⟨_,rfl,l,3,rfl,x3.new hp4,by decide,fun d H5 d0 d1 x5 y5=>?_⟩
   have h45:=y5 _ _ (upd_same (H:=H3) (a:=p4) (o:=HO.lst [V.int 3,V.int 13])) n4l
   have hpick:∃ m:Int,0<m∧m≤13∧atI [V.int 3,V.int 13] (d/2)=some (V.int m):=by
    have:d=0∨d=1∨d=2:=by omega
    rcases this with rfl | rfl | rfl
    ·exact⟨3,by decide,by decide,rfl⟩
    ·exact⟨3,by decide,by decide,rfl⟩
    ·exact⟨13,by decide,by decide,rfl⟩
   obtain⟨m,m0,m1,hat⟩:=hpick
   refine⟨_,_,rfl,rfl,⟨by decide,by decide⟩,p4,_,_,_,rfl,rfl,SqL.of h45,hat,l,m,rfl,x5,m0,fun d2 H6 e0 e1 x6 y6=>?_⟩
   have Y:Ext l H3 H6:=((Ext.new hp4).trans y5).trans y6
   have L6:LnAt H6 rs ls:=⟨L.1,fun n r p a1 a2=>by
    obtain⟨qq,b1,b2⟩:=L.2 n r p a1 a2
    exact⟨qq,b1,Y _ _ b2 fun z=>by
     obtain⟨ms,e',_⟩:=x3
     rw[z,e'] at b2
     cases b2⟩⟩
   refine⟨h,q,rs,hs,ls,d2.toNat,by rw[Int.toNat_of_nonneg e0];rfl,Y _ _ hh3 hne,Y _ _ hq hql,L6,wh,wl,fun H7 s7=>?_⟩
   have hpl:p3≠l:=fun z=>by rw[z,hl0] at h3;cases h3
   refine⟨_,rfl,z4 rfl ?_⟩
   exact⟨_,_,_,_,rfl,s7 _ _ (Y _ _ (S3 _ _ h3) hpl)⟩
  ·rintro σ H0 ⟨o1,o2,o3,o4,rfl,h3⟩
   exact k H0
end
end K04
noncomputable section
noncomputable def PySem.W.Fast.tw6608145804847694286:=0
noncomputable def PySem.W.Fast.tw14633931826345236324:=0
noncomputable def PySem.W.Fast.tw8856144728478018897:=0
noncomputable def PySem.W.Fast.tw17062198468877432609:=0
noncomputable def PySem.W.Fast.tw10598372733321371305:=0
noncomputable def PySem.W.Fast.tw11616086253799572649:=0
noncomputable def PySem.W.Fast.tw17758467707605542250:=0
noncomputable def PySem.W.Fast.tw14338876466950056905:=0
noncomputable def PySem.W.Fast.tw6496138341281078435:=0
noncomputable def PySem.W.Fast.tw6216741656489410486:=0
noncomputable def PySem.W.Fast.tw6123116592370679677:=0
noncomputable def PySem.W.Fast.tw16627384631628985244:=0
noncomputable def PySem.W.Fast.tw1688954305291010661:=0
noncomputable def PySem.W.Fast.tw8697170791317315040:=0
noncomputable def PySem.W.Fast.tw10579265108948214604:=0
noncomputable def PySem.W.Fast.tw9532633636177338432:=0
noncomputable def PySem.W.Fast.tw3299963512692046226:=0
noncomputable def PySem.W.Fast.tw9316987155075272405:=0
noncomputable def PySem.W.Fast.tw5518260327533038333:=0
noncomputable def PySem.W.Fast.tw13793158388811680729:=0
noncomputable def PySem.W.Fast.tw10330366778594210143:=0
noncomputable def PySem.W.Fast.tw2679819212127310782:=0
noncomputable def PySem.W.Fast.tw1689613642844212636:=0
noncomputable def PySem.W.Fast.tw9031915412781655692:=0
noncomputable def PySem.W.Fast.tw3858109914732617049:=0
namespace Hd
open PySem PySem.W PySem.Calls PyProof.Rows
noncomputable abbrev pw:=PySem.Challenge.pw_beatless_k26_neighbours_trees_clusters
variable (P:Params)
noncomputable def tt {α:Type}(_:α):Bool:=true
noncomputable def S (i:Nat):Stmt:=pw.main.body.getD i (.Pass ⟨0,0,0,0⟩)
def fd (n q:Str) (s:Stmt) (g:Addr) (cl:List (Str×Addr)) (d k c m:Value) (an:Option Addr) (cd ct:Value) (b:Addr):FuncData :=
 ⟨n,q,L2.defArgs s,.stmts (L2.defBody s),L2.defScope s,g,cl,d,k,c,m,an,cd,ct,b⟩
noncomputable abbrev an:Option Value:=(Option.some (.ref 6))
noncomputable def env:Env:={ scope:=pw.main.scope,locals:=mainNs,globals:=mainNs,cells:=[],code:=(.ref 13),frame:=some 14 }
noncomputable abbrev bE:List Stmt:=behindTheImports pw
abbrev cE:Code:=.body bE env
noncomputable abbrev qE:Pos:=(Pos.mk 0 0 0 0)
noncomputable abbrev B:List Frame:=[topFrame qE]
def s0 (w:World) (os:OsState):Shared:=⟨boot_heap w.params,⟨[]⟩,boot_drawn,boot_toks,os⟩
noncomputable def zs:List Str:=List.map Str.ofString ["/claim/cut.py", "<module>", "__main__", "__name__", "beatless.errors", "__doc__", "__package__", "__loader__", "__spec__", "__annotations__", "__builtins__", "__file__", "__cached__", "_wall", "BeatlessError", "NoWeb", "k", "__module__", "__qualname__", "__firstlineno__", "__static_attributes__", "__weakref__", "beatless.ways", "NoHand", "is_whole", "copied", "value", "beatless.wholes", "Way", "first_joins", "next_ring", "__init__", "parent_of", "all_parents", "all_bridges", "path_up", "leader", "depth_of", "depth", "children", "bridges_at", "self", "parents", "bridges", "Way.__init__", "hand", "Way.parent_of", "Way.all_parents", "Way.all_bridges", "path", "above", "Way.path_up", "Way.leader", "Way.depth_of", "Way.depth", "Way.children", "Way.bridges_at", "own_bridges", "own_parents", "__dict__", "way", "lines", "found", "one", "other", "leaders", "web", "left", "ring", "beatless.webs", "parents_in_cluster", "by_clusters", "by_neighbours", "by_tree", "MOST_HANDS", "LAST_HAND", "are_hands", "is_line", "are_lines", "near_by_hand", "reach", "steps", "hands", "ahead", "line", "seen", "near", "law_beatless_k26_neighbours_trees_clusters", "Web", "_law_cell_at", "_law_draws", "_law_take", "_law_hands", "has_hand", "has_line", "neighbours", "groups", "group_of", "Web.__init__", "Web.hands", "Web.lines", "Web.has_hand", "Web.has_line", "Web.neighbours", "Web.groups", "Web.group_of", "own_hands", "own_lines", "_law_script", "_law_k", "_law_cell", "_law_many", "_law_found", "_law_rest", "_law_number", "_law_mixed", "_law_xs", "_law_size", "_law_lines", "_law_near", "_law_steps", "_law_way", "_law_told", "_law_right", "law", "_law_hands_here", "_law_way_here", "_law_j", "_law_near_here", "_law_draw", "_law_at", "_law_lines_here", "_law_left", "_law_leader", "_law_reach", "_law_steps_here", "_law_row", "_law_hand", "_law_other"]
def s (n:Nat):Str:=zs.getD n ⟨#[]⟩
noncomputable def k0:Value:=.type "tuple"
noncomputable def k1:Value:=.type "code"
noncomputable def k2:Value:=.type "function"
noncomputable def k3:Value:=.type "frame"
noncomputable def k4:Value:=.type "dict"
noncomputable def k5:Value:=.builtin "__main__.__loader__#opaque"
noncomputable def k6:Value:=.type "ValueError"
noncomputable def k7:Value:=.type "builtin_function_or_method"
noncomputable def k8:Value:=.builtin "type.__prepare__"
noncomputable def k9:Value:=.type "type"
noncomputable def k10:Value:=.type "Exception"
noncomputable def k11:Value:=.type "BaseException"
noncomputable def k12:Value:=.type "object"
noncomputable def k13:Value:=.builtin "ValueError.__new__"
noncomputable def k14:Value:=.type "getset_descriptor"
noncomputable def k15:Value:=.builtin "ExceptionGroup.__weakref__"
noncomputable def k16:Value:=.type "super"
noncomputable def k17:Value:=.builtin "object.__init_subclass__"
noncomputable def k18:Value:=.builtin "object.__new__"
noncomputable def k19:Value:=.builtin "function.__dict__"
noncomputable def k20:Value:=.builtin "function.__dict__#set"
instance (n:Nat):OfNat Value n:=⟨.ref n⟩
noncomputable def iv (n:Int):Value:=.int n 0
def sv (n:Nat) (t:Tok):Value:=.str (s n) t
def en (P:Params) (x:Nat) (t:Tok) (v:Value):DictEntry:=⟨PyData.keyHash P (s x),sv x t,v⟩
def tO (l:Array Value):Obj:=Obj.mk k0 .none (Data.seq l 0) #[]
noncomputable def vO (l:Array Value):Obj:=Obj.mk .none .none (Data.fields l) #[]
def cO (n q:Nat) (a b c:Tok) (l m:Int) (k:Int) (r1 r2 r3 r4 r5:Addr) (x:Int) (y:Tok):Obj:=Obj.mk k1 .none (Data.fields #[(sv n a),(sv q b),(.str (s 0) c),(.int l 0),(.int m 0),(.int 0 0),(.int 0 0),(.int k 0),(.ref r1),(.bool true),(.int 181 0),(.ref r2),.none,(.ref r3),(.ref r4),(.ref r5),(.int x 0),(.int l 0),(.str (s 0) y)]) #[]
def uO (n q:Nat) (z:Stmt) (m:Nat) (t:Tok) (r:Addr):Obj:=Obj.mk k2 .none (Data.func (fd (s n) (s q) z 3 [] .none .none .none (sv m t) .none (.ref r) .none 0)) #[]
def gO (n q:Nat) (z:Stmt):Obj:=Obj.mk .none .none (Data.func (fd (s n) (s q) z 0 [] .none .none .none .none .none .none .none 0)) #[]
def o0:=tO #[]
def o1:=vO #[]
def o2:=Obj.mk k1 .none (Data.fields #[(sv 1 182),(sv 1 183),(sv 0 184),(iv 1),(iv 0),(iv 0),(iv 0),(iv 0),11,(.bool false),(iv 181),12,.none,.none,.none,.none,(iv 185),(iv 1),(sv 0 186)]) #[]
def o3:=Obj.mk k3 .none Data.plain #[(some 13),(some 3),(some 3),.none,(some (sv 2 164)),.none,(some 0)]
noncomputable abbrev N:=@BT.node
def t14:=N (boot_o_0 P) (N (boot_o_1 P) (N (boot_o_3 P) (N (boot_o_7 P) .nil .nil) (N o0 .nil .nil)) (N (boot_o_5 P) (N (boot_o_9 P) .nil .nil) (N o2 .nil .nil))) (N (boot_o_2 P) (N (boot_o_4 P) (N (boot_o_8 P) .nil .nil) (N o1 .nil .nil)) (N (boot_o_6 P) (N (boot_o_10 P) .nil .nil) (N o3 .nil .nil)))
def sa (w:World) (os:OsState):SharedT:=⟨(t14 w.params),15,(Life.mk [] [] [] 0 [] [] false #[] [] 0 false false false 0 [2000,10,10] false 0 true [] [] 0 false),⟨[]⟩,(Drawn.mk 0 0 0 0),187,os⟩
def La (w:World) (os:OsState):Option (Shared×Thread):=topGo treeTable pw w 11 an 12 (s0 w os) (topStub pw)
def Ra (w:World) (os:OsState):Option (Shared×Thread):=some ((sa w os).abs,⟨denote treeTable cE,cE,(Pos.mk 0 0 0 0),B⟩)
theorem qa:tt (Hd.La,Hd.Ra)=true:=by k_qdec
theorem ra:∀ w,Fast.tw11367235000924431832 w=Fast.tw15912052731592885781 w:=fun w=>by kernel_rfl
theorem ea (w:World) (os:OsState):Hd.La w os=Hd.Ra w os:=((congrFun (congrFun Fast.te11367235000924431832 w) os).trans (congrFun (ra w) os)).trans (congrFun (congrFun Fast.te15912052731592885781 w) os).symm
def sb0 (w:World) (os:OsState):SharedT:=⟨(t14 w.params),15,(Life.mk [] [] [] 0 [] [] false #[] [] 0 false false false 0 [2000,10,10] false 0 true [] [] 0 false),⟨[]⟩,(Drawn.mk 0 0 0 0),187,os⟩
def Lb (w:World) (os:OsState):Option (Flow×SharedT×Code×Pos):=segRunT treeTable pw w 11 an 1 1 (sa w os) (blockOf bE env cE (Pos.mk 0 0 0 0) B)
def Rb (w:World) (os:OsState):Option (Flow×SharedT×Code×Pos):=some (.next,sb0 w os,cE,(Pos.mk 0 0 0 0))
theorem qb:tt (Hd.Lb,Hd.Rb)=true:=by k_qdec
theorem rb:∀ w,Fast.tw16430817790641568776 w=Hd.Rb w:=fun w=>by kernel_rfl
theorem eb (w:World) (os:OsState):Hd.Lb w os=Hd.Rb w os:=(congrFun (congrFun Fast.te16430817790641568776 w) os).trans (congrFun (rb w) os)
def zg2:List Stmt:=[S 0,S 1,S 2,S 3]
def o4:=Obj.mk k4 .none (Data.dict #[en P 3 165 (sv 4 194),en P 5 166 .none,en P 6 167 .none,en P 7 168 k5,en P 8 169 .none,en P 9 170 6,en P 10 171 4,en P 11 173 (sv 0 172),en P 12 174 .none,en P 13 193 21,en P 14 213 31,en P 15 229 44] 12) #[]
def o5:=vO #[(iv 1),(iv 0),20,(iv 5),(iv 0),27,(iv 7),(iv 0),40]
def o6:=tO #[]
def o7:=vO #[]
def o8:=tO #[(sv 16 190)]
def o9:=tO #[]
def o10:=gO 13 13 (S 0)
def o11:=cO 13 13 187 188 189 1 1 3 15 16 17 18 19 191 192
def o12:=uO 13 13 (S 0) 2 164 20
def o13:=tO #[k6]
def o14:=Obj.mk k7 .none (Data.fields #[k8,k9]) #[]
def o15:=Obj.mk k4 .none (Data.dict #[en P 17 203 (sv 4 194),en P 18 205 (sv 14 204),en P 19 207 (.int 5 206),en P 20 208 29] 4) #[]
def o16:=tO #[]
def o17:=vO #[]
def o18:=Obj.mk k1 .none (Data.fields #[(sv 14 198),(sv 14 199),(sv 0 200),(iv 5),(iv 0),(iv 0),(iv 0),(iv 0),25,(.bool false),(iv 181),26,.none,.none,.none,.none,(iv 201),(iv 5),(sv 0 202)]) #[]
def o19:=Obj.mk k3 .none Data.plain #[(some 27),(some 3),(some 24),.none,(some (sv 4 194)),.none,(some 0)]
def o20:=tO #[]
def o21:=Obj.mk k4 .none (Data.dict #[en P 17 203 (sv 4 194),en P 19 207 (.int 5 206),en P 20 208 29,en P 21 210 32,en P 5 211 .none] 3) #[]
def o22:=Obj.mk k9 .none (Data.cls (ClassData.mk (s 14) [k6] [31,k6,k10,k11,k12] 30 (s 14) true [] [44] false .none false)) #[(some 22),.none,(some (sv 14 196)),(some (sv 14 204)),(some k13),(some (.bool true))]
def o23:=Obj.mk k14 .none (Data.fields #[(sv 21 209),31,k15,.none]) #[]
def o24:=Obj.mk k16 .none (Data.fields #[31,31,31]) #[]
def o25:=Obj.mk k7 .none (Data.fields #[k17,31]) #[]
def o26:=tO #[31]
def o27:=Obj.mk k7 .none (Data.fields #[k8,k9]) #[]
def o28:=Obj.mk k4 .none (Data.dict #[en P 17 221 (sv 4 194),en P 18 223 (sv 15 222),en P 19 225 (.int 7 224),en P 20 226 42] 4) #[]
def o29:=tO #[]
def o30:=vO #[]
def o31:=Obj.mk k1 .none (Data.fields #[(sv 15 216),(sv 15 217),(sv 0 218),(iv 7),(iv 0),(iv 0),(iv 0),(iv 0),38,(.bool false),(iv 181),39,.none,.none,.none,.none,(iv 219),(iv 7),(sv 0 220)]) #[]
def o32:=Obj.mk k3 .none Data.plain #[(some 40),(some 3),(some 37),.none,(some (sv 4 194)),.none,(some 0)]
def o33:=tO #[]
def o34:=Obj.mk k4 .none (Data.dict #[en P 17 221 (sv 4 194),en P 19 225 (.int 7 224),en P 20 226 42,en P 5 227 .none] 2) #[]
def o35:=Obj.mk k9 .none (Data.cls (ClassData.mk (s 15) [31] [44,31,k6,k10,k11,k12] 43 (s 15) true [] [] false .none false)) #[(some 35),.none,(some (sv 15 214)),(some (sv 15 222)),(some k13),(some (.bool true))]
def o36:=Obj.mk k16 .none (Data.fields #[44,44,44]) #[]
def o37:=Obj.mk k7 .none (Data.fields #[k17,44]) #[]
def t17:=N o30 .nil .nil
def t22:=N (o34 P) .nil .nil
def t28:=N o32 .nil .nil
def t33:=N o36 .nil .nil
def t40:=N o31 .nil .nil
def t45:=N o35 .nil .nil
def t51:=N o33 .nil .nil
def t56:=N o37 .nil .nil
def t60:=N (boot_o_2 P) (N (boot_o_4 P) (N (boot_o_8 P) (N o7 (N o23 .nil .nil) .nil) (N (o15 P) t40 .nil)) (N o5 (N o11 (N o27 .nil .nil) .nil) (N o19 t45 .nil))) (N (boot_o_6 P) (N (boot_o_10 P) (N o9 (N o25 .nil .nil) .nil) (N o17 t51 .nil)) (N o3 (N o13 (N o29 .nil .nil) .nil) (N (o21 P) t56 .nil)))
def t61:=N (boot_o_0 P) (N (boot_o_1 P) (N (o4 P) (N (boot_o_7 P) (N o6 (N o22 .nil .nil) .nil) (N o14 t17 .nil)) (N o0 (N o10 (N o26 .nil .nil) .nil) (N o18 (t22 P) .nil))) (N (boot_o_5 P) (N (boot_o_9 P) (N o8 (N o24 .nil .nil) .nil) (N o16 t28 .nil)) (N o2 (N o12 (N (o28 P) .nil .nil) .nil) (N o20 t33 .nil)))) (t60 P)
def sb1 (w:World) (os:OsState):SharedT:=⟨(t61 w.params),47,(Life.mk [] [] [] 0 [] [] false #[] [] 0 false false false 0 [2000,10,10] false 0 true [] [] 0 false),⟨[]⟩,(Drawn.mk 0 0 0 0),230,os⟩
def L0 (w:World) (os:OsState):Option (Flow×SharedT×Code×Pos):=segRunT treeTable pw w 11 an 1 438 (sb0 w os) (piecesOf zg2 env cE (Pos.mk 0 0 0 0) B)
def R0 (w:World) (os:OsState):Option (Flow×SharedT×Code×Pos):=some (.next,sb1 w os,cE,(Pos.mk 7 0 8 8))
theorem q0:tt (Hd.L0,Hd.R0)=true:=by k_qdec
theorem r0:∀ w,Fast.tw4453942571644881324 w=Hd.R0 w:=fun w=>by kernel_rfl
theorem e0 (w:World) (os:OsState):Hd.L0 w os=Hd.R0 w os:=(congrFun (congrFun Fast.te4453942571644881324 w) os).trans (congrFun (r0 w) os)
def zg1:List Stmt:=[S 4,S 5,S 6,S 7,S 8]
def o38:=Obj.mk k4 .none (Data.dict #[en P 3 165 (sv 22 255),en P 5 166 .none,en P 6 167 .none,en P 7 168 k5,en P 8 169 .none,en P 9 170 6,en P 10 171 4,en P 11 173 (sv 0 172),en P 12 174 .none,en P 13 193 21,en P 14 213 31,en P 15 229 44,en P 23 245 56,en P 24 254 65,en P 25 262 70] 15) #[]
def o39:=vO #[(iv 1),(iv 0),20,(iv 5),(iv 0),27,(iv 7),(iv 0),40,(iv 9),(iv 0),52,(iv 12),(iv 0),64,(iv 15),(iv 0),69]
def o40:=Obj.mk k9 .none (Data.cls (ClassData.mk (s 14) [k6] [31,k6,k10,k11,k12] 30 (s 14) true [] [44,56] false .none false)) #[(some 22),.none,(some (sv 14 196)),(some (sv 14 204)),(some k13),(some (.bool true))]
def o41:=tO #[31]
def o42:=Obj.mk k7 .none (Data.fields #[k8,k9]) #[]
def o43:=Obj.mk k4 .none (Data.dict #[en P 17 237 (sv 4 194),en P 18 239 (sv 23 238),en P 19 241 (.int 9 240),en P 20 242 54] 4) #[]
def o44:=tO #[]
def o45:=vO #[]
def o46:=Obj.mk k1 .none (Data.fields #[(sv 23 232),(sv 23 233),(sv 0 234),(iv 9),(iv 0),(iv 0),(iv 0),(iv 0),50,(.bool false),(iv 181),51,.none,.none,.none,.none,(iv 235),(iv 9),(sv 0 236)]) #[]
def o47:=Obj.mk k3 .none Data.plain #[(some 52),(some 3),(some 49),.none,(some (sv 4 194)),.none,(some 0)]
def o48:=tO #[]
def o49:=Obj.mk k4 .none (Data.dict #[en P 17 237 (sv 4 194),en P 19 241 (.int 9 240),en P 20 242 54,en P 5 243 .none] 2) #[]
def o50:=Obj.mk k9 .none (Data.cls (ClassData.mk (s 23) [31] [56,31,k6,k10,k11,k12] 55 (s 23) true [] [] false .none false)) #[(some 47),.none,(some (sv 23 230)),(some (sv 23 238)),(some k13),(some (.bool true))]
def o51:=Obj.mk k16 .none (Data.fields #[56,56,56]) #[]
def o52:=Obj.mk k7 .none (Data.fields #[k17,56]) #[]
def o53:=tO #[]
def o54:=vO #[]
def o55:=tO #[(sv 26 251)]
def o56:=tO #[]
def o57:=gO 24 24 (S 6)
def o58:=cO 24 24 248 249 250 12 1 3 59 60 61 62 63 252 253
def o59:=uO 24 24 (S 6) 27 246 64
def o60:=tO #[]
def o61:=vO #[]
def o62:=gO 25 25 (S 8)
def o63:=Obj.mk k1 .none (Data.fields #[(sv 25 257),(sv 25 258),(sv 0 259),(iv 15),(iv 1),(iv 0),(iv 0),(iv 3),66,(.bool true),(iv 181),67,.none,.none,.none,68,(iv 260),(iv 15),(sv 0 261)]) #[]
def o64:=uO 25 25 (S 8) 22 255 69
def t91:=N (boot_o_5 P) (N (boot_o_9 P) (N o8 (N o24 (N o59 .nil .nil) .nil) (N (o43 P) .nil .nil)) (N o16 t28 (N o51 .nil .nil))) (N o2 (N o12 (N (o28 P) (N o63 .nil .nil) .nil) (N o47 .nil .nil)) (N o20 t33 (N o55 .nil .nil)))
def ziz:=N (boot_o_6 P) (N (boot_o_10 P) (N o9 (N o25 (N o60 .nil .nil) .nil) (N o44 .nil .nil)) (N o17 t51 (N o52 .nil .nil))) (N o3 (N o13 (N o29 (N o64 .nil .nil) .nil) (N o48 .nil .nil)) (N (o21 P) t56 (N o56 .nil .nil)))
def ziy:=N (boot_o_2 P) (N (boot_o_4 P) (N (boot_o_8 P) (N o7 (N o23 (N o58 .nil .nil) .nil) (N o42 .nil .nil)) (N (o15 P) t40 (N o50 .nil .nil))) (N o39 (N o11 (N o27 (N o62 .nil .nil) .nil) (N o46 .nil .nil)) (N o19 t45 (N o54 .nil .nil)))) (ziz P)
def zix:=N (boot_o_0 P) (N (boot_o_1 P) (N (o38 P) (N (boot_o_7 P) (N o6 (N o40 (N o57 .nil .nil) .nil) (N o41 .nil .nil)) (N o14 t17 (N (o49 P) .nil .nil))) (N o0 (N o10 (N o26 (N o61 .nil .nil) .nil) (N o45 .nil .nil)) (N o18 (t22 P) (N o53 .nil .nil)))) (t91 P)) (ziy P)
def sb2 (w:World) (os:OsState):SharedT:=⟨(zix w.params),71,(Life.mk [] [] [] 0 [] [] false #[] [] 0 false false false 0 [2000,10,10] false 0 true [] [] 0 false),⟨[]⟩,(Drawn.mk 0 0 0 0),263,os⟩
def L1 (w:World) (os:OsState):Option (Flow×SharedT×Code×Pos):=segRunT treeTable pw w 11 an 1 287 (sb1 w os) (piecesOf zg1 env cE (Pos.mk 7 0 8 8) B)
def R1 (w:World) (os:OsState):Option (Flow×SharedT×Code×Pos):=some (.next,sb2 w os,cE,(Pos.mk 15 0 22 16))
theorem q1:tt (Hd.L1,Hd.R1)=true:=by k_qdec
theorem r1:∀ w,Fast.tw6387051279210280424 w=Hd.R1 w:=fun w=>by kernel_rfl
theorem e1 (w:World) (os:OsState):Hd.L1 w os=Hd.R1 w os:=(congrFun (congrFun Fast.te6387051279210280424 w) os).trans (congrFun (r1 w) os)
def zg0:List Stmt:=[S 9,S 10,S 11]
def o65:=Obj.mk k4 .none (Data.dict #[en P 3 165 (sv 22 255),en P 5 166 .none,en P 6 167 .none,en P 7 168 k5,en P 8 169 .none,en P 9 170 6,en P 10 171 4,en P 11 173 (sv 0 172),en P 12 174 .none,en P 13 193 21,en P 14 213 31,en P 15 229 44,en P 23 245 56,en P 24 254 65,en P 25 262 70,en P 28 364 150,en P 29 376 161,en P 30 389 168] 18) #[]
def o66:=vO #[(iv 1),(iv 0),20,(iv 5),(iv 0),27,(iv 7),(iv 0),40,(iv 9),(iv 0),52,(iv 12),(iv 0),64,(iv 15),(iv 0),69,(iv 23),(iv 0),76,(iv 60),(iv 0),160,(iv 67),(iv 0),167]
def o67:=tO #[]
def o68:=Obj.mk k7 .none (Data.fields #[k8,k9]) #[]
def o69:=Obj.mk k4 .none (Data.dict #[en P 17 270 (sv 22 255),en P 18 272 (sv 28 271),en P 19 274 (.int 23 273),en P 31 283 84,en P 32 291 91,en P 33 298 98,en P 34 305 105,en P 35 315 112,en P 36 323 119,en P 37 331 126,en P 38 338 133,en P 39 346 140,en P 40 354 147,en P 20 357 148] 14) #[]
def o70:=tO #[]
def o71:=vO #[(iv 25),(iv 4),83,(iv 29),(iv 4),90,(iv 32),(iv 4),97,(iv 35),(iv 4),104,(iv 38),(iv 4),111,(iv 46),(iv 4),118,(iv 49),(iv 4),125,(iv 52),(iv 4),132,(iv 55),(iv 4),139,(iv 58),(iv 4),146]
def o72:=Obj.mk k1 .none (Data.fields #[(sv 28 265),(sv 28 266),(sv 0 267),(iv 23),(iv 0),(iv 0),(iv 0),(iv 0),74,(.bool false),(iv 181),75,.none,.none,.none,.none,(iv 268),(iv 23),(sv 0 269)]) #[]
def o73:=Obj.mk k3 .none Data.plain #[(some 76),(some 3),(some 73),.none,(some (sv 22 255)),.none,(some 0)]
def o74:=tO #[]
def o75:=vO #[]
def o76:=tO #[(sv 41 278),(sv 42 279),(sv 43 280)]
def o77:=tO #[]
def o78:=gO 31 44 (L2.inClass (S 9) 0)
def o79:=cO 31 44 275 276 277 25 3 3 78 79 80 81 82 281 282
def o80:=uO 31 44 (L2.inClass (S 9) 0) 22 255 83
def o81:=tO #[]
def o82:=vO #[]
def o83:=tO #[(sv 41 287),(sv 45 288)]
def o84:=tO #[]
def o85:=gO 32 46 (L2.inClass (S 9) 1)
def o86:=cO 32 46 284 285 286 29 2 3 85 86 87 88 89 289 290
def o87:=uO 32 46 (L2.inClass (S 9) 1) 22 255 90
def o88:=tO #[]
def o89:=vO #[]
def o90:=tO #[(sv 41 295)]
def o91:=tO #[]
def o92:=gO 33 47 (L2.inClass (S 9) 2)
def o93:=cO 33 47 292 293 294 32 1 3 92 93 94 95 96 296 297
def o94:=uO 33 47 (L2.inClass (S 9) 2) 22 255 97
def o95:=tO #[]
def o96:=vO #[]
def o97:=tO #[(sv 41 302)]
def o98:=tO #[]
def o99:=gO 34 48 (L2.inClass (S 9) 3)
def US:=cO 34 48 299 300 301 35 1 3 99 100 101 102 103 303 304
def VI:=uO 34 48 (L2.inClass (S 9) 3) 22 255 104
def UR:=tO #[]
def zbC:=vO #[]
def UQ:=tO #[(sv 41 309),(sv 45 310),(sv 49 311),(sv 50 312)]
def UP:=tO #[]
def zbB:=gO 35 51 (L2.inClass (S 9) 4)
def UO:=cO 35 51 306 307 308 38 2 3 106 107 108 109 110 313 314
def UN:=uO 35 51 (L2.inClass (S 9) 4) 22 255 111
def UM:=tO #[]
def zbA:=vO #[]
def UL:=tO #[(sv 41 319),(sv 45 320)]
def UK:=tO #[]
def zbz:=gO 36 52 (L2.inClass (S 9) 5)
def UJ:=cO 36 52 316 317 318 46 2 3 113 114 115 116 117 321 322
def UI:=uO 36 52 (L2.inClass (S 9) 5) 22 255 118
def UH:=tO #[]
def zby:=vO #[]
def UG:=tO #[(sv 41 327),(sv 45 328)]
def UF:=tO #[]
def zbx:=gO 37 53 (L2.inClass (S 9) 6)
def UE:=cO 37 53 324 325 326 49 2 3 120 121 122 123 124 329 330
def UD:=uO 37 53 (L2.inClass (S 9) 6) 22 255 125
def zbw:=tO #[]
def zen:=vO #[]
def zbv:=tO #[(sv 41 335)]
def zbu:=tO #[]
def zem:=gO 38 54 (L2.inClass (S 9) 7)
def zbt:=cO 38 54 332 333 334 52 1 3 127 128 129 130 131 336 337
def zbs:=uO 38 54 (L2.inClass (S 9) 7) 22 255 132
def zbr:=tO #[]
def zel:=vO #[]
def zbq:=tO #[(sv 41 342),(sv 45 343)]
def zbp:=tO #[]
def zek:=gO 39 55 (L2.inClass (S 9) 8)
def zbo:=cO 39 55 339 340 341 55 2 3 134 135 136 137 138 344 345
def zbn:=uO 39 55 (L2.inClass (S 9) 8) 22 255 139
def zbm:=tO #[]
def zej:=vO #[]
def zbl:=tO #[(sv 41 350),(sv 45 351)]
def zbk:=tO #[]
def zei:=gO 40 56 (L2.inClass (S 9) 9)
def zbj:=cO 40 56 347 348 349 58 2 3 141 142 143 144 145 352 353
def zbi:=uO 40 56 (L2.inClass (S 9) 9) 22 255 146
def zbh:=tO #[(sv 57 355),(sv 58 356)]
def zbg:=Obj.mk k4 .none (Data.dict #[en P 17 270 (sv 22 255),en P 19 274 (.int 23 273),en P 31 283 84,en P 32 291 91,en P 33 298 98,en P 34 305 105,en P 35 315 112,en P 36 323 119,en P 37 331 126,en P 38 338 133,en P 39 346 140,en P 40 354 147,en P 20 357 148,en P 59 359 151,en P 21 361 152,en P 5 362 .none] 4) #[]
def zbf:=Obj.mk k9 .none (Data.cls (ClassData.mk (s 28) [k12] [150,k12] 149 (s 28) true [] [] false .none false)) #[.none,.none,(some (sv 28 263)),(some (sv 28 271)),(some k18),(some (.bool true))]
def zbe:=Obj.mk k14 .none (Data.fields #[(sv 59 358),150,k19,k20]) #[]
def zbd:=Obj.mk k14 .none (Data.fields #[(sv 21 360),150,k15,.none]) #[]
def zeh:=Obj.mk k16 .none (Data.fields #[150,150,150]) #[]
def zeg:=Obj.mk k7 .none (Data.fields #[k17,150]) #[]
def zbc:=tO #[]
def zef:=vO #[]
def zbb:=tO #[(sv 60 368),(sv 61 369),(sv 62 370),(sv 63 371),(sv 64 372),(sv 65 373)]
def zba:=tO #[]
def zee:=gO 29 29 (S 10)
def za9:=cO 29 29 365 366 367 60 2 3 155 156 157 158 159 374 375
def za8:=uO 29 29 (S 10) 22 255 160
def za7:=tO #[]
def zed:=vO #[]
def za6:=tO #[(sv 66 380),(sv 67 381),(sv 42 382),(sv 68 383),(sv 62 384),(sv 45 385),(sv 64 386)]
def za5:=tO #[]
def zec:=gO 30 30 (S 11)
def za4:=cO 30 30 377 378 379 67 4 3 162 163 164 165 166 387 388
def za3:=uO 30 30 (S 11) 22 255 167
def zgW:=N zbw .nil .nil
def zgV:=N o91 (N zee .nil .nil) .nil
def zgU:=N zbl .nil .nil
def zgT:=N zel .nil .nil
def zgS:=N o99 (N za4 .nil .nil) .nil
def zgR:=N zbe .nil .nil
def zgQ:=N zem .nil .nil
def zgP:=N o95 (N zed .nil .nil) .nil
def zgO:=N zbi .nil .nil
def zgN:=N zbo .nil .nil
def zgM:=N zbc .nil .nil
def ziw:=N o0 (N o10 (N o26 (N o61 zgQ .nil) zgP) (N o45 (N o79 zgO .nil) (N UL .nil .nil))) (N o18 (N (o34 P) (N o71 zgN .nil) (N zbC .nil .nil)) (N o53 (N o87 zgM .nil) (N UF .nil .nil)))
def zgL:=N zbv .nil .nil
def zgK:=N o93 (N za8 .nil .nil) .nil
def zgJ:=N zei .nil .nil
def zgI:=N zbp .nil .nil
def zgH:=N zeh .nil .nil
def zgG:=N zbs .nil .nil
def zgF:=N o97 (N za5 .nil .nil) .nil
def zgE:=N (zbg P) .nil .nil
def zgD:=N zbm .nil .nil
def zgC:=N zbb .nil .nil
def ziv:=N o2 (N o12 (N (o28 P) (N o63 zgG .nil) zgF) (N o47 (N o81 (zgE P) .nil) (N zbz .nil .nil))) (N o20 (N o36 (N o73 zgD .nil) (N UP .nil .nil)) (N o55 (N o89 zgC .nil) (N UE .nil .nil)))
def ziu:=N (boot_o_5 P) (N (boot_o_9 P) (N o8 (N o24 (N o59 zgL .nil) zgK) (N (o43 P) (N o77 zgJ .nil) (N UM .nil .nil))) (N o16 (N o32 (N (o69 P) zgI .nil) (N VI .nil .nil)) (N o51 (N o85 zgH .nil) (N zby .nil .nil)))) (ziv P)
def zgB:=N zen .nil .nil
def zgA:=N o92 (N za9 .nil .nil) .nil
def zgz:=N zbk .nil .nil
def zgy:=N zbq .nil .nil
def zgx:=N US (N za3 .nil .nil) .nil
def zgw:=N zbd .nil .nil
def zgv:=N zbt .nil .nil
def zgu:=N o96 (N za6 .nil .nil) .nil
def zgt:=N zbh .nil .nil
def zgs:=N zbn .nil .nil
def zgr:=N zef .nil .nil
def zit:=N o66 (N o11 (N o27 (N o62 zgv .nil) zgu) (N o46 (N o80 zgt .nil) (N UK .nil .nil))) (N o19 (N o35 (N o72 zgs .nil) (N UQ .nil .nil)) (N o54 (N o88 zgr .nil) (N zbx .nil .nil)))
def zgq:=N zbu .nil .nil
def zgp:=N o94 (N za7 .nil .nil) .nil
def zgo:=N zbj .nil .nil
def zgn:=N zek .nil .nil
def zgm:=N zeg .nil .nil
def zgl:=N zbr .nil .nil
def zgk:=N o98 (N zec .nil .nil) .nil
def zgj:=N zbf .nil .nil
def zgi:=N zej .nil .nil
def zgh:=N zba .nil .nil
def zis:=N o3 (N o13 (N o29 (N o64 zgl .nil) zgk) (N o48 (N o82 zgj .nil) (N UJ .nil .nil))) (N (o21 P) (N o37 (N o74 zgi .nil) (N zbB .nil .nil)) (N o56 (N o90 zgh .nil) (N UD .nil .nil)))
def zir:=N (boot_o_6 P) (N (boot_o_10 P) (N o9 (N o25 (N o60 zgq .nil) zgp) (N o44 (N o78 zgo .nil) (N zbA .nil .nil))) (N o17 (N o33 (N o70 zgn .nil) (N UR .nil .nil)) (N o52 (N o86 zgm .nil) (N UG .nil .nil)))) (zis P)
def ziq:=N (boot_o_2 P) (N (boot_o_4 P) (N (boot_o_8 P) (N o7 (N o23 (N o58 zgB .nil) zgA) (N o42 (N o76 zgz .nil) (N UN .nil .nil))) (N (o15 P) (N o31 (N o68 zgy .nil) zgx) (N o50 (N o84 zgw .nil) (N UH .nil .nil)))) zit) (zir P)
def zio:=N (boot_o_0 P) (N (boot_o_1 P) (N (o65 P) (N (boot_o_7 P) (N o6 (N o40 (N o57 zgW .nil) zgV) (N o41 (N o75 zgU .nil) (N UO .nil .nil))) (N o14 (N o30 (N o67 zgT .nil) zgS) (N (o49 P) (N o83 zgR .nil) (N UI .nil .nil)))) (ziw P)) (ziu P)) (ziq P)
def sb3 (w:World) (os:OsState):SharedT:=⟨(zio w.params),169,(Life.mk [] [] [] 0 [] [] false #[] [] 0 false false false 0 [2000,10,10] false 0 true [] [] 0 false),⟨[]⟩,(Drawn.mk 0 0 0 0),390,os⟩
def L2 (w:World) (os:OsState):Option (Flow×SharedT×Code×Pos):=segRunT treeTable pw w 11 an 1 581 (sb2 w os) (piecesOf zg0 env cE (Pos.mk 15 0 22 16) B)
def R2 (w:World) (os:OsState):Option (Flow×SharedT×Code×Pos):=some (.next,sb3 w os,cE,(Pos.mk 67 0 73 16))
theorem q2:tt (Hd.L2,Hd.R2)=true:=by k_qdec
theorem r2:∀ w,Fast.tw9171306275460833034 w=Hd.R2 w:=fun w=>by kernel_rfl
theorem e2 (w:World) (os:OsState):Hd.L2 w os=Hd.R2 w os:=(congrFun (congrFun Fast.te9171306275460833034 w) os).trans (congrFun (r2 w) os)
def zgZ:List Stmt:=[S 12,S 13,S 14,S 15,S 16,S 17,S 18,S 19,S 20,S 21,S 22]
def ziV:=Obj.mk k4 .none (Data.dict #[en P 3 165 (sv 69 423),en P 5 166 .none,en P 6 167 .none,en P 7 168 k5,en P 8 169 .none,en P 9 170 6,en P 10 171 4,en P 11 173 (sv 0 172),en P 12 174 .none,en P 13 193 21,en P 14 213 31,en P 15 229 44,en P 23 245 56,en P 24 254 65,en P 25 262 70,en P 28 364 150,en P 29 376 161,en P 30 389 168,en P 70 402 175,en P 71 408 180,en P 72 415 187,en P 73 422 194,en P 74 426 (.int 12 425),en P 75 428 (.int 99 427),en P 76 437 201,en P 77 445 208,en P 78 455 215,en P 79 467 222] 28) #[]
def ziU:=vO #[(iv 1),(iv 0),20,(iv 5),(iv 0),27,(iv 7),(iv 0),40,(iv 9),(iv 0),52,(iv 12),(iv 0),64,(iv 15),(iv 0),69,(iv 23),(iv 0),76,(iv 60),(iv 0),160,(iv 67),(iv 0),167,(iv 74),(iv 0),174,(iv 84),(iv 0),179,(iv 92),(iv 0),186,(iv 94),(iv 0),193,(iv 99),(iv 0),200,(iv 108),(iv 0),207,(iv 114),(iv 0),214,(iv 123),(iv 0),221]
def za2:=tO #[]
def zeb:=vO #[]
def za1:=tO #[(sv 66 393),(sv 67 394),(sv 80 395),(sv 42 396),(sv 68 397),(sv 81 398),(sv 62 399)]
def za0:=tO #[]
def zea:=gO 70 70 (S 12)
def zaZ:=cO 70 70 390 391 392 74 3 3 169 170 171 172 173 400 401
def zaY:=uO 70 70 (S 12) 22 255 174
def zaX:=tO #[]
def zd9:=vO #[]
def zd8:=gO 71 71 (S 13)
def zaW:=Obj.mk k1 .none (Data.fields #[(sv 71 403),(sv 71 404),(sv 0 405),(iv 84),(iv 2),(iv 0),(iv 0),(iv 3),176,(.bool true),(iv 181),177,.none,.none,.none,178,(iv 406),(iv 84),(sv 0 407)]) #[]
def zaV:=uO 71 71 (S 13) 22 255 179
def zaU:=tO #[]
def zd7:=vO #[]
def zaT:=tO #[(sv 66 412)]
def zaS:=tO #[]
def zd6:=gO 72 72 (S 14)
def zaR:=cO 72 72 409 410 411 92 1 3 181 182 183 184 185 413 414
def zaQ:=uO 72 72 (S 14) 22 255 186
def zaP:=tO #[]
def zd5:=vO #[]
def zaO:=tO #[(sv 66 419)]
def zaN:=tO #[]
def zd4:=gO 73 73 (S 15)
def zaM:=cO 73 73 416 417 418 94 1 3 188 189 190 191 192 420 421
def zaL:=uO 73 73 (S 15) 22 255 193
def zaK:=tO #[]
def zd3:=vO #[]
def zaJ:=tO #[(sv 82 432),(sv 83 433),(sv 45 434)]
def zaI:=tO #[]
def zd2:=gO 76 76 (S 19)
def zaH:=cO 76 76 429 430 431 99 1 3 195 196 197 198 199 435 436
def zaG:=uO 76 76 (S 19) 69 423 200
def zaF:=tO #[]
def zd1:=vO #[]
def zaE:=tO #[(sv 84 441),(sv 82 442)]
def zaD:=tO #[]
def zd0:=gO 77 77 (S 20)
def zaC:=cO 77 77 438 439 440 108 2 3 202 203 204 205 206 443 444
def zaB:=uO 77 77 (S 20) 69 423 207
def zaA:=tO #[]
def zdZ:=vO #[]
def zaz:=tO #[(sv 61 449),(sv 82 450),(sv 85 451),(sv 84 452)]
def zay:=tO #[]
def zdY:=gO 78 78 (S 21)
def zax:=cO 78 78 446 447 448 114 2 3 209 210 211 212 213 453 454
def zaw:=uO 78 78 (S 21) 69 423 214
def zav:=tO #[]
def zdX:=vO #[]
def zau:=tO #[(sv 82 459),(sv 61 460),(sv 86 461),(sv 45 462),(sv 63 463),(sv 64 464)]
def zat:=tO #[]
def zdW:=gO 79 79 (S 22)
def zas:=cO 79 79 456 457 458 123 2 3 216 217 218 219 220 465 466
def zar:=uO 79 79 (S 22) 69 423 221
def zgg:=N zaN .nil .nil
def zgf:=N zaC .nil .nil
def zge:=N zd2 .nil .nil
def zgd:=N zaw .nil .nil
def zgc:=N zaK .nil .nil
def zgb:=N zaz .nil .nil
def zga:=N zd1 .nil .nil
def zf9:=N zat .nil .nil
def zin:=N o0 (N o10 (N o26 (N o61 zgQ zgc) zgP) (N o45 (N o79 zgO zgb) (N UL (N zaW .nil .nil) .nil))) (N o18 (N (o34 P) (N o71 zgN zga) (N zbC (N za1 .nil .nil) .nil)) (N o53 (N o87 zgM zf9) (N UF (N zaQ .nil .nil) .nil)))
def zf8:=N zaM .nil .nil
def zf7:=N zaA .nil .nil
def zf6:=N zaG .nil .nil
def zf5:=N zdX .nil .nil
def zf4:=N zaJ .nil .nil
def zf3:=N zdY .nil .nil
def zf2:=N zaD .nil .nil
def zf1:=N zas .nil .nil
def zim:=N o2 (N o12 (N (o28 P) (N o63 zgG zf4) zgF) (N o47 (N o81 (zgE P) zf3) (N zbz (N zaU .nil .nil) .nil))) (N o20 (N o36 (N o73 zgD zf2) (N UP (N zea .nil .nil) .nil)) (N o55 (N o89 zgC zf1) (N UE (N zd5 .nil .nil) .nil)))
def zil:=N (boot_o_5 P) (N (boot_o_9 P) (N o8 (N o24 (N o59 zgL zf8) zgK) (N (o43 P) (N o77 zgJ zf7) (N UM (N zd9 .nil .nil) .nil))) (N o16 (N o32 (N (o69 P) zgI zf6) (N VI (N za2 .nil .nil) .nil)) (N o51 (N o85 zgH zf5) (N zby (N zd6 .nil .nil) .nil)))) (zim P)
def zf0:=N zd4 .nil .nil
def zfZ:=N zaB .nil .nil
def zfY:=N zaH .nil .nil
def zfX:=N zav .nil .nil
def zfW:=N zd3 .nil .nil
def zfV:=N zay .nil .nil
def zfU:=N zaE .nil .nil
def zfT:=N zdW .nil .nil
def zik:=N ziU (N o11 (N o27 (N o62 zgv zfW) zgu) (N o46 (N o80 zgt zfV) (N UK (N zaV .nil .nil) .nil))) (N o19 (N o35 (N o72 zgs zfU) (N UQ (N za0 .nil .nil) .nil)) (N o54 (N o88 zgr zfT) (N zbx (N zaP .nil .nil) .nil)))
def zfS:=N zaL .nil .nil
def zfR:=N zdZ .nil .nil
def zfQ:=N zaF .nil .nil
def zfP:=N zau .nil .nil
def zfO:=N zaI .nil .nil
def zfN:=N zax .nil .nil
def zfM:=N zd0 .nil .nil
def zfL:=N zar .nil .nil
def zij:=N o3 (N o13 (N o29 (N o64 zgl zfO) zgk) (N o48 (N o82 zgj zfN) (N UJ (N zd7 .nil .nil) .nil))) (N (o21 P) (N o37 (N o74 zgi zfM) (N zbB (N zaZ .nil .nil) .nil)) (N o56 (N o90 zgh zfL) (N UD (N zaO .nil .nil) .nil)))
def zii:=N (boot_o_6 P) (N (boot_o_10 P) (N o9 (N o25 (N o60 zgq zfS) zgp) (N o44 (N o78 zgo zfR) (N zbA (N zd8 .nil .nil) .nil))) (N o17 (N o33 (N o70 zgn zfQ) (N UR (N zeb .nil .nil) .nil)) (N o52 (N o86 zgm zfP) (N UG (N zaR .nil .nil) .nil)))) (zij P)
def zih:=N (boot_o_2 P) (N (boot_o_4 P) (N (boot_o_8 P) (N o7 (N o23 (N o58 zgB zf0) zgA) (N o42 (N o76 zgz zfZ) (N UN (N zaX .nil .nil) .nil))) (N (o15 P) (N o31 (N o68 zgy zfY) zgx) (N o50 (N o84 zgw zfX) (N UH (N zaS .nil .nil) .nil)))) zik) (zii P)
def zig:=N (boot_o_0 P) (N (boot_o_1 P) (N (ziV P) (N (boot_o_7 P) (N o6 (N o40 (N o57 zgW zgg) zgV) (N o41 (N o75 zgU zgf) (N UO (N zaY .nil .nil) .nil))) (N o14 (N o30 (N o67 zgT zge) zgS) (N (o49 P) (N o83 zgR zgd) (N UI (N zaT .nil .nil) .nil)))) (zin P)) (zil P)) (zih P)
def sb4 (w:World) (os:OsState):SharedT:=⟨(zig w.params),223,(Life.mk [] [] [] 0 [] [] false #[] [] 0 false false false 0 [2000,10,10] false 0 true [] [] 0 false),⟨[]⟩,(Drawn.mk 0 0 0 0),468,os⟩
def L3 (w:World) (os:OsState):Option (Flow×SharedT×Code×Pos):=segRunT treeTable pw w 11 an 1 274 (sb3 w os) (piecesOf zgZ env cE (Pos.mk 67 0 73 16) B)
def R3 (w:World) (os:OsState):Option (Flow×SharedT×Code×Pos):=some (.next,sb4 w os,cE,(Pos.mk 123 0 130 15))
theorem q3:tt (Hd.L3,Hd.R3)=true:=by k_qdec
theorem r3:∀ w,Fast.tw6196771281854559479 w=Hd.R3 w:=fun w=>by kernel_rfl
theorem e3 (w:World) (os:OsState):Hd.L3 w os=Hd.R3 w os:=(congrFun (congrFun Fast.te6196771281854559479 w) os).trans (congrFun (r3 w) os)
def zgY:List Stmt:=[S 23,S 24,S 25,S 26,S 27,S 28]
def ziT:=Obj.mk k4 .none (Data.dict #[en P 3 165 (sv 87 554),en P 5 166 .none,en P 6 167 .none,en P 7 168 k5,en P 8 169 .none,en P 9 170 6,en P 10 171 4,en P 11 173 (sv 0 172),en P 12 174 .none,en P 13 193 21,en P 14 213 31,en P 15 229 44,en P 23 245 56,en P 24 254 65,en P 25 262 70,en P 28 364 150,en P 29 376 161,en P 30 389 168,en P 70 402 175,en P 71 408 180,en P 72 415 187,en P 73 422 194,en P 74 426 (.int 12 425),en P 75 428 (.int 99 427),en P 76 437 201,en P 77 445 208,en P 78 455 215,en P 79 467 222,en P 88 553 288,en P 89 563 299,en P 90 576 306,en P 91 584 313,en P 92 590 318] 33) #[]
def ziS:=vO #[(iv 1),(iv 0),20,(iv 5),(iv 0),27,(iv 7),(iv 0),40,(iv 9),(iv 0),52,(iv 12),(iv 0),64,(iv 15),(iv 0),69,(iv 23),(iv 0),76,(iv 60),(iv 0),160,(iv 67),(iv 0),167,(iv 74),(iv 0),174,(iv 84),(iv 0),179,(iv 92),(iv 0),186,(iv 94),(iv 0),193,(iv 99),(iv 0),200,(iv 108),(iv 0),207,(iv 114),(iv 0),214,(iv 123),(iv 0),221,(iv 131),(iv 0),228,(iv 165),(iv 0),298,(iv 169),(iv 0),305,(iv 183),(iv 0),312,(iv 187),(iv 0),317]
def zdV:=tO #[]
def zdU:=Obj.mk k7 .none (Data.fields #[k8,k9]) #[]
def zdT:=Obj.mk k4 .none (Data.dict #[en P 17 475 (sv 69 423),en P 18 477 (sv 88 476),en P 19 479 (.int 131 478),en P 31 488 236,en P 82 495 243,en P 61 502 250,en P 93 510 257,en P 94 519 264,en P 95 527 271,en P 96 534 278,en P 97 542 285,en P 20 546 286] 12) #[]
def zdS:=tO #[]
def zdR:=vO #[(iv 133),(iv 4),235,(iv 142),(iv 4),242,(iv 145),(iv 4),249,(iv 148),(iv 4),256,(iv 151),(iv 4),263,(iv 154),(iv 4),270,(iv 159),(iv 4),277,(iv 162),(iv 4),284]
def zdQ:=Obj.mk k1 .none (Data.fields #[(sv 88 470),(sv 88 471),(sv 0 472),(iv 131),(iv 0),(iv 0),(iv 0),(iv 0),226,(.bool false),(iv 181),227,.none,.none,.none,.none,(iv 473),(iv 131),(sv 0 474)]) #[]
def zdP:=Obj.mk k3 .none Data.plain #[(some 228),(some 3),(some 225),.none,(some (sv 69 423)),.none,(some 0)]
def zaq:=tO #[]
def zdO:=vO #[]
def zap:=tO #[(sv 41 483),(sv 82 484),(sv 61 485)]
def zao:=tO #[]
def zhS:=gO 31 98 (L2.inClass (S 23) 0)
def zdN:=cO 31 98 480 481 482 133 3 3 230 231 232 233 234 486 487
def zdM:=uO 31 98 (L2.inClass (S 23) 0) 69 423 235
def zdL:=tO #[]
def zhR:=vO #[]
def zdK:=tO #[(sv 41 492)]
def zdJ:=tO #[]
def zhQ:=gO 82 99 (L2.inClass (S 23) 1)
def zdI:=cO 82 99 489 490 491 142 1 3 237 238 239 240 241 493 494
def zdH:=uO 82 99 (L2.inClass (S 23) 1) 69 423 242
def zdG:=tO #[]
def zhP:=vO #[]
def zdF:=tO #[(sv 41 499)]
def zdE:=tO #[]
def zhO:=gO 61 100 (L2.inClass (S 23) 2)
def zdD:=cO 61 100 496 497 498 145 1 3 244 245 246 247 248 500 501
def zdC:=uO 61 100 (L2.inClass (S 23) 2) 69 423 249
def zdB:=tO #[]
def zhN:=vO #[]
def zdA:=tO #[(sv 41 506),(sv 45 507)]
def zdz:=tO #[]
def zhM:=gO 93 101 (L2.inClass (S 23) 3)
def zdy:=cO 93 101 503 504 505 148 2 3 251 252 253 254 255 508 509
def zdx:=uO 93 101 (L2.inClass (S 23) 3) 69 423 256
def zdw:=tO #[]
def zhL:=vO #[]
def zdv:=tO #[(sv 41 514),(sv 63 515),(sv 64 516)]
def zdu:=tO #[]
def zhK:=gO 94 102 (L2.inClass (S 23) 4)
def zdt:=cO 94 102 511 512 513 151 3 3 258 259 260 261 262 517 518
def zds:=uO 94 102 (L2.inClass (S 23) 4) 69 423 263
def zdr:=tO #[]
def zhJ:=vO #[]
def zdq:=tO #[(sv 41 523),(sv 45 524)]
def zdp:=tO #[]
def zhI:=gO 95 103 (L2.inClass (S 23) 5)
def zdo:=cO 95 103 520 521 522 154 2 3 265 266 267 268 269 525 526
def zdn:=uO 95 103 (L2.inClass (S 23) 5) 69 423 270
def zdm:=tO #[]
def zhH:=vO #[]
def zdl:=tO #[(sv 41 531)]
def zdk:=tO #[]
def zhG:=gO 96 104 (L2.inClass (S 23) 6)
def zdj:=cO 96 104 528 529 530 159 1 3 272 273 274 275 276 532 533
def zdi:=uO 96 104 (L2.inClass (S 23) 6) 69 423 277
def zdh:=tO #[]
def zhF:=vO #[]
def zdg:=tO #[(sv 41 538),(sv 45 539)]
def zdf:=tO #[]
def zhE:=gO 97 105 (L2.inClass (S 23) 7)
def zde:=cO 97 105 535 536 537 162 2 3 279 280 281 282 283 540 541
def zdd:=uO 97 105 (L2.inClass (S 23) 7) 69 423 284
def zdc:=tO #[(sv 86 543),(sv 106 544),(sv 107 545)]
def zdb:=Obj.mk k4 .none (Data.dict #[en P 17 475 (sv 69 423),en P 19 479 (.int 131 478),en P 31 488 236,en P 82 495 243,en P 61 502 250,en P 93 510 257,en P 94 519 264,en P 95 527 271,en P 96 534 278,en P 97 542 285,en P 20 546 286,en P 59 548 289,en P 21 550 290,en P 5 551 .none] 4) #[]
def zda:=Obj.mk k9 .none (Data.cls (ClassData.mk (s 88) [k12] [288,k12] 287 (s 88) true [] [] false .none false)) #[.none,.none,(some (sv 88 468)),(some (sv 88 476)),(some k18),(some (.bool true))]
def zc9:=Obj.mk k14 .none (Data.fields #[(sv 59 547),288,k19,k20]) #[]
def zc8:=Obj.mk k14 .none (Data.fields #[(sv 21 549),288,k15,.none]) #[]
def zhD:=Obj.mk k16 .none (Data.fields #[288,288,288]) #[]
def zhC:=Obj.mk k7 .none (Data.fields #[k17,288]) #[]
def zc7:=tO #[]
def zhB:=vO #[]
def zc6:=tO #[(sv 108 559),(sv 109 560)]
def zc5:=tO #[]
def zhA:=gO 89 89 (S 25)
def zc4:=cO 89 89 556 557 558 165 2 3 293 294 295 296 297 561 562
def zc3:=uO 89 89 (S 25) 87 554 298
def zc2:=tO #[]
def zhz:=vO #[]
def zc1:=tO #[(sv 110 567),(sv 111 568),(sv 112 569),(sv 113 570),(sv 114 571),(sv 109 572),(sv 115 573)]
def zc0:=tO #[]
def zhy:=gO 90 90 (S 26)
def zcZ:=cO 90 90 564 565 566 169 2 3 300 301 302 303 304 574 575
def zcY:=uO 90 90 (S 26) 87 554 305
def zcX:=tO #[]
def zhx:=vO #[]
def zcW:=tO #[(sv 116 580),(sv 117 581)]
def zcV:=tO #[]
def zhw:=gO 91 91 (S 27)
def zcU:=cO 91 91 577 578 579 183 2 3 307 308 309 310 311 582 583
def zcT:=uO 91 91 (S 27) 87 554 312
def zcS:=tO #[]
def zhv:=vO #[]
def zhu:=gO 92 92 (S 28)
def zcR:=Obj.mk k1 .none (Data.fields #[(sv 92 585),(sv 92 586),(sv 0 587),(iv 187),(iv 2),(iv 0),(iv 0),(iv 3),314,(.bool true),(iv 181),315,.none,.none,.none,316,(iv 588),(iv 187),(sv 0 589)]) #[]
def zcQ:=uO 92 92 (S 28) 87 554 317
def zfK:=N zbw (N zhM .nil .nil) .nil
def zfJ:=N zee (N (zdb P) .nil .nil) .nil
def zfI:=N zbl (N zdn .nil .nil) .nil
def zfH:=N UO (N zaY (N zc0 .nil .nil) .nil) (N zdK .nil .nil)
def zfG:=N zel (N zdt .nil .nil) .nil
def zfF:=N za4 (N zc6 .nil .nil) .nil
def zfE:=N zbe (N zdh .nil .nil) .nil
def zfD:=N UI (N zaT (N zhw .nil .nil) .nil) (N zdE .nil .nil)
def zfC:=N zem (N zhL .nil .nil) .nil
def zfB:=N zed (N zhD .nil .nil) .nil
def zfA:=N zbi (N zdk .nil .nil) .nil
def zfz:=N UL (N zaW (N zcX .nil .nil) .nil) (N zdH .nil .nil)
def zfy:=N zbo (N zdq .nil .nil) .nil
def zfx:=N zbC (N za1 (N zc3 .nil .nil) .nil) (N zdN .nil .nil)
def zfw:=N zbc (N zhE .nil .nil) .nil
def zfv:=N UF (N zaQ (N zhv .nil .nil) .nil) (N zdB .nil .nil)
def zif:=N o0 (N o10 (N o26 (N o61 zfC zgc) (N o95 zfB (N zdR .nil .nil))) (N o45 (N o79 zfA zgb) zfz)) (N o18 (N (o34 P) (N o71 zfy zga) zfx) (N o53 (N o87 zfw zf9) zfv))
def zfu:=N zbv (N zdx .nil .nil) .nil
def zft:=N za8 (N zc9 .nil .nil) .nil
def zfs:=N zei (N zhH .nil .nil) .nil
def zfr:=N UM (N zd9 (N zcZ .nil .nil) .nil) (N zhQ .nil .nil)
def zfq:=N zbp (N zdr .nil .nil) .nil
def zfp:=N za2 (N zhA .nil .nil) .nil
def zfo:=N zeh (N zdg .nil .nil) .nil
def zfn:=N zby (N zd6 (N zcT .nil .nil) .nil) (N zdD .nil .nil)
def zfm:=N zbs (N zdu .nil .nil) .nil
def zfl:=N za5 (N zc7 .nil .nil) .nil
def zfk:=N (zbg P) (N zdj .nil .nil) .nil
def zfj:=N zbz (N zaU (N zcW .nil .nil) .nil) (N zhP .nil .nil)
def zfi:=N zbm (N zhI .nil .nil) .nil
def zfh:=N UP (N zea (N zhz .nil .nil) .nil) (N zdL .nil .nil)
def zfg:=N zbb (N zdd .nil .nil) .nil
def zff:=N UE (N zd5 (N zcR .nil .nil) .nil) (N zdA .nil .nil)
def zie:=N o2 (N o12 (N (o28 P) (N o63 zfm zf4) (N o97 zfl (N zdP .nil .nil))) (N o47 (N o81 (zfk P) zf3) zfj)) (N o20 (N o36 (N o73 zfi zf2) zfh) (N o55 (N o89 zfg zf1) zff))
def zid:=N (boot_o_5 P) (N (boot_o_9 P) (N o8 (N o24 (N o59 zfu zf8) (N o93 zft (N (zdT P) .nil .nil))) (N (o43 P) (N o77 zfs zf7) zfr)) (N o16 (N o32 (N (o69 P) zfq zf6) (N VI zfp (N zao .nil .nil))) (N o51 (N o85 zfo zf5) zfn))) (zie P)
def zfe:=N zen (N zdy .nil .nil) .nil
def zfd:=N za9 (N zda .nil .nil) .nil
def zfc:=N zbk (N zdm .nil .nil) .nil
def zfb:=N UN (N zaX (N zhy .nil .nil) .nil) (N zdJ .nil .nil)
def zfa:=N zbq (N zds .nil .nil) .nil
def ze9:=N za3 (N zc5 .nil .nil) .nil
def ze8:=N zbd (N zhF .nil .nil) .nil
def ze7:=N UH (N zaS (N zcU .nil .nil) .nil) (N zhO .nil .nil)
def ze6:=N zbt (N zdv .nil .nil) .nil
def ze5:=N za6 (N zhC .nil .nil) .nil
def ze4:=N zbh (N zhG .nil .nil) .nil
def ze3:=N UK (N zaV (N zhx .nil .nil) .nil) (N zdG .nil .nil)
def ze2:=N zbn (N zdp .nil .nil) .nil
def ze1:=N UQ (N za0 (N zc2 .nil .nil) .nil) (N zdM .nil .nil)
def ze0:=N zef (N zde .nil .nil) .nil
def zeZ:=N zbx (N zaP (N zhu .nil .nil) .nil) (N zhN .nil .nil)
def zic:=N ziS (N o11 (N o27 (N o62 ze6 zfW) (N o96 ze5 (N zdQ .nil .nil))) (N o46 (N o80 ze4 zfV) ze3)) (N o19 (N o35 (N o72 ze2 zfU) ze1) (N o54 (N o88 ze0 zfT) zeZ))
def zeY:=N zbu (N zdw .nil .nil) .nil
def zeX:=N za7 (N zc8 .nil .nil) .nil
def zeW:=N zbj (N zdl .nil .nil) .nil
def zeV:=N zbA (N zd8 (N zcY .nil .nil) .nil) (N zdI .nil .nil)
def zeU:=N zek (N zhJ .nil .nil) .nil
def zeT:=N UR (N zeb (N zc4 .nil .nil) .nil) (N zhS .nil .nil)
def zeS:=N zeg (N zdf .nil .nil) .nil
def zeR:=N UG (N zaR (N zcS .nil .nil) .nil) (N zdC .nil .nil)
def zeQ:=N zbr (N zhK .nil .nil) .nil
def zeP:=N zec (N zhB .nil .nil) .nil
def zeO:=N zbf (N zdi .nil .nil) .nil
def zeN:=N UJ (N zd7 (N zcV .nil .nil) .nil) (N zdF .nil .nil)
def zeM:=N zej (N zdo .nil .nil) .nil
def zeL:=N zbB (N zaZ (N zc1 .nil .nil) .nil) (N zhR .nil .nil)
def zeK:=N zba (N zdc .nil .nil) .nil
def zeJ:=N UD (N zaO (N zcQ .nil .nil) .nil) (N zdz .nil .nil)
def zib:=N o3 (N o13 (N o29 (N o64 zeQ zfO) (N o98 zeP (N zaq .nil .nil))) (N o48 (N o82 zeO zfN) zeN)) (N (o21 P) (N o37 (N o74 zeM zfM) zeL) (N o56 (N o90 zeK zfL) zeJ))
def zia:=N (boot_o_6 P) (N (boot_o_10 P) (N o9 (N o25 (N o60 zeY zfS) (N o94 zeX (N zdS .nil .nil))) (N o44 (N o78 zeW zfR) zeV)) (N o17 (N o33 (N o70 zeU zfQ) zeT) (N o52 (N o86 zeS zfP) zeR))) (zib P)
def zh9:=N (boot_o_2 P) (N (boot_o_4 P) (N (boot_o_8 P) (N o7 (N o23 (N o58 zfe zf0) (N o92 zfd (N zdU .nil .nil))) (N o42 (N o76 zfc zfZ) zfb)) (N (o15 P) (N o31 (N o68 zfa zfY) (N US ze9 (N zap .nil .nil))) (N o50 (N o84 ze8 zfX) ze7))) zic) (zia P)
def zh8:=N (boot_o_0 P) (N (boot_o_1 P) (N (ziT P) (N (boot_o_7 P) (N o6 (N o40 (N o57 zfK zgg) (N o91 (zfJ P) (N zdV .nil .nil))) (N o41 (N o75 zfI zgf) zfH)) (N o14 (N o30 (N o67 zfG zge) (N o99 zfF (N zdO .nil .nil))) (N (o49 P) (N o83 zfE zgd) zfD))) (zif P)) (zid P)) (zh9 P)
def sb5 (w:World) (os:OsState):SharedT:=⟨(zh8 w.params),319,(Life.mk [] [] [] 0 [] [] false #[] [] 0 false false false 0 [2000,10,10] false 0 true [] [] 0 false),⟨[]⟩,(Drawn.mk 0 0 0 0),591,os⟩
def L4 (w:World) (os:OsState):Option (Flow×SharedT×Code×Pos):=segRunT treeTable pw w 11 an 1 578 (sb4 w os) (piecesOf zgY env cE (Pos.mk 123 0 130 15) B)
def R4 (w:World) (os:OsState):Option (Flow×SharedT×Code×Pos):=some (.next,sb5 w os,cE,(Pos.mk 187 0 195 21))
theorem q4:tt (Hd.L4,Hd.R4)=true:=by k_qdec
theorem r4:∀ w,Fast.tw18063231807419426806 w=Hd.R4 w:=fun w=>by kernel_rfl
theorem e4 (w:World) (os:OsState):Hd.L4 w os=Hd.R4 w os:=(congrFun (congrFun Fast.te18063231807419426806 w) os).trans (congrFun (r4 w) os)
def zgX:List Stmt:=[S 29,S 30,S 31,S 32,S 33,S 34,S 35]
def zcP:=Obj.mk k4 .none (Data.dict #[en P 3 165 (sv 87 554),en P 5 166 .none,en P 6 167 .none,en P 7 168 k5,en P 8 169 .none,en P 9 170 6,en P 10 171 4,en P 11 173 (sv 0 172),en P 12 174 .none,en P 13 193 21,en P 14 213 31,en P 15 229 44,en P 23 245 56,en P 24 254 65,en P 25 262 70,en P 28 364 150,en P 29 376 161,en P 30 389 168,en P 70 402 175,en P 71 408 180,en P 72 415 187,en P 73 422 194,en P 74 426 (.int 12 425),en P 75 428 (.int 99 427),en P 76 437 201,en P 77 445 208,en P 78 455 215,en P 79 467 222,en P 88 553 288,en P 89 563 299,en P 90 576 306,en P 91 584 313,en P 92 590 318,en P 118 605 325,en P 119 611 330,en P 120 625 337,en P 121 631 342,en P 122 638 349,en P 123 644 354,en P 124 655 361] 40) #[]
def zht:=vO #[(iv 1),(iv 0),20,(iv 5),(iv 0),27,(iv 7),(iv 0),40,(iv 9),(iv 0),52,(iv 12),(iv 0),64,(iv 15),(iv 0),69,(iv 23),(iv 0),76,(iv 60),(iv 0),160,(iv 67),(iv 0),167,(iv 74),(iv 0),174,(iv 84),(iv 0),179,(iv 92),(iv 0),186,(iv 94),(iv 0),193,(iv 99),(iv 0),200,(iv 108),(iv 0),207,(iv 114),(iv 0),214,(iv 123),(iv 0),221,(iv 131),(iv 0),228,(iv 165),(iv 0),298,(iv 169),(iv 0),305,(iv 183),(iv 0),312,(iv 187),(iv 0),317,(iv 196),(iv 0),324,(iv 207),(iv 0),329,(iv 210),(iv 0),336,(iv 220),(iv 0),341,(iv 237),(iv 0),348,(iv 239),(iv 0),353,(iv 254),(iv 0),360]
def zcO:=tO #[]
def zhs:=vO #[]
def zcN:=tO #[(sv 116 594),(sv 125 595),(sv 126 596),(sv 112 597),(sv 127 598),(sv 109 599),(sv 128 600),(sv 129 601),(sv 130 602)]
def zcM:=tO #[]
def zhr:=gO 118 118 (S 29)
def zcL:=cO 118 118 591 592 593 196 2 3 319 320 321 322 323 603 604
def zcK:=uO 118 118 (S 29) 87 554 324
def zcJ:=tO #[]
def zhq:=vO #[]
def zhp:=gO 119 119 (S 30)
def zcI:=Obj.mk k1 .none (Data.fields #[(sv 119 606),(sv 119 607),(sv 0 608),(iv 207),(iv 2),(iv 0),(iv 0),(iv 3),326,(.bool true),(iv 181),327,.none,.none,.none,328,(iv 609),(iv 207),(sv 0 610)]) #[]
def zcH:=uO 119 119 (S 30) 87 554 329
def zcG:=tO #[]
def zho:=vO #[]
def zcF:=tO #[(sv 131 615),(sv 132 616),(sv 133 617),(sv 134 618),(sv 135 619),(sv 136 620),(sv 137 621),(sv 138 622)]
def zcE:=tO #[]
def zhn:=gO 120 120 (S 31)
def zcD:=cO 120 120 612 613 614 210 4 3 331 332 333 334 335 623 624
def zcC:=uO 120 120 (S 31) 87 554 336
def zcB:=tO #[]
def zhm:=vO #[]
def zhl:=gO 121 121 (S 32)
def zcA:=Obj.mk k1 .none (Data.fields #[(sv 121 626),(sv 121 627),(sv 0 628),(iv 220),(iv 3),(iv 0),(iv 0),(iv 3),338,(.bool true),(iv 181),339,.none,.none,.none,340,(iv 629),(iv 220),(sv 0 630)]) #[]
def zcz:=uO 121 121 (S 32) 87 554 341
def zcy:=tO #[]
def zhk:=vO #[]
def zcx:=tO #[(sv 126 635)]
def zcw:=tO #[]
def zhj:=gO 122 122 (S 33)
def zcv:=cO 122 122 632 633 634 237 1 3 343 344 345 346 347 636 637
def zcu:=uO 122 122 (S 33) 87 554 348
def zct:=tO #[]
def zhi:=vO #[]
def zhh:=gO 123 123 (S 34)
def zcs:=Obj.mk k1 .none (Data.fields #[(sv 123 639),(sv 123 640),(sv 0 641),(iv 239),(iv 3),(iv 0),(iv 0),(iv 3),350,(.bool true),(iv 181),351,.none,.none,.none,352,(iv 642),(iv 239),(sv 0 643)]) #[]
def zcr:=uO 123 123 (S 34) 87 554 353
def zcq:=tO #[]
def zhg:=vO #[]
def zcp:=tO #[(sv 108 648),(sv 110 649),(sv 116 650),(sv 125 651),(sv 131 652)]
def zco:=tO #[]
def zhf:=gO 124 124 (S 35)
def zcn:=cO 124 124 645 646 647 254 1 3 355 356 357 358 359 653 654
def zcm:=uO 124 124 (S 35) 87 554 360
def zh7:=N o14 (N o30 (N o67 zfG (N zd2 (N zhq .nil .nil) .nil)) (N o99 zfF (N zdO (N zhf .nil .nil) .nil))) (N (o49 P) (N o83 zfE (N zaw (N zcy .nil .nil) .nil)) zfD)
def zh6:=N o0 (N o10 (N o26 (N o61 zfC (N zaK (N zhr .nil .nil) .nil)) (N o95 zfB (N zdR (N zcq .nil .nil) .nil))) (N o45 (N o79 zfA (N zaz (N zhm .nil .nil) .nil)) zfz)) (N o18 (N (o34 P) (N o71 zfy (N zd1 (N zcG .nil .nil) .nil)) zfx) (N o53 (N o87 zfw (N zat (N zhj .nil .nil) .nil)) zfv))
def zh5:=N o16 (N o32 (N (o69 P) zfq (N zaG (N zcI .nil .nil) .nil)) (N VI zfp (N zao (N zcm .nil .nil) .nil))) (N o51 (N o85 zfo (N zdX (N zcx .nil .nil) .nil)) zfn)
def zh4:=N o2 (N o12 (N (o28 P) (N o63 zfm (N zaJ (N zcK .nil .nil) .nil)) (N o97 zfl (N zdP (N zcp .nil .nil) .nil))) (N o47 (N o81 (zfk P) (N zdY (N zcA .nil .nil) .nil)) zfj)) (N o20 (N o36 (N o73 zfi (N zaD (N zcF .nil .nil) .nil)) zfh) (N o55 (N o89 zfg (N zas (N zcu .nil .nil) .nil)) zff))
def zh3:=N (boot_o_5 P) (N (boot_o_9 P) (N o8 (N o24 (N o59 zfu (N zaM (N zcN .nil .nil) .nil)) (N o93 zft (N (zdT P) (N zcs .nil .nil) .nil))) (N (o43 P) (N o77 zfs (N zaA (N zcC .nil .nil) .nil)) zfr)) (zh5 P)) (zh4 P)
def zh2:=N (o15 P) (N o31 (N o68 zfa (N zaH (N zhp .nil .nil) .nil)) (N US ze9 (N zap (N zcn .nil .nil) .nil))) (N o50 (N o84 ze8 (N zav (N zhk .nil .nil) .nil)) ze7)
def zh1:=N zht (N o11 (N o27 (N o62 ze6 (N zd3 (N zcL .nil .nil) .nil)) (N o96 ze5 (N zdQ (N zhg .nil .nil) .nil))) (N o46 (N o80 ze4 (N zay (N zhl .nil .nil) .nil)) ze3)) (N o19 (N o35 (N o72 ze2 (N zaE (N zho .nil .nil) .nil)) ze1) (N o54 (N o88 ze0 (N zdW (N zcv .nil .nil) .nil)) zeZ))
def zh0:=N o3 (N o13 (N o29 (N o64 zeQ (N zaI (N zcJ .nil .nil) .nil)) (N o98 zeP (N zaq (N zco .nil .nil) .nil))) (N o48 (N o82 zeO (N zax (N zcz .nil .nil) .nil)) zeN)) (N (o21 P) (N o37 (N o74 zeM (N zd0 (N zcE .nil .nil) .nil)) zeL) (N o56 (N o90 zeK (N zar (N zct .nil .nil) .nil)) zeJ))
def zhZ:=N (boot_o_6 P) (N (boot_o_10 P) (N o9 (N o25 (N o60 zeY (N zaL (N zcM .nil .nil) .nil)) (N o94 zeX (N zdS (N zcr .nil .nil) .nil))) (N o44 (N o78 zeW (N zdZ (N zcB .nil .nil) .nil)) zeV)) (N o17 (N o33 (N o70 zeU (N zaF (N zcH .nil .nil) .nil)) zeT) (N o52 (N o86 zeS (N zau (N zcw .nil .nil) .nil)) zeR))) (zh0 P)
def zhY:=N (boot_o_2 P) (N (boot_o_4 P) (N (boot_o_8 P) (N o7 (N o23 (N o58 zfe (N zd4 (N zhs .nil .nil) .nil)) (N o92 zfd (N zdU (N zhh .nil .nil) .nil))) (N o42 (N o76 zfc (N zaB (N zcD .nil .nil) .nil)) zfb)) (zh2 P)) zh1) (zhZ P)
def zhX:=N (boot_o_0 P) (N (boot_o_1 P) (N (zcP P) (N (boot_o_7 P) (N o6 (N o40 (N o57 zfK (N zaN (N zcO .nil .nil) .nil)) (N o91 (zfJ P) (N zdV (N zhi .nil .nil) .nil))) (N o41 (N o75 zfI (N zaC (N zhn .nil .nil) .nil)) zfH)) (zh7 P)) (zh6 P)) (zh3 P)) (zhY P)
def sb6 (w:World) (os:OsState):SharedT:=⟨(zhX w.params),362,(Life.mk [] [] [] 0 [] [] false #[] [] 0 false false false 0 [2000,10,10] false 0 true [] [] 0 false),⟨[]⟩,(Drawn.mk 0 0 0 0),656,os⟩
def L5 (w:World) (os:OsState):Option (Flow×SharedT×Code×Pos):=segRunT treeTable pw w 11 an 1 214 (sb5 w os) (piecesOf zgX env cE (Pos.mk 187 0 195 21) B)
def R5 (w:World) (os:OsState):Option (Flow×SharedT×Code×Pos):=some (.next,sb6 w os,cE,(Pos.mk 254 0 261 15))
theorem q5:tt (Hd.L5,Hd.R5)=true:=by k_qdec
theorem r5:∀ w,Fast.tw7289443652863241282 w=Hd.R5 w:=fun w=>by kernel_rfl
theorem e5 (w:World) (os:OsState):Hd.L5 w os=Hd.R5 w os:=(congrFun (congrFun Fast.te7289443652863241282 w) os).trans (congrFun (r5 w) os)
def h30:List Obj:=zcn::zcm::[]
def h29:List Obj:=zcv::zcu::zct::zhi::zhh::zcs::zcr::zcq::zhg::zcp::zco::zhf::h30
def h28:List Obj:=zcD::zcC::zcB::zhm::zhl::zcA::zcz::zcy::zhk::zcx::zcw::zhj::h29
def h27:List Obj:=zcL::zcK::zcJ::zhq::zhp::zcI::zcH::zcG::zho::zcF::zcE::zhn::h28
def h26:List Obj:=zcU::zcT::zcS::zhv::zhu::zcR::zcQ::zcO::zhs::zcN::zcM::zhr::h27
def h25:List Obj:=zc2::zhz::zc1::zc0::zhy::zcZ::zcY::zcX::zhx::zcW::zcV::zhw::h26
def h24:List Obj:=zda::zc9::zc8::zhD::zhC::zc7::zhB::zc6::zc5::zhA::zc4::zc3::h25
def h23:List Obj:=zhG::zdj::zdi::zdh::zhF::zdg::zdf::zhE::zde::zdd::zdc::zdb P::h24
def h22:List Obj:=zds::zdr::zhJ::zdq::zdp::zhI::zdo::zdn::zdm::zhH::zdl::zdk::h23 P
def h21:List Obj:=zhN::zdA::zdz::zhM::zdy::zdx::zdw::zhL::zdv::zdu::zhK::zdt::h22 P
def h20:List Obj:=zdJ::zhQ::zdI::zdH::zdG::zhP::zdF::zdE::zhO::zdD::zdC::zdB::h21 P
def h19:List Obj:=zdQ::zdP::zaq::zdO::zap::zao::zhS::zdN::zdM::zdL::zhR::zdK::h20 P
def h18:List Obj:=zav::zdX::zau::zat::zdW::zas::zar::zdV::zdU::zdT P::zdS::zdR::h19 P
def h17:List Obj:=zaE::zaD::zd0::zaC::zaB::zaA::zdZ::zaz::zay::zdY::zax::zaw::h18 P
def h16:List Obj:=zd4::zaM::zaL::zaK::zd3::zaJ::zaI::zd2::zaH::zaG::zaF::zd1::h17 P
def h15:List Obj:=zaV::zaU::zd7::zaT::zaS::zd6::zaR::zaQ::zaP::zd5::zaO::zaN::h16 P
def h14:List Obj:=za3::za2::zeb::za1::za0::zea::zaZ::zaY::zaX::zd9::zd8::zaW::h15 P
def h13:List Obj:=zef::zbb::zba::zee::za9::za8::za7::zed::za6::za5::zec::za4::h14 P
def h12:List Obj:=zbk::zei::zbj::zbi::zbh::zbg P::zbf::zbe::zbd::zeh::zeg::zbc::h13 P
def h11:List Obj:=zbt::zbs::zbr::zel::zbq::zbp::zek::zbo::zbn::zbm::zej::zbl::h12 P
def h10:List Obj:=UH::zby::UG::UF::zbx::UE::UD::zbw::zen::zbv::zbu::zem::h11 P
def h9:List Obj:=UQ::UP::zbB::UO::UN::UM::zbA::UL::UK::zbz::UJ::UI::h10 P
def h8:List Obj:=o92::o93::o94::o95::o96::o97::o98::o99::US::VI::UR::zbC::h9 P
def h7:List Obj:=o80::o81::o82::o83::o84::o85::o86::o87::o88::o89::o90::o91::h8 P
def h6:List Obj:=o68::o69 P::o70::o71::o72::o73::o74::o75::o76::o77::o78::o79::h7 P
def h5:List Obj:=o54::o55::o56::o57::o58::o59::o60::o61::o62::o63::o64::o67::h6 P
def h4:List Obj:=o42::o43 P::o44::o45::o46::o47::o48::o49 P::o50::o51::o52::o53::h5 P
def h3:List Obj:=o27::o28 P::o29::o30::o31::o32::o33::o34 P::o35::o36::o37::o41::h4 P
def h2:List Obj:=o15 P::o16::o17::o18::o19::o20::o21 P::o40::o23::o24::o25::o26::h3 P
def h1:List Obj:=zht::o2::o3::o6::o7::o8::o9::o10::o11::o12::o13::o14::h2 P
def h0:List Obj:=boot_o_0 P::boot_o_1 P::boot_o_2 P::zcP P::boot_o_4 P::boot_o_5 P::boot_o_6 P::boot_o_7 P::boot_o_8 P::boot_o_9 P::boot_o_10 P::o0::h1 P
def H1:Heap:=⟨⟨h0 P⟩,(Life.mk [] [] [] 0 [] [] false #[] [] 0 false false false 0 [2000,10,10] false 0 true [] [] 0 false)⟩
def sf (w:World) (os:OsState):Shared:=⟨H1 w.params,⟨[]⟩,(Drawn.mk 0 0 0 0),656,os⟩
def Lf (w:World) (os:OsState):Option Shared:=topRun treeTable pw w 11 an 2 (sb6 w os).abs ⟨doneF .next,cE,(Pos.mk 254 0 261 15),B⟩
def Rf (w:World) (os:OsState):Option Shared:=some (sf w os)
theorem qf:tt (Hd.Lf,Hd.Rf)=true:=by k_qdec
theorem rf:∀ w,Fast.tw2640074843757178226 w=Hd.Rf w:=fun w=>by kernel_rfl
theorem ef (w:World) (os:OsState):Hd.Lf w os=Hd.Rf w os:=(congrFun (congrFun Fast.te2640074843757178226 w) os).trans (congrFun (rf w) os)
theorem cut:bE=zg2++(zg1++(zg0++(zgZ++(zgY++(zgX++([])))))):=by kernel_rfl
theorem run (w:World) (os:OsState):topRun treeTable pw w 11 an (12+(1+(438+(287+(581+(274+(578+(214+2)))))))) (s0 w os) (topStub pw)=some (sf w os):=by
 refine go_top (ea w os) (piece_block (q:=qE) (env:=env) (b:=bE) (segRun_of (eb w os)) ?_)
 rw[show restOf bE env cE (Pos.mk 0 0 0 0) [topFrame qE]=restOf _ env cE _ [topFrame qE] from congrArg (fun l=>restOf l env cE (Pos.mk 0 0 0 0) [topFrame qE]) cut]
 refine piece_app (segRun_of (e0 w os)) ?_
 refine piece_app (segRun_of (e1 w os)) ?_
 refine piece_app (segRun_of (e2 w os)) ?_
 refine piece_app (segRun_of (e3 w os)) ?_
 refine piece_app (segRun_of (e4 w os)) ?_
 refine piece_app (segRun_of (e5 w os)) ?_
 exact ef w os
noncomputable def M:Nat:=12+(1+(438+(287+(581+(274+(578+(214+2)))))))
noncomputable abbrev rW:RowW:=(PySem.Challenge.rw_beatless_k26_neighbours_trees_clusters.row).toRowW
def Q:Program:={ pw with main:={ pw.main with body:=[S 0,S 2,S 3,S 4,S 6,S 8,S 9,S 10,S 11,S 12,S 13,S 14,S 15,S 17,S 18,S 19,S 20,S 21,S 22,S 23,S 25,S 26,S 27,S 28,S 29,S 30,S 31,S 32,S 33,S 34,S 35] } }
def Xt (s:Shared):Bool:=xlAt Q [] s&&recOk (RowW.records rW) s
def K:Frag:=(nat_lit 2,boot_o_2 P)::(nat_lit 3,zcP P)::(nat_lit 15,o6)::(nat_lit 17,o8)::(nat_lit 18,o9)::(nat_lit 20,o11)::(nat_lit 21,o12)::(nat_lit 22,o13)::(nat_lit 29,o20)::(nat_lit 30,o21 P)::(nat_lit 31,o40)::(nat_lit 32,o23)::(nat_lit 35,o26)::(nat_lit 42,o33)::(nat_lit 43,o34 P)::(nat_lit 44,o35)::(nat_lit 47,o41)::(nat_lit 54,o48)::(nat_lit 55,o49 P)::(nat_lit 56,o50)::(nat_lit 59,o53)::(nat_lit 61,o55)::(nat_lit 62,o56)::(nat_lit 64,o58)::(nat_lit 65,o59)::(nat_lit 66,o60)::(nat_lit 69,o63)::(nat_lit 70,o64)::(nat_lit 78,o74)::(nat_lit 80,o76)::(nat_lit 81,o77)::(nat_lit 83,o79)::(nat_lit 84,o80)::(nat_lit 85,o81)::(nat_lit 87,o83)::(nat_lit 88,o84)::(nat_lit 90,o86)::(nat_lit 91,o87)::(nat_lit 92,o88)::(nat_lit 94,o90)::(nat_lit 95,o91)::(nat_lit 97,o93)::(nat_lit 98,o94)::(nat_lit 99,o95)::(nat_lit 101,o97)::(nat_lit 102,o98)::(nat_lit 104,US)::(nat_lit 105,VI)::(nat_lit 106,UR)::(nat_lit 108,UQ)::(nat_lit 109,UP)::(nat_lit 111,UO)::(nat_lit 112,UN)::(nat_lit 113,UM)::(nat_lit 115,UL)::(nat_lit 116,UK)::(nat_lit 118,UJ)::(nat_lit 119,UI)::(nat_lit 120,UH)::(nat_lit 122,UG)::(nat_lit 123,UF)::(nat_lit 125,UE)::(nat_lit 126,UD)::(nat_lit 127,zbw)::(nat_lit 129,zbv)::(nat_lit 130,zbu)::(nat_lit 132,zbt)::(nat_lit 133,zbs)::(nat_lit 134,zbr)::(nat_lit 136,zbq)::(nat_lit 137,zbp)::(nat_lit 139,zbo)::(nat_lit 140,zbn)::(nat_lit 141,zbm)::(nat_lit 143,zbl)::(nat_lit 144,zbk)::(nat_lit 146,zbj)::(nat_lit 147,zbi)::(nat_lit 148,zbh)::(nat_lit 149,zbg P)::(nat_lit 150,zbf)::(nat_lit 151,zbe)::(nat_lit 152,zbd)::(nat_lit 155,zbc)::(nat_lit 157,zbb)::(nat_lit 158,zba)::(nat_lit 160,za9)::(nat_lit 161,za8)::(nat_lit 162,za7)::(nat_lit 164,za6)::(nat_lit 165,za5)::(nat_lit 167,za4)::(nat_lit 168,za3)::(nat_lit 169,za2)::(nat_lit 171,za1)::(nat_lit 172,za0)::(nat_lit 174,zaZ)::(nat_lit 175,zaY)::(nat_lit 176,zaX)::(nat_lit 179,zaW)::(nat_lit 180,zaV)::(nat_lit 181,zaU)::(nat_lit 183,zaT)::(nat_lit 184,zaS)::(nat_lit 186,zaR)::(nat_lit 187,zaQ)::(nat_lit 188,zaP)::(nat_lit 190,zaO)::(nat_lit 191,zaN)::(nat_lit 193,zaM)::(nat_lit 194,zaL)::(nat_lit 195,zaK)::(nat_lit 197,zaJ)::(nat_lit 198,zaI)::(nat_lit 200,zaH)::(nat_lit 201,zaG)::(nat_lit 202,zaF)::(nat_lit 204,zaE)::(nat_lit 205,zaD)::(nat_lit 207,zaC)::(nat_lit 208,zaB)::(nat_lit 209,zaA)::(nat_lit 211,zaz)::(nat_lit 212,zay)::(nat_lit 214,zax)::(nat_lit 215,zaw)::(nat_lit 216,zav)::(nat_lit 218,zau)::(nat_lit 219,zat)::(nat_lit 221,zas)::(nat_lit 222,zar)::(nat_lit 230,zaq)::(nat_lit 232,zap)::(nat_lit 233,zao)::(nat_lit 235,zdN)::(nat_lit 236,zdM)::(nat_lit 237,zdL)::(nat_lit 239,zdK)::(nat_lit 240,zdJ)::(nat_lit 242,zdI)::(nat_lit 243,zdH)::(nat_lit 244,zdG)::(nat_lit 246,zdF)::(nat_lit 247,zdE)::(nat_lit 249,zdD)::(nat_lit 250,zdC)::(nat_lit 251,zdB)::(nat_lit 253,zdA)::(nat_lit 254,zdz)::(nat_lit 256,zdy)::(nat_lit 257,zdx)::(nat_lit 258,zdw)::(nat_lit 260,zdv)::(nat_lit 261,zdu)::(nat_lit 263,zdt)::(nat_lit 264,zds)::(nat_lit 265,zdr)::(nat_lit 267,zdq)::(nat_lit 268,zdp)::(nat_lit 270,zdo)::(nat_lit 271,zdn)::(nat_lit 272,zdm)::(nat_lit 274,zdl)::(nat_lit 275,zdk)::(nat_lit 277,zdj)::(nat_lit 278,zdi)::(nat_lit 279,zdh)::(nat_lit 281,zdg)::(nat_lit 282,zdf)::(nat_lit 284,zde)::(nat_lit 285,zdd)::(nat_lit 286,zdc)::(nat_lit 287,zdb P)::(nat_lit 288,zda)::(nat_lit 289,zc9)::(nat_lit 290,zc8)::(nat_lit 293,zc7)::(nat_lit 295,zc6)::(nat_lit 296,zc5)::(nat_lit 298,zc4)::(nat_lit 299,zc3)::(nat_lit 300,zc2)::(nat_lit 302,zc1)::(nat_lit 303,zc0)::(nat_lit 305,zcZ)::(nat_lit 306,zcY)::(nat_lit 307,zcX)::(nat_lit 309,zcW)::(nat_lit 310,zcV)::(nat_lit 312,zcU)::(nat_lit 313,zcT)::(nat_lit 314,zcS)::(nat_lit 317,zcR)::(nat_lit 318,zcQ)::(nat_lit 319,zcO)::(nat_lit 321,zcN)::(nat_lit 322,zcM)::(nat_lit 324,zcL)::(nat_lit 325,zcK)::(nat_lit 326,zcJ)::(nat_lit 329,zcI)::(nat_lit 330,zcH)::(nat_lit 331,zcG)::(nat_lit 333,zcF)::(nat_lit 334,zcE)::(nat_lit 336,zcD)::(nat_lit 337,zcC)::(nat_lit 338,zcB)::(nat_lit 341,zcA)::(nat_lit 342,zcz)::(nat_lit 343,zcy)::(nat_lit 345,zcx)::(nat_lit 346,zcw)::(nat_lit 348,zcv)::(nat_lit 349,zcu)::(nat_lit 350,zct)::(nat_lit 353,zcs)::(nat_lit 354,zcr)::(nat_lit 355,zcq)::(nat_lit 357,zcp)::(nat_lit 358,zco)::(nat_lit 360,zcn)::(nat_lit 361,zcm)::[]
noncomputable def as:List Addr:=[2,3,15,17,18,20,21,22,29,30,31,32,35,42,43,44,47,54,55,56,59,61,62,64,65,66,69,70,78,80,81,83,84,85,87,88,90,91,92,94,95,97,98,99,101,102,104,105,106,108,109,111,112,113,115,116,118,119,120,122,123,125,126,127,129,130,132,133,134,136,137,139,140,141,143,144,146,147,148,149,150,151,152,155,157,158,160,161,162,164,165,167,168,169,171,172,174,175,176,179,180,181,183,184,186,187,188,190,191,193,194,195,197,198,200,201,202,204,205,207,208,209,211,212,214,215,216,218,219,221,222,230,232,233,235,236,237,239,240,242,243,244,246,247,249,250,251,253,254,256,257,258,260,261,263,264,265,267,268,270,271,272,274,275,277,278,279,281,282,284,285,286,287,288,289,290,293,295,296,298,299,300,302,303,305,306,307,309,310,312,313,314,317,318,319,321,322,324,325,326,329,330,331,333,334,336,337,338,341,342,343,345,346,348,349,350,353,354,355,357,358,360,361]
theorem asK (P:Params):as=(K P).map (·.1):=by kernel_rfl
def Ly (w:World) (os:OsState):List (Option Obj):=as.map (sf w os).heap.get?
def Ry (w:World) (_:OsState):List (Option Obj):=(K w.params).map fun p=>some p.2
theorem qy:tt (Hd.Ly,Hd.Ry)=true:=by k_qdec
theorem ry:∀ w,Fast.tw691215026958702249 w=Hd.Ry w:=fun w=>by kernel_rfl
theorem ey (w:World) (os:OsState):Hd.Ly w os=Hd.Ry w os:=(congrFun (congrFun Fast.te691215026958702249 w) os).trans (congrFun (ry w) os)
abbrev hk:Hook:=kHook K as asK
noncomputable abbrev zhT:List Str:=importedModules pw.main.body
def A (w:World) (os:OsState):=openSeen Q [] zhT Xt true (sf w os)
def G (_:World) (_:OsState):=openGood Q []
def A0 (w:World) (os:OsState):=(A w os).1
def G0 (w:World) (os:OsState):=(G w os).1
theorem qA0:tt (Hd.A0,Hd.G0)=true:=by k_qdec
theorem rA0:∀ w,Fast.tw6131166808449026830 w=Hd.G0 w:=fun w=>by kernel_rfl
theorem eA0 (w:World) (os:OsState):Hd.A0 w os=Hd.G0 w os:=(congrFun (congrFun Fast.te6131166808449026830 w) os).trans (congrFun (rA0 w) os)
def A1 (w:World) (os:OsState):=(A w os).2.1
def G1 (w:World) (os:OsState):=(G w os).2.1
theorem qA1:tt (Hd.A1,Hd.G1)=true:=by k_qdec
theorem rA1:∀ w,Fast.tw7581016493306269660 w=Hd.G1 w:=fun w=>by kernel_rfl
theorem eA1 (w:World) (os:OsState):Hd.A1 w os=Hd.G1 w os:=(congrFun (congrFun Fast.te7581016493306269660 w) os).trans (congrFun (rA1 w) os)
def A2 (w:World) (os:OsState):=(A w os).2.2.1
def G2 (w:World) (os:OsState):=(G w os).2.2.1
theorem qA2:tt (Hd.A2,Hd.G2)=true:=by k_qdec
theorem rA2:∀ w,Fast.tw2900191123710467766 w=Hd.G2 w:=fun w=>by kernel_rfl
theorem eA2 (w:World) (os:OsState):Hd.A2 w os=Hd.G2 w os:=(congrFun (congrFun Fast.te2900191123710467766 w) os).trans (congrFun (rA2 w) os)
def A3 (w:World) (os:OsState):=(A w os).2.2.2.1
def G3 (w:World) (os:OsState):=(G w os).2.2.2.1
theorem qA3:tt (Hd.A3,Hd.G3)=true:=by k_qdec
theorem rA3:∀ w,Fast.tw447134267514248570 w=Hd.G3 w:=fun w=>by kernel_rfl
theorem eA3 (w:World) (os:OsState):Hd.A3 w os=Hd.G3 w os:=(congrFun (congrFun Fast.te447134267514248570 w) os).trans (congrFun (rA3 w) os)
def A4 (w:World) (os:OsState):=(A w os).2.2.2.2.1
def G4 (w:World) (os:OsState):=(G w os).2.2.2.2.1
theorem qA4:tt (Hd.A4,Hd.G4)=true:=by k_qdec
theorem rA4:∀ w,Fast.tw14409291123802741499 w=Hd.G4 w:=fun w=>by kernel_rfl
theorem eA4 (w:World) (os:OsState):Hd.A4 w os=Hd.G4 w os:=(congrFun (congrFun Fast.te14409291123802741499 w) os).trans (congrFun (rA4 w) os)
def A5 (w:World) (os:OsState):=(A w os).2.2.2.2.2.1
def G5 (w:World) (os:OsState):=(G w os).2.2.2.2.2.1
theorem qA5:tt (Hd.A5,Hd.G5)=true:=by k_qdec
theorem rA5:∀ w,Fast.tw7163156141784225904 w=Hd.G5 w:=fun w=>by kernel_rfl
theorem eA5 (w:World) (os:OsState):Hd.A5 w os=Hd.G5 w os:=(congrFun (congrFun Fast.te7163156141784225904 w) os).trans (congrFun (rA5 w) os)
def A6 (w:World) (os:OsState):=(A w os).2.2.2.2.2.2.1
def G6 (w:World) (os:OsState):=(G w os).2.2.2.2.2.2.1
theorem qA6:tt (Hd.A6,Hd.G6)=true:=by k_qdec
theorem rA6:∀ w,Fast.tw148487786646926683 w=Hd.G6 w:=fun w=>by kernel_rfl
theorem eA6 (w:World) (os:OsState):Hd.A6 w os=Hd.G6 w os:=(congrFun (congrFun Fast.te148487786646926683 w) os).trans (congrFun (rA6 w) os)
def A7 (w:World) (os:OsState):=(A w os).2.2.2.2.2.2.2.1
def G7 (w:World) (os:OsState):=(G w os).2.2.2.2.2.2.2.1
theorem qA7:tt (Hd.A7,Hd.G7)=true:=by k_qdec
theorem rA7:∀ w,Fast.tw17782257788342479682 w=Hd.G7 w:=fun w=>by kernel_rfl
theorem eA7 (w:World) (os:OsState):Hd.A7 w os=Hd.G7 w os:=(congrFun (congrFun Fast.te17782257788342479682 w) os).trans (congrFun (rA7 w) os)
def A8 (w:World) (os:OsState):=(A w os).2.2.2.2.2.2.2.2
def G8 (w:World) (os:OsState):=(G w os).2.2.2.2.2.2.2.2
theorem qA8:tt (Hd.A8,Hd.G8)=true:=by k_qdec
theorem rA8:∀ w,Fast.tw8885869309975874061 w=Hd.G8 w:=fun w=>by kernel_rfl
theorem eA8 (w:World) (os:OsState):Hd.A8 w os=Hd.G8 w os:=(congrFun (congrFun Fast.te8885869309975874061 w) os).trans (congrFun (rA8 w) os)
def Ls (w:World) (os:OsState):Bool:=staticsOk zhT (boot_heap w.params) (H1 w.params)&&namesBound pw (H1 w.params)&&gensDone (sf w os)&&laidKept (boot_heap w.params) (H1 w.params)
noncomputable def Rs (_:World) (_:OsState):Bool:=true
def Lz (w:World) (_:OsState):=((boot_heap w.params).isNs mainGlobals&&(⟨[]⟩:Array GenState).size == 0,(boot_heap w.params).objs.size,(boot_heap w.params).nsMap mainGlobals "__annotations__")
noncomputable def Rz (_:World) (_:OsState):Bool×Nat×Option Value:=(true,11,an)
theorem qs:tt Hd.Ls=true:=by k_qdec
theorem rs:∀ w,Fast.tw4959303863618478765 w=Hd.Rs w:=fun w=>by kernel_rfl
theorem es (w:World) (os:OsState):Hd.Ls w os=Hd.Rs w os:=(congrFun (congrFun Fast.te4959303863618478765 w) os).trans (congrFun (rs w) os)
theorem qz:tt Hd.Lz=true:=by k_qdec
theorem rz:∀ w,Fast.tw17831390912981975158 w=Hd.Rz w:=fun w=>by kernel_rfl
theorem ez (w:World) (os:OsState):Hd.Lz w os=Hd.Rz w os:=(congrFun (congrFun Fast.te17831390912981975158 w) os).trans (congrFun (rz w) os)
theorem op:opening pw=plainProg pw.main.scope.names:=by kernel_rfl
theorem fe (s:Shared):fenceModules? pw s=some s:=by kernel_rfl
theorem left:LeftO pw Q [] Xt hk.obs hk.val 4858 :=
 LeftO.of_pieces (M:=M) (m₀:=11) (ann:=an) (H₀:=boot_heap) (H₁:=H1) (boot_open op (by kernel_rfl) fe) (fun w=>ez w (start pw).1.os) run (by kernel_rfl) (fun w=>funext fun os=>looks_pair (es w os) (looks_pair
  (Prod.ext (eA0 w os) (Prod.ext (eA1 w os) (Prod.ext (eA2 w os) (Prod.ext (eA3 w os) (Prod.ext (eA4 w os) (Prod.ext (eA5 w os) (Prod.ext (eA6 w os) (Prod.ext (eA7 w os) (eA8 w os)))))))))
  (ey w os)))
theorem both {a b:Bool}(z:(a&&b)=true):a=true∧b=true:=Bool.and_eq_true_iff.mp z
end Hd
end
namespace K04
open PySem L2
abbrev fS (n q:Str) (s:Stmt) (k d p:Value) (a:Option Addr) (c t:Value):FuncData:=PySem.W.fnOf n q (defArgs s) (defBody s) (defScope s) .none k d p a c t
open PySem.W (nsIn findIn isFn codeIn keepIn plainGet hasDictIn plainOver makesIn mroIn specialIn takesIn kitOne mg_of mg_none_of excIn)
theorem txt_mk {w:World}{K:PySem.W.Frag}{h:Heap}{mg:Str→Option Value}(X:K.In h) (G:h.Ns mainGlobals mg)
  {f_qa:Addr}{od0 an0:Option Addr}{sl0:Array (Option Value)}{oc0 kV0 dc0 pm0 cd0 ct0:Value}{f_qb:Addr}{od1 an1:Option Addr}{sl1:Array (Option Value)}{oc1 kV1 dc1 pm1 cd1 ct1:Value}{f_qc:Addr}{od2 an2:Option Addr}{sl2:Array (Option Value)}{oc2 kV2 dc2 pm2 cd2 ct2:Value}{f_qd:Addr}{od3 an3:Option Addr}{sl3:Array (Option Value)}{oc3 kV3 dc3 pm3 cd3 ct3:Value}{f_qe:Addr}{od4 an4:Option Addr}{sl4:Array (Option Value)}{oc4 kV4 dc4 pm4 cd4 ct4:Value}{f_qf:Addr}{od5 an5:Option Addr}{sl5:Array (Option Value)}{oc5 kV5 dc5 pm5 cd5 ct5:Value}{f_qg:Addr}{od6 an6:Option Addr}{sl6:Array (Option Value)}{oc6 kV6 dc6 pm6 cd6 ct6:Value}{f_qh:Addr}{od7 an7:Option Addr}{sl7:Array (Option Value)}{oc7 kV7 dc7 pm7 cd7 ct7:Value}{f_qi:Addr}{od8 an8:Option Addr}{sl8:Array (Option Value)}{oc8 kV8 dc8 pm8 cd8 ct8:Value}{f_qj:Addr}{od9 an9:Option Addr}{sl9:Array (Option Value)}{oc9 kV9 dc9 pm9 cd9 ct9:Value}{f_qk:Addr}{od10 an10:Option Addr}{sl10:Array (Option Value)}{oc10 kV10 dc10 pm10 cd10 ct10:Value}{f_ql:Addr}{od11 an11:Option Addr}{sl11:Array (Option Value)}{oc11 kV11 dc11 pm11 cd11 ct11:Value}{f_qm:Addr}{od12 an12:Option Addr}{sl12:Array (Option Value)}{oc12 kV12 dc12 pm12 cd12 ct12:Value}{f_qn:Addr}{od13 an13:Option Addr}{sl13:Array (Option Value)}{oc13 kV13 dc13 pm13 cd13 ct13:Value}{f_qo:Addr}{od14 an14:Option Addr}{sl14:Array (Option Value)}{oc14 kV14 dc14 pm14 cd14 ct14:Value}{f_qp:Addr}{od15 an15:Option Addr}{sl15:Array (Option Value)}{oc15 kV15 dc15 pm15 cd15 ct15:Value}{f_qq:Addr}{od16 an16:Option Addr}{sl16:Array (Option Value)}{oc16 kV16 dc16 pm16 cd16 ct16:Value}{f_qr:Addr}{od17 an17:Option Addr}{sl17:Array (Option Value)}{oc17 kV17 dc17 pm17 cd17 ct17:Value}{f_qs:Addr}{od18 an18:Option Addr}{sl18:Array (Option Value)}{oc18 kV18 dc18 pm18 cd18 ct18:Value}{f_qt:Addr}{od19 an19:Option Addr}{sl19:Array (Option Value)}{oc19 kV19 dc19 pm19 cd19 ct19:Value}{f_qu:Addr}{od20 an20:Option Addr}{sl20:Array (Option Value)}{oc20 kV20 dc20 pm20 cd20 ct20:Value}{f_qv:Addr}{od21 an21:Option Addr}{sl21:Array (Option Value)}{oc21 kV21 dc21 pm21 cd21 ct21:Value}{f_qw:Addr}{od22 an22:Option Addr}{sl22:Array (Option Value)}{oc22 kV22 dc22 pm22 cd22 ct22:Value}{f_qx:Addr}{od23 an23:Option Addr}{sl23:Array (Option Value)}{oc23 kV23 dc23 pm23 cd23 ct23:Value}{f_qy:Addr}{od24 an24:Option Addr}{sl24:Array (Option Value)}{oc24 kV24 dc24 pm24 cd24 ct24:Value}{f_qz:Addr}{od25 an25:Option Addr}{sl25:Array (Option Value)}{oc25 kV25 dc25 pm25 cd25 ct25:Value}{f_qA:Addr}{od26 an26:Option Addr}{sl26:Array (Option Value)}{oc26 kV26 dc26 pm26 cd26 ct26:Value}{f_qB:Addr}{od27 an27:Option Addr}{sl27:Array (Option Value)}{oc27 kV27 dc27 pm27 cd27 ct27:Value}{f_qC:Addr}{od28 an28:Option Addr}{sl28:Array (Option Value)}{oc28 kV28 dc28 pm28 cd28 ct28:Value}{f_qD:Addr}{od29 an29:Option Addr}{sl29:Array (Option Value)}{oc29 kV29 dc29 pm29 cd29 ct29:Value}{f_qE:Addr}{od30 an30:Option Addr}{sl30:Array (Option Value)}{oc30 kV30 dc30 pm30 cd30 ct30:Value}{f_qF:Addr}{od31 an31:Option Addr}{sl31:Array (Option Value)}{oc31 kV31 dc31 pm31 cd31 ct31:Value}{f_qG:Addr}{od32 an32:Option Addr}{sl32:Array (Option Value)}{oc32 kV32 dc32 pm32 cd32 ct32:Value}{c_Way:Addr}{c_Web:Addr}{t_MOST_HANDS:Tok}{t_LAST_HAND:Tok}
  (z_len:nsIn K mainGlobals "len" = some none)
  (z_int:nsIn K mainGlobals "int" = some none)
  (z_min:nsIn K mainGlobals "min" = some none)
  (z_max:nsIn K mainGlobals "max" = some none)
  (z_range:nsIn K mainGlobals "range" = some none)
  (z_isinstance:nsIn K mainGlobals "isinstance" = some none)
  (z_list:nsIn K mainGlobals "list" = some none)
  (z_dict:nsIn K mainGlobals "dict" = some none)
  (z_sorted:nsIn K mainGlobals "sorted" = some none)
  (z_bool:nsIn K mainGlobals "bool" = some none)
  (z_tuple:nsIn K mainGlobals "tuple" = some none)
  (z_ValueError:nsIn K mainGlobals "ValueError" = some none)
  (A_Way:nsIn K mainGlobals "Way" = some (some (.ref c_Way)))
  (A_Web:nsIn K mainGlobals "Web" = some (some (.ref c_Web)))
  (a_0:nsIn K mainGlobals "is_whole" = some (some (.ref f_qa)))
  (l_0:K.lookup f_qa=some ⟨oc0,od0,.func (fS "is_whole" "is_whole" ZI kV0 dc0 pm0 an0 cd0 ct0),sl0⟩)
  (cc_0:codeIn K cd0 "is_whole" = true)
  (kk_0:keepIn K (.ref f_qa)=true)
  (a_1:nsIn K mainGlobals "copied" = some (some (.ref f_qb)))
  (l_1:K.lookup f_qb=some ⟨oc1,od1,.func (fS "copied" "copied" ZH kV1 dc1 pm1 an1 cd1 ct1),sl1⟩)
  (cc_1:codeIn K cd1 "copied" = true)
  (kk_1:keepIn K (.ref f_qb)=true)
  (a_2:nsIn K mainGlobals "first_joins" = some (some (.ref f_qc)))
  (l_2:K.lookup f_qc=some ⟨oc2,od2,.func (fS "first_joins" "first_joins" ZG kV2 dc2 pm2 an2 cd2 ct2),sl2⟩)
  (cc_2:codeIn K cd2 "first_joins" = true)
  (kk_2:keepIn K (.ref f_qc)=true)
  (a_3:nsIn K mainGlobals "next_ring" = some (some (.ref f_qd)))
  (l_3:K.lookup f_qd=some ⟨oc3,od3,.func (fS "next_ring" "next_ring" ZF kV3 dc3 pm3 an3 cd3 ct3),sl3⟩)
  (cc_3:codeIn K cd3 "next_ring" = true)
  (kk_3:keepIn K (.ref f_qd)=true)
  (a_4:nsIn K mainGlobals "parents_in_cluster" = some (some (.ref f_qe)))
  (l_4:K.lookup f_qe=some ⟨oc4,od4,.func (fS "parents_in_cluster" "parents_in_cluster" ZE kV4 dc4 pm4 an4 cd4 ct4),sl4⟩)
  (cc_4:codeIn K cd4 "parents_in_cluster" = true)
  (kk_4:keepIn K (.ref f_qe)=true)
  (a_5:nsIn K mainGlobals "by_clusters" = some (some (.ref f_qf)))
  (l_5:K.lookup f_qf=some ⟨oc5,od5,.func (fS "by_clusters" "by_clusters" ZD kV5 dc5 pm5 an5 cd5 ct5),sl5⟩)
  (cc_5:codeIn K cd5 "by_clusters" = true)
  (kk_5:keepIn K (.ref f_qf)=true)
  (a_6:nsIn K mainGlobals "by_neighbours" = some (some (.ref f_qg)))
  (l_6:K.lookup f_qg=some ⟨oc6,od6,.func (fS "by_neighbours" "by_neighbours" ZC kV6 dc6 pm6 an6 cd6 ct6),sl6⟩)
  (cc_6:codeIn K cd6 "by_neighbours" = true)
  (kk_6:keepIn K (.ref f_qg)=true)
  (a_7:nsIn K mainGlobals "by_tree" = some (some (.ref f_qh)))
  (l_7:K.lookup f_qh=some ⟨oc7,od7,.func (fS "by_tree" "by_tree" ZB kV7 dc7 pm7 an7 cd7 ct7),sl7⟩)
  (cc_7:codeIn K cd7 "by_tree" = true)
  (kk_7:keepIn K (.ref f_qh)=true)
  (a_8:nsIn K mainGlobals "are_hands" = some (some (.ref f_qi)))
  (l_8:K.lookup f_qi=some ⟨oc8,od8,.func (fS "are_hands" "are_hands" ZA kV8 dc8 pm8 an8 cd8 ct8),sl8⟩)
  (cc_8:codeIn K cd8 "are_hands" = true)
  (kk_8:keepIn K (.ref f_qi)=true)
  (a_9:nsIn K mainGlobals "is_line" = some (some (.ref f_qj)))
  (l_9:K.lookup f_qj=some ⟨oc9,od9,.func (fS "is_line" "is_line" Zz kV9 dc9 pm9 an9 cd9 ct9),sl9⟩)
  (cc_9:codeIn K cd9 "is_line" = true)
  (kk_9:keepIn K (.ref f_qj)=true)
  (a_10:nsIn K mainGlobals "are_lines" = some (some (.ref f_qk)))
  (l_10:K.lookup f_qk=some ⟨oc10,od10,.func (fS "are_lines" "are_lines" Zy kV10 dc10 pm10 an10 cd10 ct10),sl10⟩)
  (cc_10:codeIn K cd10 "are_lines" = true)
  (kk_10:keepIn K (.ref f_qk)=true)
  (a_11:nsIn K mainGlobals "near_by_hand" = some (some (.ref f_ql)))
  (l_11:K.lookup f_ql=some ⟨oc11,od11,.func (fS "near_by_hand" "near_by_hand" Zx kV11 dc11 pm11 an11 cd11 ct11),sl11⟩)
  (cc_11:codeIn K cd11 "near_by_hand" = true)
  (kk_11:keepIn K (.ref f_ql)=true)
  (a_12:nsIn K mainGlobals "_law_cell_at" = some (some (.ref f_qm)))
  (l_12:K.lookup f_qm=some ⟨oc12,od12,.func (fS "_law_cell_at" "_law_cell_at" Zw kV12 dc12 pm12 an12 cd12 ct12),sl12⟩)
  (cc_12:codeIn K cd12 "_law_cell_at" = true)
  (kk_12:keepIn K (.ref f_qm)=true)
  (a_13:nsIn K mainGlobals "_law_draws" = some (some (.ref f_qn)))
  (l_13:K.lookup f_qn=some ⟨oc13,od13,.func (fS "_law_draws" "_law_draws" Zv kV13 dc13 pm13 an13 cd13 ct13),sl13⟩)
  (cc_13:codeIn K cd13 "_law_draws" = true)
  (kk_13:keepIn K (.ref f_qn)=true)
  (a_14:nsIn K mainGlobals "_law_take" = some (some (.ref f_qo)))
  (l_14:K.lookup f_qo=some ⟨oc14,od14,.func (fS "_law_take" "_law_take" uG kV14 dc14 pm14 an14 cd14 ct14),sl14⟩)
  (cc_14:codeIn K cd14 "_law_take" = true)
  (kk_14:keepIn K (.ref f_qo)=true)
  (a_15:nsIn K mainGlobals "_law_hands" = some (some (.ref f_qp)))
  (l_15:K.lookup f_qp=some ⟨oc15,od15,.func (fS "_law_hands" "_law_hands" Zu kV15 dc15 pm15 an15 cd15 ct15),sl15⟩)
  (cc_15:codeIn K cd15 "_law_hands" = true)
  (kk_15:keepIn K (.ref f_qp)=true)
  (a_16:nsIn K mainGlobals "_law_lines" = some (some (.ref f_qq)))
  (l_16:K.lookup f_qq=some ⟨oc16,od16,.func (fS "_law_lines" "_law_lines" Zs kV16 dc16 pm16 an16 cd16 ct16),sl16⟩)
  (cc_16:codeIn K cd16 "_law_lines" = true)
  (kk_16:keepIn K (.ref f_qq)=true)
  (a_17:nsIn K mainGlobals "_law_near" = some (some (.ref f_qr)))
  (l_17:K.lookup f_qr=some ⟨oc17,od17,.func (fS "_law_near" "_law_near" Zr kV17 dc17 pm17 an17 cd17 ct17),sl17⟩)
  (cc_17:codeIn K cd17 "_law_near" = true)
  (kk_17:keepIn K (.ref f_qr)=true)
  (a_18:nsIn K mainGlobals "_law_steps" = some (some (.ref f_qs)))
  (l_18:K.lookup f_qs=some ⟨oc18,od18,.func (fS "_law_steps" "_law_steps" uF kV18 dc18 pm18 an18 cd18 ct18),sl18⟩)
  (cc_18:codeIn K cd18 "_law_steps" = true)
  (kk_18:keepIn K (.ref f_qs)=true)
  (a_19:nsIn K mainGlobals "_law_way" = some (some (.ref f_qt)))
  (l_19:K.lookup f_qt=some ⟨oc19,od19,.func (fS "_law_way" "_law_way" uE kV19 dc19 pm19 an19 cd19 ct19),sl19⟩)
  (cc_19:codeIn K cd19 "_law_way" = true)
  (kk_19:keepIn K (.ref f_qt)=true)
  (a_20:nsIn K mainGlobals "_law_told" = some (some (.ref f_qu)))
  (l_20:K.lookup f_qu=some ⟨oc20,od20,.func (fS "_law_told" "_law_told" Zq kV20 dc20 pm20 an20 cd20 ct20),sl20⟩)
  (cc_20:codeIn K cd20 "_law_told" = true)
  (kk_20:keepIn K (.ref f_qu)=true)
  (a_21:nsIn K mainGlobals "_law_right" = some (some (.ref f_qv)))
  (l_21:K.lookup f_qv=some ⟨oc21,od21,.func (fS "_law_right" "_law_right" uD kV21 dc21 pm21 an21 cd21 ct21),sl21⟩)
  (cc_21:codeIn K cd21 "_law_right" = true)
  (kk_21:keepIn K (.ref f_qv)=true)
  (a_22:nsIn K mainGlobals "law" = some (some (.ref f_qw)))
  (l_22:K.lookup f_qw=some ⟨oc22,od22,.func (fS "law" "law" Zp kV22 dc22 pm22 an22 cd22 ct22),sl22⟩)
  (cc_22:codeIn K cd22 "law" = true)
  (kk_22:keepIn K (.ref f_qw)=true)
  (a_23:findIn K (.ref c_Way) "__init__" = some (some (.ref f_qx)))
  (i_23:isFn K (.ref f_qx)=true)
  (l_23:K.lookup f_qx=some ⟨oc23,od23,.func (fS "__init__" "Way.__init__" Zo kV23 dc23 pm23 an23 cd23 ct23),sl23⟩)
  (cc_23:codeIn K cd23 "Way.__init__" = true)
  (kk_23:keepIn K (.ref f_qx)=true)
  (a_24:findIn K (.ref c_Way) "all_parents" = some (some (.ref f_qy)))
  (i_24:isFn K (.ref f_qy)=true)
  (l_24:K.lookup f_qy=some ⟨oc24,od24,.func (fS "all_parents" "Way.all_parents" Zn kV24 dc24 pm24 an24 cd24 ct24),sl24⟩)
  (cc_24:codeIn K cd24 "Way.all_parents" = true)
  (kk_24:keepIn K (.ref f_qy)=true)
  (a_25:findIn K (.ref c_Way) "all_bridges" = some (some (.ref f_qz)))
  (i_25:isFn K (.ref f_qz)=true)
  (l_25:K.lookup f_qz=some ⟨oc25,od25,.func (fS "all_bridges" "Way.all_bridges" Zm kV25 dc25 pm25 an25 cd25 ct25),sl25⟩)
  (cc_25:codeIn K cd25 "Way.all_bridges" = true)
  (kk_25:keepIn K (.ref f_qz)=true)
  (a_26:findIn K (.ref c_Way) "path_up" = some (some (.ref f_qA)))
  (i_26:isFn K (.ref f_qA)=true)
  (l_26:K.lookup f_qA=some ⟨oc26,od26,.func (fS "path_up" "Way.path_up" ZP kV26 dc26 pm26 an26 cd26 ct26),sl26⟩)
  (cc_26:codeIn K cd26 "Way.path_up" = true)
  (kk_26:keepIn K (.ref f_qA)=true)
  (a_27:findIn K (.ref c_Way) "leader" = some (some (.ref f_qB)))
  (i_27:isFn K (.ref f_qB)=true)
  (l_27:K.lookup f_qB=some ⟨oc27,od27,.func (fS "leader" "Way.leader" ZO kV27 dc27 pm27 an27 cd27 ct27),sl27⟩)
  (cc_27:codeIn K cd27 "Way.leader" = true)
  (kk_27:keepIn K (.ref f_qB)=true)
  (a_28:findIn K (.ref c_Web) "__init__" = some (some (.ref f_qC)))
  (i_28:isFn K (.ref f_qC)=true)
  (l_28:K.lookup f_qC=some ⟨oc28,od28,.func (fS "__init__" "Web.__init__" ZN kV28 dc28 pm28 an28 cd28 ct28),sl28⟩)
  (cc_28:codeIn K cd28 "Web.__init__" = true)
  (kk_28:keepIn K (.ref f_qC)=true)
  (a_29:findIn K (.ref c_Web) "hands" = some (some (.ref f_qD)))
  (i_29:isFn K (.ref f_qD)=true)
  (l_29:K.lookup f_qD=some ⟨oc29,od29,.func (fS "hands" "Web.hands" ZM kV29 dc29 pm29 an29 cd29 ct29),sl29⟩)
  (cc_29:codeIn K cd29 "Web.hands" = true)
  (kk_29:keepIn K (.ref f_qD)=true)
  (a_30:findIn K (.ref c_Web) "lines" = some (some (.ref f_qE)))
  (i_30:isFn K (.ref f_qE)=true)
  (l_30:K.lookup f_qE=some ⟨oc30,od30,.func (fS "lines" "Web.lines" ZL kV30 dc30 pm30 an30 cd30 ct30),sl30⟩)
  (cc_30:codeIn K cd30 "Web.lines" = true)
  (kk_30:keepIn K (.ref f_qE)=true)
  (a_31:findIn K (.ref c_Web) "has_hand" = some (some (.ref f_qF)))
  (i_31:isFn K (.ref f_qF)=true)
  (l_31:K.lookup f_qF=some ⟨oc31,od31,.func (fS "has_hand" "Web.has_hand" ZK kV31 dc31 pm31 an31 cd31 ct31),sl31⟩)
  (cc_31:codeIn K cd31 "Web.has_hand" = true)
  (kk_31:keepIn K (.ref f_qF)=true)
  (a_32:findIn K (.ref c_Web) "neighbours" = some (some (.ref f_qG)))
  (i_32:isFn K (.ref f_qG)=true)
  (l_32:K.lookup f_qG=some ⟨oc32,od32,.func (fS "neighbours" "Web.neighbours" ZJ kV32 dc32 pm32 an32 cd32 ct32),sl32⟩)
  (cc_32:codeIn K cd32 "Web.neighbours" = true)
  (kk_32:keepIn K (.ref f_qG)=true)
  (pg_Way:plainGet K c_Way Str.empty=true)
  (hd_Way:hasDictIn K c_Way=true)
  (po_Way:plainOver K c_Way=true)
  (sa_Way:findIn K (.ref c_Way) "__setattr__" = some (some (.builtin "object.__setattr__")))
  (mk_Way:makesIn K c_Way=true)
  (kc_Way:keepIn K (.ref c_Way)=true)
  (ha_Way:findIn K (.ref c_Way) "__class__" = some (some (.builtin "object.__class__")))
  (hm_Way:mroIn K c_Way (.type "object")=some true)
  (na_Way_own_parents:findIn K (.ref c_Way) "own_parents" = some none)
  (na_Way_own_bridges:findIn K (.ref c_Way) "own_bridges" = some none)
  (pg_Web:plainGet K c_Web Str.empty=true)
  (hd_Web:hasDictIn K c_Web=true)
  (po_Web:plainOver K c_Web=true)
  (sa_Web:findIn K (.ref c_Web) "__setattr__" = some (some (.builtin "object.__setattr__")))
  (mk_Web:makesIn K c_Web=true)
  (kc_Web:keepIn K (.ref c_Web)=true)
  (ha_Web:findIn K (.ref c_Web) "__class__" = some (some (.builtin "object.__class__")))
  (hm_Web:mroIn K c_Web (.type "object")=some true)
  (na_Web_own_hands:findIn K (.ref c_Web) "own_hands" = some none)
  (na_Web_own_lines:findIn K (.ref c_Web) "own_lines" = some none)
  (na_Web_near:findIn K (.ref c_Web) "near" = some none)
  (hn:specialIn K (.builtin "object.__class__") "__get__" = some (some (.builtin "getset_descriptor.__get__")))
  (htk:takesIn K (.builtin "object.__class__")=some true)
  (k_tint_tint:kitOne K (.type "int") (.type "int")=some true)
  (k_tint_tbool:kitOne K (.type "int") (.type "bool")=some false)
  (k_tlist_tlist:kitOne K (.type "list") (.type "list")=some true)
  (k_ttuple_ttuple:kitOne K (.type "tuple") (.type "tuple")=some true)
  (k_ttuple_tlist:kitOne K (.type "tuple") (.type "list")=some false)
  (k_tdict_tlist:kitOne K (.type "dict") (.type "list")=some false)
  (k_tdict_ttuple:kitOne K (.type "dict") (.type "tuple")=some false)
  (k_tdict_tdict:kitOne K (.type "dict") (.type "dict")=some true)
  (k_tint_tlist:kitOne K (.type "int") (.type "list")=some false)
  (k_tint_ttuple:kitOne K (.type "int") (.type "tuple")=some false)
  (k_tint_tdict:kitOne K (.type "int") (.type "dict")=some false)
  (k_tNoneType_tlist:kitOne K (.type "NoneType") (.type "list")=some false)
  (k_tNoneType_ttuple:kitOne K (.type "NoneType") (.type "tuple")=some false)
  (k_tNoneType_tdict:kitOne K (.type "NoneType") (.type "dict")=some false)
  (G_MOST_HANDS:nsIn K mainGlobals "MOST_HANDS" = some (some (.int 12 t_MOST_HANDS)))
  (G_LAST_HAND:nsIn K mainGlobals "LAST_HAND" = some (some (.int 99 t_LAST_HAND))) :
  ∃ a:Ad,Txt w K mg a:=by
 have F0:=zu (st:=ZI) l_0 cc_0 kk_0
 have F1:=zu (st:=ZH) l_1 cc_1 kk_1
 have F2:=zu (st:=ZG) l_2 cc_2 kk_2
 have F3:=zu (st:=ZF) l_3 cc_3 kk_3
 have F4:=zu (st:=ZE) l_4 cc_4 kk_4
 have F5:=zu (st:=ZD) l_5 cc_5 kk_5
 have F6:=zu (st:=ZC) l_6 cc_6 kk_6
 have F7:=zu (st:=ZB) l_7 cc_7 kk_7
 have F8:=zu (st:=ZA) l_8 cc_8 kk_8
 have F9:=zu (st:=Zz) l_9 cc_9 kk_9
 have F10:=zu (st:=Zy) l_10 cc_10 kk_10
 have F11:=zu (st:=Zx) l_11 cc_11 kk_11
 have F12:=zu (st:=Zw) l_12 cc_12 kk_12
 have F13:=zu (st:=Zv) l_13 cc_13 kk_13
 have F14:=zu (st:=uG) l_14 cc_14 kk_14
 have F15:=zu (st:=Zu) l_15 cc_15 kk_15
 have F16:=zu (st:=Zs) l_16 cc_16 kk_16
 have F17:=zu (st:=Zr) l_17 cc_17 kk_17
 have F18:=zu (st:=uF) l_18 cc_18 kk_18
 have F19:=zu (st:=uE) l_19 cc_19 kk_19
 have F20:=zu (st:=Zq) l_20 cc_20 kk_20
 have F21:=zu (st:=uD) l_21 cc_21 kk_21
 have F22:=zu (st:=Zp) l_22 cc_22 kk_22
 have F23:=zu (st:=Zo) l_23 cc_23 kk_23
 have F24:=zu (st:=Zn) l_24 cc_24 kk_24
 have F25:=zu (st:=Zm) l_25 cc_25 kk_25
 have F26:=zu (st:=ZP) l_26 cc_26 kk_26
 have F27:=zu (st:=ZO) l_27 cc_27 kk_27
 have F28:=zu (st:=ZN) l_28 cc_28 kk_28
 have F29:=zu (st:=ZM) l_29 cc_29 kk_29
 have F30:=zu (st:=ZL) l_30 cc_30 kk_30
 have F31:=zu (st:=ZK) l_31 cc_31 kk_31
 have F32:=zu (st:=ZJ) l_32 cc_32 kk_32
 refine⟨⟨f_qa,fS "is_whole" "is_whole" ZI kV0 dc0 pm0 an0 cd0 ct0,f_qb,fS "copied" "copied" ZH kV1 dc1 pm1 an1 cd1 ct1,f_qc,fS "first_joins" "first_joins" ZG kV2 dc2 pm2 an2 cd2 ct2,f_qd,fS "next_ring" "next_ring" ZF kV3 dc3 pm3 an3 cd3 ct3,f_qe,fS "parents_in_cluster" "parents_in_cluster" ZE kV4 dc4 pm4 an4 cd4 ct4,f_qf,fS "by_clusters" "by_clusters" ZD kV5 dc5 pm5 an5 cd5 ct5,f_qg,fS "by_neighbours" "by_neighbours" ZC kV6 dc6 pm6 an6 cd6 ct6,f_qh,fS "by_tree" "by_tree" ZB kV7 dc7 pm7 an7 cd7 ct7,f_qi,fS "are_hands" "are_hands" ZA kV8 dc8 pm8 an8 cd8 ct8,f_qj,fS "is_line" "is_line" Zz kV9 dc9 pm9 an9 cd9 ct9,f_qk,fS "are_lines" "are_lines" Zy kV10 dc10 pm10 an10 cd10 ct10,f_ql,fS "near_by_hand" "near_by_hand" Zx kV11 dc11 pm11 an11 cd11 ct11,f_qm,fS "_law_cell_at" "_law_cell_at" Zw kV12 dc12 pm12 an12 cd12 ct12,f_qn,fS "_law_draws" "_law_draws" Zv kV13 dc13 pm13 an13 cd13 ct13,f_qo,fS "_law_take" "_law_take" uG kV14 dc14 pm14 an14 cd14 ct14,f_qp,fS "_law_hands" "_law_hands" Zu kV15 dc15 pm15 an15 cd15 ct15,f_qq,fS "_law_lines" "_law_lines" Zs kV16 dc16 pm16 an16 cd16 ct16,f_qr,fS "_law_near" "_law_near" Zr kV17 dc17 pm17 an17 cd17 ct17,f_qs,fS "_law_steps" "_law_steps" uF kV18 dc18 pm18 an18 cd18 ct18,f_qt,fS "_law_way" "_law_way" uE kV19 dc19 pm19 an19 cd19 ct19,f_qu,fS "_law_told" "_law_told" Zq kV20 dc20 pm20 an20 cd20 ct20,f_qv,fS "_law_right" "_law_right" uD kV21 dc21 pm21 an21 cd21 ct21,f_qw,fS "law" "law" Zp kV22 dc22 pm22 an22 cd22 ct22,f_qx,fS "__init__" "Way.__init__" Zo kV23 dc23 pm23 an23 cd23 ct23,f_qy,fS "all_parents" "Way.all_parents" Zn kV24 dc24 pm24 an24 cd24 ct24,f_qz,fS "all_bridges" "Way.all_bridges" Zm kV25 dc25 pm25 an25 cd25 ct25,f_qA,fS "path_up" "Way.path_up" ZP kV26 dc26 pm26 an26 cd26 ct26,f_qB,fS "leader" "Way.leader" ZO kV27 dc27 pm27 an27 cd27 ct27,f_qC,fS "__init__" "Web.__init__" ZN kV28 dc28 pm28 an28 cd28 ct28,f_qD,fS "hands" "Web.hands" ZM kV29 dc29 pm29 an29 cd29 ct29,f_qE,fS "lines" "Web.lines" ZL kV30 dc30 pm30 an30 cd30 ct30,f_qF,fS "has_hand" "Web.has_hand" ZK kV31 dc31 pm31 an31 cd31 ct31,f_qG,fS "neighbours" "Web.neighbours" ZJ kV32 dc32 pm32 an32 cd32 ct32,c_Way,c_Web,t_MOST_HANDS,t_LAST_HAND⟩,?_⟩
 exact⟨mg_none_of X G z_len,
  mg_none_of X G z_int,
  mg_none_of X G z_min,
  mg_none_of X G z_max,
  mg_none_of X G z_range,
  mg_none_of X G z_isinstance,
  mg_none_of X G z_list,
  mg_none_of X G z_dict,
  mg_none_of X G z_sorted,
  mg_none_of X G z_bool,
  mg_none_of X G z_tuple,
  mg_none_of X G z_ValueError,
  F0,
  F0.binds (ps:=["value"]) fun _ _ _ _ _ _ us hl=>match us,hl with | [_],_=>rfl,
  mg_of X G a_0,
  F1,
  F1.binds (ps:=["value"]) fun _ _ _ _ _ _ us hl=>match us,hl with | [_],_=>rfl,
  mg_of X G a_1,
  F2,
  F2.binds (ps:=["way", "lines"]) fun _ _ _ _ _ _ us hl=>match us,hl with | [_,_],_=>rfl,
  mg_of X G a_2,
  F3,
  F3.binds (ps:=["web", "left", "parents", "ring"]) fun _ _ _ _ _ _ us hl=>match us,hl with | [_,_,_,_],_=>rfl,
  mg_of X G a_3,
  F4,
  F4.binds (ps:=["web", "left", "reach"]) fun _ _ _ _ _ _ us hl=>match us,hl with | [_,_,_],_=>rfl,
  mg_of X G a_4,
  F5,
  F5.binds (ps:=["web", "reach"]) fun _ _ _ _ _ _ us hl=>match us,hl with | [_,_],_=>rfl,
  mg_of X G a_5,
  F6,
  F6.binds (ps:=["web"]) fun _ _ _ _ _ _ us hl=>match us,hl with | [_],_=>rfl,
  mg_of X G a_6,
  F7,
  F7.binds (ps:=["web"]) fun _ _ _ _ _ _ us hl=>match us,hl with | [_],_=>rfl,
  mg_of X G a_7,
  F8,
  F8.binds (ps:=["hands"]) fun _ _ _ _ _ _ us hl=>match us,hl with | [_],_=>rfl,
  mg_of X G a_8,
  F9,
  F9.binds (ps:=["line", "hands"]) fun _ _ _ _ _ _ us hl=>match us,hl with | [_,_],_=>rfl,
  mg_of X G a_9,
  F10,
  F10.binds (ps:=["lines", "hands"]) fun _ _ _ _ _ _ us hl=>match us,hl with | [_,_],_=>rfl,
  mg_of X G a_10,
  F11,
  F11.binds (ps:=["hands", "lines"]) fun _ _ _ _ _ _ us hl=>match us,hl with | [_,_],_=>rfl,
  mg_of X G a_11,
  F12,
  F12.binds (ps:=["_law_script", "_law_k"]) fun _ _ _ _ _ _ us hl=>match us,hl with | [_,_],_=>rfl,
  mg_of X G a_12,
  F13,
  F13.binds (ps:=["_law_cell", "_law_many"]) fun _ _ _ _ _ _ us hl=>match us,hl with | [_,_],_=>rfl,
  mg_of X G a_13,
  F14,
  F14.binds (ps:=["_law_xs", "_law_size"]) fun _ _ _ _ _ _ us hl=>match us,hl with | [_,_],_=>rfl,
  mg_of X G a_14,
  F15,
  F15.binds (ps:=["_law_xs", "_law_most"]) fun _ _ _ _ _ _ us hl=>match us,hl with | [_,_],_=>rfl,
  mg_of X G a_15,
  F16,
  F16.binds (ps:=["_law_xs", "_law_hands_here"]) fun _ _ _ _ _ _ us hl=>match us,hl with | [_,_],_=>rfl,
  mg_of X G a_16,
  F17,
  F17.binds (ps:=["_law_lines_here", "_law_hand"]) fun _ _ _ _ _ _ us hl=>match us,hl with | [_,_],_=>rfl,
  mg_of X G a_17,
  F18,
  F18.binds (ps:=["_law_lines_here", "_law_left", "_law_leader", "_law_reach"]) fun _ _ _ _ _ _ us hl=>match us,hl with | [_,_,_,_],_=>rfl,
  mg_of X G a_18,
  F19,
  F19.binds (ps:=["_law_hands_here", "_law_lines_here", "_law_reach"]) fun _ _ _ _ _ _ us hl=>match us,hl with | [_,_,_],_=>rfl,
  mg_of X G a_19,
  F20,
  F20.binds (ps:=["_law_way_here"]) fun _ _ _ _ _ _ us hl=>match us,hl with | [_],_=>rfl,
  mg_of X G a_20,
  F21,
  F21.binds (ps:=["_law_hands_here", "_law_lines_here", "_law_reach"]) fun _ _ _ _ _ _ us hl=>match us,hl with | [_,_,_],_=>rfl,
  mg_of X G a_21,
  F22,
  F22.binds (ps:=["_law_script"]) fun _ _ _ _ _ _ us hl=>match us,hl with | [_],_=>rfl,
  fun s v=>.of_eq rfl,
  mg_of X G a_22,
  F23,
  F23.binds (ps:=["self", "parents", "bridges"]) fun _ _ _ _ _ _ us hl=>match us,hl with | [_,_,_],_=>rfl,
  F24,
  F24.binds (ps:=["self"]) fun _ _ _ _ _ _ us hl=>match us,hl with | [_],_=>rfl,
  ⟨a_24,i_24,kk_24⟩,
  F25,
  F25.binds (ps:=["self"]) fun _ _ _ _ _ _ us hl=>match us,hl with | [_],_=>rfl,
  ⟨a_25,i_25,kk_25⟩,
  F26,
  F26.binds (ps:=["self", "hand"]) fun _ _ _ _ _ _ us hl=>match us,hl with | [_,_],_=>rfl,
  ⟨a_26,i_26,kk_26⟩,
  F27,
  F27.binds (ps:=["self", "hand"]) fun _ _ _ _ _ _ us hl=>match us,hl with | [_,_],_=>rfl,
  ⟨a_27,i_27,kk_27⟩,
  F28,
  F28.binds (ps:=["self", "hands", "lines"]) fun _ _ _ _ _ _ us hl=>match us,hl with | [_,_,_],_=>rfl,
  F29,
  F29.binds (ps:=["self"]) fun _ _ _ _ _ _ us hl=>match us,hl with | [_],_=>rfl,
  ⟨a_29,i_29,kk_29⟩,
  F30,
  F30.binds (ps:=["self"]) fun _ _ _ _ _ _ us hl=>match us,hl with | [_],_=>rfl,
  ⟨a_30,i_30,kk_30⟩,
  F31,
  F31.binds (ps:=["self", "hand"]) fun _ _ _ _ _ _ us hl=>match us,hl with | [_,_],_=>rfl,
  ⟨a_31,i_31,kk_31⟩,
  F32,
  F32.binds (ps:=["self", "hand"]) fun _ _ _ _ _ _ us hl=>match us,hl with | [_,_],_=>rfl,
  ⟨a_32,i_32,kk_32⟩,
  mg_of X G A_Way,
  ⟨pg_Way,hd_Way,po_Way,sa_Way⟩,
  ⟨mk_Way,a_23,i_23,kc_Way⟩,
  fun H p dx fs e=>.ins e ⟨pg_Way,hd_Way,po_Way,sa_Way⟩ ha_Way hn htk hm_Way,
  na_Way_own_parents,
  na_Way_own_bridges,
  mg_of X G A_Web,
  ⟨pg_Web,hd_Web,po_Web,sa_Web⟩,
  ⟨mk_Web,a_28,i_28,kc_Web⟩,
  fun H p dx fs e=>.ins e ⟨pg_Web,hd_Web,po_Web,sa_Web⟩ ha_Web hn htk hm_Web,
  na_Web_own_hands,
  na_Web_own_lines,
  na_Web_near,
  k_tint_tint,
  k_tint_tbool,
  k_tlist_tlist,
  k_ttuple_ttuple,
  k_ttuple_tlist,
  k_tdict_tlist,
  k_tdict_ttuple,
  k_tdict_tdict,
  k_tint_tlist,
  k_tint_ttuple,
  k_tint_tdict,
  k_tNoneType_tlist,
  k_tNoneType_ttuple,
  k_tNoneType_tdict,
  mg_of X G G_MOST_HANDS,
  mg_of X G G_LAST_HAND⟩
end K04
open PySem PySem.W PyProof.Rows
set_option maxRecDepth 100000 in
set_option maxHeartbeats 0 in
theorem PySem.Challenge.cw_beatless_k26_neighbours_trees_clusters_holds : PySem.Challenge.rw_beatless_k26_neighbours_trees_clusters.Holds := by
 w_on;o_law
 refine holds_open (XP:=XL Hd.Q []) (YP:=(kHook Hd.K Hd.as Hd.asK).says) Hd.left Hd.hk.of Hd.hk.keeps
  (fun s z=>xl_of s (Hd.both z).1) XL.keeps (by rfl) (by rfl) (by rfl)
  (fun s z=>recFacts_of (Hd.both z).2) (by rfl) (by assumption) (by decide +kernel)
  ⟨rfl,rfl,rfl,rfl,rfl,by decide +kernel⟩ ?hw ?hc
 case hw=>w_witness2
 k_fill
 refine L2.walk_ofK (l:=PySem.Challenge.rw_beatless_k26_neighbours_trees_clusters) (n:=63) (k:=26) (x := "_law_script") (CX:=L2.CX0) (sp:=K04.spLaw) rfl (by decide) rfl ⟨rfl,by decide,by decide⟩ (fun w h Y=>PySem.W.kIn_of Y) ?F ?S ?C
 case F =>
  intro w mg fa h KX G hmg
  have T:∃ a,K04.Txt w (L2.KOf KX) mg a:=by
   dsimp only[L2.KOf]
   refine' K04.txt_mk KX G ?z_len ?z_int ?z_min ?z_max ?z_range ?z_isinstance ?z_list ?z_dict ?z_sorted ?z_bool ?z_tuple ?z_ValueError ?A_Way ?A_Web ?a_0 ?l_0 ?cc_0 ?kk_0 ?a_1 ?l_1 ?cc_1 ?kk_1 ?a_2 ?l_2 ?cc_2 ?kk_2 ?a_3 ?l_3 ?cc_3 ?kk_3 ?a_4 ?l_4 ?cc_4 ?kk_4 ?a_5 ?l_5 ?cc_5 ?kk_5 ?a_6 ?l_6 ?cc_6 ?kk_6 ?a_7 ?l_7 ?cc_7 ?kk_7 ?a_8 ?l_8 ?cc_8 ?kk_8 ?a_9 ?l_9 ?cc_9 ?kk_9 ?a_10 ?l_10 ?cc_10 ?kk_10 ?a_11 ?l_11 ?cc_11 ?kk_11 ?a_12 ?l_12 ?cc_12 ?kk_12 ?a_13 ?l_13 ?cc_13 ?kk_13 ?a_14 ?l_14 ?cc_14 ?kk_14 ?a_15 ?l_15 ?cc_15 ?kk_15 ?a_16 ?l_16 ?cc_16 ?kk_16 ?a_17 ?l_17 ?cc_17 ?kk_17 ?a_18 ?l_18 ?cc_18 ?kk_18 ?a_19 ?l_19 ?cc_19 ?kk_19 ?a_20 ?l_20 ?cc_20 ?kk_20 ?a_21 ?l_21 ?cc_21 ?kk_21 ?a_22 ?l_22 ?cc_22 ?kk_22 ?a_23 ?i_23 ?l_23 ?cc_23 ?kk_23 ?a_24 ?i_24 ?l_24 ?cc_24 ?kk_24 ?a_25 ?i_25 ?l_25 ?cc_25 ?kk_25 ?a_26 ?i_26 ?l_26 ?cc_26 ?kk_26 ?a_27 ?i_27 ?l_27 ?cc_27 ?kk_27 ?a_28 ?i_28 ?l_28 ?cc_28 ?kk_28 ?a_29 ?i_29 ?l_29 ?cc_29 ?kk_29 ?a_30 ?i_30 ?l_30 ?cc_30 ?kk_30 ?a_31 ?i_31 ?l_31 ?cc_31 ?kk_31 ?a_32 ?i_32 ?l_32 ?cc_32 ?kk_32 ?pg_Way ?hd_Way ?po_Way ?sa_Way ?mk_Way ?kc_Way ?ha_Way ?hm_Way ?na_Way_own_parents ?na_Way_own_bridges ?pg_Web ?hd_Web ?po_Web ?sa_Web ?mk_Web ?kc_Web ?ha_Web ?hm_Web ?na_Web_own_hands ?na_Web_own_lines ?na_Web_near ?hn ?htk ?k_tint_tint ?k_tint_tbool ?k_tlist_tlist ?k_ttuple_ttuple ?k_ttuple_tlist ?k_tdict_tlist ?k_tdict_ttuple ?k_tdict_tdict ?k_tint_tlist ?k_tint_ttuple ?k_tint_tdict ?k_tNoneType_tlist ?k_tNoneType_ttuple ?k_tNoneType_tdict ?G_MOST_HANDS ?G_LAST_HAND
   (case z_len=>k_is)
   (case z_int=>k_is)
   (case z_min=>k_is)
   (case z_max=>k_is)
   (case z_range=>k_is)
   (case z_isinstance=>k_is)
   (case z_list=>k_is)
   (case z_dict=>k_is)
   (case z_sorted=>k_is)
   (case z_bool=>k_is)
   (case z_tuple=>k_is)
   (case z_ValueError=>k_is)
   (case A_Way=>k_is)
   (case A_Web=>k_is)
   (case a_0=>k_is)
   (case l_0=>k_is)
   (case cc_0=>k_is)
   (case kk_0=>k_is)
   (case a_1=>k_is)
   (case l_1=>k_is)
   (case cc_1=>k_is)
   (case kk_1=>k_is)
   (case a_2=>k_is)
   (case l_2=>k_is)
   (case cc_2=>k_is)
   (case kk_2=>k_is)
   (case a_3=>k_is)
   (case l_3=>k_is)
   (case cc_3=>k_is)
   (case kk_3=>k_is)
   (case a_4=>k_is)
   (case l_4=>k_is)
   (case cc_4=>k_is)
   (case kk_4=>k_is)
   (case a_5=>k_is)
   (case l_5=>k_is)
   (case cc_5=>k_is)
   (case kk_5=>k_is)
   (case a_6=>k_is)
   (case l_6=>k_is)
   (case cc_6=>k_is)
   (case kk_6=>k_is)
   (case a_7=>k_is)
   (case l_7=>k_is)
   (case cc_7=>k_is)
   (case kk_7=>k_is)
   (case a_8=>k_is)
   (case l_8=>k_is)
   (case cc_8=>k_is)
   (case kk_8=>k_is)
   (case a_9=>k_is)
   (case l_9=>k_is)
   (case cc_9=>k_is)
   (case kk_9=>k_is)
   (case a_10=>k_is)
   (case l_10=>k_is)
   (case cc_10=>k_is)
   (case kk_10=>k_is)
   (case a_11=>k_is)
   (case l_11=>k_is)
   (case cc_11=>k_is)
   (case kk_11=>k_is)
   (case a_12=>k_is)
   (case l_12=>k_is)
   (case cc_12=>k_is)
   (case kk_12=>k_is)
   (case a_13=>k_is)
   (case l_13=>k_is)
   (case cc_13=>k_is)
   (case kk_13=>k_is)
   (case a_14=>k_is)
   (case l_14=>k_is)
   (case cc_14=>k_is)
   (case kk_14=>k_is)
   (case a_15=>k_is)
   (case l_15=>k_is)
   (case cc_15=>k_is)
   (case kk_15=>k_is)
   (case a_16=>k_is)
   (case l_16=>k_is)
   (case cc_16=>k_is)
   (case kk_16=>k_is)
   (case a_17=>k_is)
   (case l_17=>k_is)
   (case cc_17=>k_is)
   (case kk_17=>k_is)
   (case a_18=>k_is)
   (case l_18=>k_is)
   (case cc_18=>k_is)
   (case kk_18=>k_is)
   (case a_19=>k_is)
   (case l_19=>k_is)
   (case cc_19=>k_is)
   (case kk_19=>k_is)
   (case a_20=>k_is)
   (case l_20=>k_is)
   (case cc_20=>k_is)
   (case kk_20=>k_is)
   (case a_21=>k_is)
   (case l_21=>k_is)
   (case cc_21=>k_is)
   (case kk_21=>k_is)
   (case a_22=>k_is)
   (case l_22=>k_is)
   (case cc_22=>k_is)
   (case kk_22=>k_is)
   (case a_23=>k_is)
   (case i_23=>k_is)
   (case l_23=>k_is)
   (case cc_23=>k_is)
   (case kk_23=>k_is)
   (case a_24=>k_is)
   (case i_24=>k_is)
   (case l_24=>k_is)
   (case cc_24=>k_is)
   (case kk_24=>k_is)
   (case a_25=>k_is)
   (case i_25=>k_is)
   (case l_25=>k_is)
   (case cc_25=>k_is)
   (case kk_25=>k_is)
   (case a_26=>k_is)
   (case i_26=>k_is)
   (case l_26=>k_is)
   (case cc_26=>k_is)
   (case kk_26=>k_is)
   (case a_27=>k_is)
   (case i_27=>k_is)
   (case l_27=>k_is)
   (case cc_27=>k_is)
   (case kk_27=>k_is)
   (case a_28=>k_is)
   (case i_28=>k_is)
   (case l_28=>k_is)
   (case cc_28=>k_is)
   (case kk_28=>k_is)
   (case a_29=>k_is)
   (case i_29=>k_is)
   (case l_29=>k_is)
   (case cc_29=>k_is)
   (case kk_29=>k_is)
   (case a_30=>k_is)
   (case i_30=>k_is)
   (case l_30=>k_is)
   (case cc_30=>k_is)
   (case kk_30=>k_is)
   (case a_31=>k_is)
   (case i_31=>k_is)
   (case l_31=>k_is)
   (case cc_31=>k_is)
   (case kk_31=>k_is)
   (case a_32=>k_is)
   (case i_32=>k_is)
   (case l_32=>k_is)
   (case cc_32=>k_is)
   (case kk_32=>k_is)
   (case pg_Way=>k_is)
   (case hd_Way=>k_is)
   (case po_Way=>k_is)
   (case sa_Way=>k_is)
   (case mk_Way=>k_is)
   (case kc_Way=>k_is)
   (case ha_Way=>k_is)
   (case hm_Way=>k_is)
   (case na_Way_own_parents=>k_is)
   (case na_Way_own_bridges=>k_is)
   (case pg_Web=>k_is)
   (case hd_Web=>k_is)
   (case po_Web=>k_is)
   (case sa_Web=>k_is)
   (case mk_Web=>k_is)
   (case kc_Web=>k_is)
   (case ha_Web=>k_is)
   (case hm_Web=>k_is)
   (case na_Web_own_hands=>k_is)
   (case na_Web_own_lines=>k_is)
   (case na_Web_near=>k_is)
   (case hn=>k_is)
   (case htk=>k_is)
   (case k_tint_tint=>kit_is)
   (case k_tint_tbool=>kit_is)
   (case k_tlist_tlist=>kit_is)
   (case k_ttuple_ttuple=>kit_is)
   (case k_ttuple_tlist=>kit_is)
   (case k_tdict_tlist=>kit_is)
   (case k_tdict_ttuple=>kit_is)
   (case k_tdict_tdict=>kit_is)
   (case k_tint_tlist=>kit_is)
   (case k_tint_ttuple=>kit_is)
   (case k_tint_tdict=>kit_is)
   (case k_tNoneType_tlist=>kit_is)
   (case k_tNoneType_ttuple=>kit_is)
   (case k_tNoneType_tdict=>kit_is)
   (case G_MOST_HANDS=>k_is)
   (case G_LAST_HAND=>k_is)
  obtain⟨a,T⟩:=T
  have e0:=hmg.symm.trans T.g_qw
  cases e0
  exact⟨_,T.b0_qw,fun base kb nb=>K04.ok_law T⟩
 case S=>exact fun K H a ns hl hO hS=>K04.sp_law_of hl hO hS
 case C=>exact fun _ _ _ _ z=>z