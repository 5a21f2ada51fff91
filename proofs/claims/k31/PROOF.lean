import PyProof.Rows.All
import Wide.All
import OpenK.AllK
import Wide.FinOn
import PySem.Challenge.RW_beatless_k31_roads_told
import Lean
import PyProof.EqAt
import PyProof.EqKinds
import PyProof.TupleCall
import PyProof.ZipIter
import PyProof.WalksMore
import KE.KRevSl
import KE.KIntText
import KE.KRevIter
import PyProof.Draws
import PyProof.EnumFor
import PyProof.EnumStmt
import PyProof.AttrMissHeap
import PyProof.DictUpdate
import PyProof.DictValues
import KE.KDictList
import PyProof.DictItemsLoops
import PyProof.DictWalks
import PyProof.Rows.SetFrom
import PyProof.DictItems
set_option Elab.async false
set_option compiler.extract_closed false
set_option linter.all false
set_option maxRecDepth 100000
abbrev LI:=List Int
abbrev LP:=List (Int×Int)
namespace L2
open PySem PySem.Spec PyProof.Rows
structure Bx (p:Prop):Prop where
 of:p
abbrev Key:=Sum Int Str
def vb:Key→Value→Bool
 |.inl k,v=>Value.isInt k v
 |.inr x,v=>Value.isStrOf x v
def zmJ (w:World):Key→Int
 |.inl k=>hashInt k
 |.inr x=>hashStr w x
theorem zU:∀ {k:Key}{v:Value},vb k v=true→(∃ i t,k=Sum.inl i∧v=Value.int i t)∨(∃ x t,k=Sum.inr x∧v=Value.str x t)
 |.inl i,v,h=>by
  obtain⟨t,e⟩:=Value.isInt_shape (k:=i) (v:=v) h
  exact .inl ⟨i,t,rfl,e⟩
 |.inr x,v,h=>by
  obtain⟨t,e⟩:=Value.isStrOf_shape (x:=x) (v:=v) h
  exact .inr ⟨x,t,rfl,e⟩
theorem Z2 (i:Int) (t:Tok):vb (.inl i) (.int i t)=true:=by simp[vb,Value.isInt]
theorem Z1 (x:Str) (t:Tok):vb (.inr x) (.str x t)=true:=by simp[vb,Value.isStrOf]
theorem zbd (a b:Int):decide ((Sum.inl a:Key)=Sum.inl b)=(a == b):=by
 by_cases e:a=b
 ·subst e;simp
 ·have h:¬ (Sum.inl a:Key)=Sum.inl b:=fun q=>e (Sum.inl.inj q)
  rw[decide_eq_false h]
  exact(beq_eq_false_iff_ne.mpr e).symm
theorem zba (a b:Str):decide ((Sum.inr a:Key)=Sum.inr b)=decide (a=b):=by
 by_cases e:a=b
 ·subst e;simp
 ·have h:¬ (Sum.inr a:Key)=Sum.inr b:=fun q=>e (Sum.inr.inj q)
  rw[decide_eq_false h,decide_eq_false e]
theorem zbc (a:Int) (b:Str):decide ((Sum.inl a:Key)=Sum.inr b)=false:=decide_eq_false (fun q=>nomatch q)
theorem zbb (a:Str) (b:Int):decide ((Sum.inr a:Key)=Sum.inl b)=false:=decide_eq_false (fun q=>nomatch q)
def zB (prog:Program) (w:World):PySem.KeyKind prog w Key where
 is:=vb
 hash:=zmJ w
 inj:=fun v a b ha hb=>by
  rcases zU ha with⟨i,t,rfl,rfl⟩ | ⟨x,t,rfl,rfl⟩
  ·rcases zU hb with⟨j,u,rfl,e⟩ | ⟨y,u,rfl,e⟩
   ·injection e with e1 _;rw[e1]
   ·exact nomatch e
  ·rcases zU hb with⟨j,u,rfl,e⟩ | ⟨y,u,rfl,e⟩
   ·exact nomatch e
   ·injection e with e1 _;rw[e1]
 byValue:=fun k v h=>by
  rcases zU h with⟨i,t,rfl,rfl⟩ | ⟨x,t,rfl,rfl⟩<;>rfl
 pyHash:=fun hv h=>by
  rcases zU hv with⟨i,t,rfl,rfl⟩ | ⟨x,t,rfl,rfl⟩
  ·exact wpAny_pyHash_int h
  ·exact wpAny_pyHash_str h
 eqBool:=fun hu hv h=>by
  rcases zU hu with⟨i,t,rfl,rfl⟩ | ⟨x,t,rfl,rfl⟩
  ·rcases zU hv with⟨j,u,rfl,rfl⟩ | ⟨y,u,rfl,rfl⟩
   ·rw[zbd] at h;exact wpAny_eqBool_int h
   ·rw[zbc] at h;exact SeqAt.EqAt.int_str i t y u _ _ _ _ h
  ·rcases zU hv with⟨j,u,rfl,rfl⟩ | ⟨y,u,rfl,rfl⟩
   ·rw[zbb] at h;exact SeqAt.EqAt.str_int x t j u _ _ _ _ h
   ·rw[zba] at h;exact wpAny_eqBool_str h
 «strs»:=fun k x t v h=>by
  rcases zU h with⟨i,u,rfl,e⟩ | ⟨y,u,rfl,e⟩
  ·exact nomatch e
  ·injection e with e1 _
   subst e1
   cases v<;>rfl
theorem u6 (prog:Program) (w:World) (k:Key) (v:Value):(zB prog w).is k v=vb k v:=rfl
theorem v4 (prog:Program) (w:World) (i:Int) (t:Tok):(zB prog w).is (.inl i) (.int i t)=true:=Z2 i t
theorem v3 (prog:Program) (w:World) (x:Str) (t:Tok):(zB prog w).is (.inr x) (.str x t)=true:=Z1 x t
inductive V where
 |non | bl (b:Bool) | int (i:Int) | str (x:Str) | byt (b:Array UInt8) | flt (b:UInt64) | ref (a:Addr) | ty (n:String)
 deriving DecidableEq
def RelV:V→Value→Prop
 |.non,u=>u=Value.none
 |.bl b,u=>u=Value.bool b
 |.int i,u=>∃ t,u=Value.int i t
 |.str x,u=>∃ t,u=Value.str x t
 |.byt b,u=>∃ t,u=Value.bytes b t
 |.flt b,u=>∃ t,u=Value.float b t
 |.ref a,u=>u=Value.ref a
 |.ty n,u=>u=Value.type n
abbrev Vals:List V→List Value→Prop:=Paired RelV
theorem Vals.length {xs:List V}{us:List Value}(r:Vals xs us):xs.length=us.length:=Paired.length r
theorem Vals.get:∀ {xs:List V}{us:List Value}{i:Nat}{x:V},Vals xs us→xs[i]?=some x→∃ u,us[i]?=some u∧RelV x u
 |_,_,_,_,.nil,e=>by simp at e
 |_,_,0,_,.cons r _,e=>by simp at e;subst e;exact⟨_,rfl,r⟩
 |_,_,i+1,x,.cons _ t,e=>by
  obtain⟨u,h1,h2⟩:=Vals.get (i:=i) (x:=x) t (by simpa using e)
  exact⟨u,by simpa using h1,h2⟩
theorem Vals.set {x:V}{u:Value}(r:RelV x u):∀ {xs:List V}{us:List Value}(i:Nat),Vals xs us→Vals (xs.set i x) (us.set i u)
 |_,_,_,.nil=>.nil
 |_,_,0,.cons _ t=>.cons r t
 |_,_,i+1,.cons q t=>.cons q (Vals.set r i t)
theorem Vals.append:∀ {xs ys:List V}{us ws:List Value},Vals xs us→Vals ys ws→Vals (xs++ys) (us++ws)
 |_,_,_,_,.nil,s=>s
 |_,_,_,_,.cons r t,s=>.cons r (Vals.append t s)
theorem Vals.take:∀ {xs:List V}{us:List Value}(n:Nat),Vals xs us→Vals (xs.take n) (us.take n)
 |_,_,0,_=>.nil
 |_,_,_+1,.nil=>.nil
 |_,_,n+1,.cons r t=>.cons r (Vals.take n t)
theorem Vals.drop:∀ {xs:List V}{us:List Value}(n:Nat),Vals xs us→Vals (xs.drop n) (us.drop n)
 |_,_,0,r=>r
 |_,_,_+1,.nil=>.nil
 |_,_,n+1,.cons _ t=>Vals.drop n t
def RelO:Option V→Option Value→Prop
 |some v,some u=>RelV v u
 |none,none=>True
 |_,_=>False
def KV {κ:Type}:List (κ×V)→List (κ×Value)→Prop:=Paired fun(p:κ×V) (q:κ×Value)=>p.1=q.1∧RelV p.2 q.2
def kV:Key→V
 |.inl i=>.int i
 |.inr x=>.str x
inductive HO where
 /-- a list -/
 |lst (xs:List V)
 /-- a tuple (never changes) -/
 |tup (xs:List V)
 /-- a dict whose keys are ints and texts;one whose keys are tuples of ints and texts (the empty one is both) -/
 |dK (kvs:List (Key×V)) | dT (kvs:List (List Key×V))
 /-- a set of ints: its members,its size -/
 |set (S:Int→Bool) (n:Nat)
 /-- an instance of the class at C,its dict at dx,its attributes -/
 |ins (C dx:Addr) (fs:List (Str×V))
 /-- the dict of the instance at x -/
 |own (x:Addr)
 /-- the dict of an exception -/
 |xd (fs:List (Str×V))
 /-- a bound method,f of x -/
 |met (f x:Addr)
 /-- a range object lo,lo+1,.. below hi -/
 |rng (lo hi:Int)
 /-- a thing that is known to the object (the script;a dict while a loop walks it): read,never written while it is so -/
 |frz (o:Obj) (u:HO)
 /-- a code object's table -/
 |tbl (ps:Array Value)
 /-- any other thing,by what is true of its one object (a def of one's own: SetO a S n:=HO.ext fun h=>..) -/
 |ext (φ:Heap→Prop)
abbrev Hp:=Addr→Option HO
def upd (H:Hp) (a:Addr) (o:HO):Hp:=fun b=>if b=a then some o else H b
theorem upd_same {H:Hp}{a:Addr}{o:HO}:upd H a o a=some o:=by unfold upd;rw[if_pos rfl]
theorem upd_ne {H:Hp}{a b:Addr}{o:HO}(h:b≠a):upd H a o b=H b:=by unfold upd;rw[if_neg h]
theorem xJ {H:Hp}{a:Addr}{o u:HO}:upd (upd H a o) a u=upd H a u:=by
 funext b;unfold upd;split<;>rfl
theorem Vh {H:Hp}{a b:Addr}{o u:HO}(h:H a=some o) (h':H b=some u) (d:o≠u):a≠b:=by
 intro e;subst e;rw[h] at h';exact d (Option.some.inj h')
theorem ne_of_none {H:Hp}{a b:Addr}{o:HO}(h:H a=some o) (h':H b=none):a≠b:=by
 intro e;subst e;rw[h] at h';cases h'
section
variable (P:Program) (w:World)
def ObjOk (H:Hp) (h:Heap) (a:Addr):HO→Prop
 |.lst xs=>xs.length≤sizeLine∧∃ (its:List Value) (n:Nat),Vals xs its∧h.get? a=some { cls:=.type "list",data:=.seq its.toArray n }
 |.tup xs=>xs.length≤sizeLine∧∃ its:List Value,Vals xs its∧IsTup h a its.toArray
 |.dK kvs=>kvs.length≤sizeLine∧(a == sysModules)=false∧∃ vs,KV kvs vs∧h.DictOf (zB P w) a vs
 |.dT kvs=>kvs.length≤sizeLine∧(a == sysModules)=false∧∃ xs:List (List Key×Addr×Value),
   Paired (fun(p:List Key×V) (q:List Key×Addr×Value)=>p.1=q.1∧H q.2.1=some (.tup (p.1.map kV))∧RelV p.2 q.2.2) kvs xs ∧
   ∃ o es ep,h.get? a=some o∧o.ExactDict∧o.data=.dict es ep∧es.toList=xs.map (entryOfKey (tupleKind (zB P w)))∧(xs.map (·.1)).Nodup
 |.set S n=>h.SetOf (intKind P w) a S n
 |.ins C dx fs=>H dx=some (.own a)∧fs.length≤1000∧dx≠a∧h.get? a=some (PySem.W.instObj C dx) ∧
   ∃ mA,h.Ns1 dx mA∧(∀ f,RelO (fs.lookup f) (mA f))∧PySem.Within mA (fs.map (·.1))
 |.own _=>∃ o,h.get? a=some o
 |.xd fs=>∃ mA,h.Ns1 a mA∧∀ f,RelO (fs.lookup f) (mA f)
 |.rng lo hi=>∃ t u v,h.get? a=some { cls:=.type "range",data:=.fields #[.int lo t,.int hi u,.int 1 v] }
 |.frz o u=>h.get? a=some o∧ObjOk H h a u
 |.tbl ps=>h.get? a=some { cls:=.none,data:=.fields ps }
 |.met f x=>h.get? a=some (PySem.W.methodObj (.ref f) (.ref x))
 |.ext φ=>φ h∧(∃ o,h.get? a=some o)∧∀ h1 h2:Heap,φ h1→(∀ o,h1.get? a=some o→h2.get? a=some o)→φ h2
def HOk (H:Hp) (h:Heap):Prop:=∀ a o,H a=some o→ObjOk P w H h a o
end
section
variable {P:Program}{w:World}{H H':Hp}{h h':Heap}{a:Addr}{o:HO}
theorem ObjOk.lt (x:ObjOk P w H h a o):a<h.objs.size:=by
 cases o with
 |lst xs=>obtain⟨_,_,_,_,e⟩:=x;exact Heap.lt_size e
 |tup xs=>obtain⟨_,_,_,p⟩:=x;exact p.lt
 |dK kvs=>obtain⟨_,_,_,_,o,_,_,e,_⟩:=x;exact Heap.lt_size e
 |dT kvs=>obtain⟨_,_,_,_,o,_,_,e,_⟩:=x;exact Heap.lt_size e
 |set S n=>obtain⟨o,_,_,_,e,_⟩:=x;exact Heap.lt_size e
 |ins C dx fs=>obtain⟨_,_,_,e,_⟩:=x;exact Heap.lt_size e
 |own y=>obtain⟨_,e⟩:=x;exact Heap.lt_size e
 |xd fs=>obtain⟨_,⟨_,_,_,e,_⟩,_⟩:=x;exact Heap.lt_size e
 |rng lo hi=>obtain⟨_,_,_,e⟩:=x;exact Heap.lt_size e
 |frz ob u=>obtain⟨e,_⟩:=x;exact Heap.lt_size e
 |tbl ps=>exact Heap.lt_size (show h.get? a=some _ from x)
 |met f y=>exact Heap.lt_size (show h.get? a=some _ from x)
 |ext φ=>obtain⟨_,⟨_,e⟩,_⟩:=x;exact Heap.lt_size e
theorem Paired.mapP {α β:Type}{F G:α→β→Prop}:∀ {l₁:List α}{l₂:List β},Paired F l₁ l₂→(∀ a b,F a b→G a b)→Paired G l₁ l₂
 |_,_,.nil,_=>.nil
 |_,_,.cons r t,f=>.cons (f _ _ r) (Paired.mapP t f)
theorem ObjOk.stay (x:ObjOk P w H h a o) (k:∀ b u,(b=a∨H b=some (.own a))→h.get? b=some u→h'.get? b=some u)
  (ho:∀ b,H b=some (.own a)→H' b=some (.own a)) (ht:∀ b xs,H b=some (.tup xs)→H' b=some (.tup xs)):ObjOk P w H' h' a o:=by
 induction o with
 |lst xs=>obtain⟨z,its,n,r,e⟩:=x;exact⟨z,its,n,r,k _ _ (.inl rfl) e⟩
 |tup xs=>obtain⟨z,its,r,ob,e,c⟩:=x;exact⟨z,its,r,ob,k _ _ (.inl rfl) e,c⟩
 |dK kvs=>obtain⟨z,y,vs,r,ob,es,ep,e,c⟩:=x;exact⟨z,y,vs,r,ob,es,ep,k _ _ (.inl rfl) e,c⟩
 |dT kvs =>
  obtain⟨z,y,xs,r,ob,es,ep,e,c⟩:=x
  exact⟨z,y,xs,Paired.mapP r fun p q z=>⟨z.1,ht _ _ z.2.1,z.2.2⟩,ob,es,ep,k _ _ (.inl rfl) e,c⟩
 |set S n=>obtain⟨ob,es,ep,t,e,c⟩:=x;exact⟨ob,es,ep,t,k _ _ (.inl rfl) e,c⟩
 |ins C dx fs =>
  obtain⟨d,z,ne,e,mA,⟨od,es,ep,e2,c⟩,r⟩:=x
  exact⟨ho _ d,z,ne,k _ _ (.inl rfl) e,mA,⟨od,es,ep,k _ _ (.inr d) e2,c⟩,r⟩
 |own y=>obtain⟨ob,e⟩:=x;exact⟨ob,k _ _ (.inl rfl) e⟩
 |xd fs=>obtain⟨mA,⟨od,es,ep,e,c⟩,r⟩:=x;exact⟨mA,⟨od,es,ep,k _ _ (.inl rfl) e,c⟩,r⟩
 |rng lo hi=>obtain⟨t,u,v,e⟩:=x;exact⟨t,u,v,k _ _ (.inl rfl) e⟩
 |frz ob u ih=>obtain⟨e,q⟩:=x;exact⟨k _ _ (.inl rfl) e,ih q⟩
 |tbl ps =>
  have e:h.get? a=some { cls:=.none,data:=.fields ps }:=x
  show h'.get? a=some { cls:=.none,data:=.fields ps }
  exact k a _ (.inl rfl) e
 |met f y =>
  have e:h.get? a=some (PySem.W.methodObj (.ref f) (.ref y)):=x
  show h'.get? a=some (PySem.W.methodObj (.ref f) (.ref y))
  exact k a _ (.inl rfl) e
 |ext φ=>obtain⟨p,⟨o,e⟩,st⟩:=x;exact⟨st _ _ p fun o q=>k _ _ (.inl rfl) q,⟨o,k _ _ (.inl rfl) e⟩,st⟩
theorem HOk.lt (x:HOk P w H h) (e:H a=some o):a<h.objs.size:=(x a o e).lt
theorem HOk.fresh (x:HOk P w H h) (e:h.objs.size≤a):H a=none:=by
 cases q:H a with
 |none=>rfl
 |some u=>exact absurd (Nat.lt_of_lt_of_le (x.lt q) e) (Nat.lt_irrefl _)
theorem HOk.kept (x:HOk P w H h) (k:∀ b u,h.get? b=some u→h'.get? b=some u):HOk P w H h':=fun a o e =>
 (x a o e).stay (fun b u _ q=>k b u q) (fun _ q=>q) fun _ _ q=>q
theorem HOk.laid (x:HOk P w H h) (k:∀ b u,h.get? b=some u→h'.get? b=some u) (hp:h.objs.size≤a) (new:ObjOk P w (upd H a o) h' a o):HOk P w (upd H a o) h':=fun b u e=>by
 have hn:=x.fresh hp
 by_cases hb:b=a
 ·subst hb;rw[upd_same] at e;cases e;exact new
 ·rw[upd_ne hb] at e
  exact(x b u e).stay (fun c v _ q=>k c v q) (fun c q=>by rw[upd_ne (ne_of_none q hn)];exact q) fun c xs q=>by rw[upd_ne (ne_of_none q hn)];exact q
end
def Rd (H:Hp) (a:Addr) (u:HO):Prop:=H a=some u∨∃ o,H a=some (.frz o u)
theorem Rd.ok {P:Program}{w:World}{H:Hp}{h:Heap}{a:Addr}{u:HO}(r:Rd H a u) (x:HOk P w H h):ObjOk P w H h a u:=by
 rcases r with r | ⟨o,r⟩
 ·exact x a u r
 ·obtain⟨_,q⟩:=x a _ r
  exact q
def Mut:Option HO→Prop
 |some (.lst _)=>True
 |some (.dK _)=>True
 |some (.dT _)=>True
 |some (.set _ _)=>True
 |some (.ins _ _ _)=>True
 |some (.ext _)=>True
 |_=>False
section
variable {P:Program}{w:World}{H:Hp}{h h':Heap}{x e:Addr}{o':HO}
theorem HOk.write (ok:HOk P w H h) (mu:Mut (H x)) (he:e=x∨H e=some (.own x)) (k:∀ b u,b≠e→h.get? b=some u→h'.get? b=some u) (heo:∃ u,h'.get? e=some u)
  (new:ObjOk P w (upd H x o') h' x o'):HOk P w (upd H x o') h':=fun b u q=>by
 have nown:∀ c y,H c=some (.own y)→c≠x:=fun c y r z=>by subst z;rw[r] at mu;exact mu
 have ntup:∀ c xs,H c=some (.tup xs)→c≠x:=fun c xs r z=>by subst z;rw[r] at mu;exact mu
 by_cases hb:b=x
 ·subst hb;rw[upd_same] at q;cases q;exact new
 ·rw[upd_ne hb] at q
  by_cases hbe:b=e
  ·have q':H b=some (.own x):=by
    rcases he with z | z
    ·exact absurd (hbe.trans z) hb
    ·rw[hbe];exact z
   rw[q] at q';cases q'
   obtain⟨v,hv⟩:=heo
   exact⟨v,by rw[hbe];exact hv⟩
  ·refine(ok b u q).stay (fun c v hc r=>k c v ?_ r) (fun c r=>by rw[upd_ne (nown c b r)];exact r) fun c xs r=>by rw[upd_ne (ntup c xs r)];exact r
   rcases hc with rfl | hc
   ·exact hbe
   ·rintro rfl
    rcases he with z | z
    ·exact nown c b hc z
    ·rw[hc] at z;cases z;exact hb rfl
end
structure Un (fs ex:List Addr) (H H':Hp) (h h':Heap):Prop where
 keep:∀ b o,h.get? b=some o→H b=none→b∉fs→b∉ex→h'.get? b=some o
 slot:∀ b o,h.get? b=some o→H b=none→b∈fs→b∉ex→∃ sl,h'.get? b=some { o with slots:=sl }
 free:∀ b o,h.get? b=some o→H b=none→b∉ex→H' b=none
 there:∀ b o,h.get? b=some o→b∉ex→∃ o',h'.get? b=some o'
 tups:∀ b xs,H b=some (.tup xs)→H' b=some (.tup xs)
 frzs:∀ b o u,H b=some (.frz o u)→H' b=some (.frz o u)
 tbls:∀ b ps,H b=some (.tbl ps)→∃ more,H' b=some (.tbl (ps++more))
section
variable {fs fs' ex ex':List Addr}{H H1 H2:Hp}{h h1 h2 h':Heap}{a x e:Addr}{o:HO}
theorem Un.any (u:Un fs ex H H1 h h1){b:Addr}{ob:Obj}(q:h.get? b=some ob) (n:H b=none) (hx:b∉ex):∃ sl,h1.get? b=some { ob with slots:=sl }:=by
 by_cases hb:b∈fs
 ·exact u.slot b ob q n hb hx
 ·exact⟨ob.slots,u.keep b ob q n hb hx⟩
theorem Un.kept (k:∀ b u,h.get? b=some u→h'.get? b=some u):Un fs ex H H h h' :=
 ⟨fun b ob q _ _ _=>k b ob q,fun b ob q _ _ _=>⟨ob.slots,k b ob q⟩,fun _ _ _ n _=>n,fun b ob q _=>⟨ob,k b ob q⟩,fun _ _ q=>q,fun _ _ _ q=>q,fun _ ps q=>⟨#[],by rw[q];simp⟩⟩
theorem Un.refl:Un fs ex H H h h:=Un.kept fun _ _ q=>q
theorem Un.laid (k:∀ b u,h.get? b=some u→h'.get? b=some u) (hp:h.objs.size≤a) (hn:H a=none):Un fs ex H (upd H a o) h h' where
 keep:=fun b u q _ _ _=>k b u q
 slot:=fun b u q _ _ _=>⟨u.slots,k b u q⟩
 free:=fun b u q n _=>by rw[upd_ne (Nat.ne_of_lt (Nat.lt_of_lt_of_le (Heap.lt_size q) hp))];exact n
 there:=fun b u q _=>⟨u,k b u q⟩
 tups:=fun b xs q=>by rw[upd_ne (ne_of_none q hn)];exact q
 frzs:=fun b u xs q=>by rw[upd_ne (ne_of_none q hn)];exact q
 tbls:=fun b ps q=>⟨#[],by rw[upd_ne (ne_of_none q hn),q];simp⟩
theorem Un.write (mu:Mut (H x)) (he:e=x∨H e=some (.own x)) (k:∀ b u,b≠e→h.get? b=some u→h'.get? b=some u) (heo:∃ u,h'.get? e=some u):Un fs ex H (upd H x o) h h':=by
 have hx:∀ b,H b=none→b≠x:=fun b n z=>by subst z;rw[n] at mu;exact mu
 have hb:∀ b,H b=none→b≠e:=fun b n z=>by
  subst z
  rcases he with r | r
  ·exact hx b n r
  ·rw[n] at r;cases r
 have hm:∀ b u,H b=some u→¬ Mut (some u)→b≠x:=fun b u q nm z=>by subst z;rw[q] at mu;exact nm mu
 refine⟨fun b u q n _ _=>k b u (hb b n) q,fun b u q n _ _=>⟨u.slots,k b u (hb b n) q⟩,fun b u q n _=>by rw[upd_ne (hx b n)];exact n,fun b u q _=>?_,
  fun b xs q=>by rw[upd_ne (hm b _ q fun z=>z)];exact q,fun b u xs q=>by rw[upd_ne (hm b _ q fun z=>z)];exact q,fun b ps q=>⟨#[],by rw[upd_ne (hm b _ q fun z=>z),q];simp⟩⟩
 by_cases hbe:b=e
 ·subst hbe;exact heo
 ·exact⟨u,k b u hbe q⟩
end
def trk (h:Heap) (H:Hp):List Addr:=(List.range h.objs.size).filter fun a=>(H a).isSome
def Xd (h:Heap) (H:Hp):Heap:=PySem.W.hideAll h (trk h H)
theorem Z8 (h:Heap) (H:Hp):(Xd h H).objs.size=h.objs.size:=PySem.W.hideAll_size _ _
theorem Xc {h:Heap}{H:Hp}{b:Addr}{o:Obj}(e:h.get? b=some o) (n:H b=none):(Xd h H).get? b=some o :=
 PySem.W.hideAll_get _ e fun hm=>by
  have q:(H b).isSome=true:=(List.mem_filter.mp hm).2
  rw[n] at q;simp at q
theorem Ve {h:Heap}{H:Hp}{b:Addr}{o:Obj}(e:(Xd h H).get? b=some o):h.get? b=some o∧H b=none:=by
 have e':h.get? b=some o:=PySem.W.of_hideAll (trk h H) e
 refine⟨e',?_⟩
 cases q:H b with
 |none=>rfl
 |some x =>
  have hm:b∈trk h H:=List.mem_filter.mpr ⟨List.mem_range.mpr (Heap.lt_size e'),by simp[q]⟩
  have z:(Xd h H).get? b=none:=PySem.W.hideAll_none (trk h H) hm
  rw[z] at e;cases e
structure Mod (K:PySem.W.Frag) (mg:Str→Option Value) (base:Heap):Prop where
 kin:K.In base
 glob:base.Ns mainGlobals mg
 blt:∃ mb,base.Ns builtinsNs mb∧∀ x:Str,x ≠ "__name__" → mb x=bootBuiltins x
 nolimit:base.NoLimit
structure Cx where
 prog:Program
 w:World
 K:PySem.W.Frag
 mg:Str→Option Value
 base:Heap
 A:Around
 N:List Str
 s₀:Shared
 H₀:Hp
 env:Env
 outer:List Env
 stack:List Env
 ex:List Addr
 fn:Str→Bool
 calm:Bool
 pn:List (Addr×Obj)
 xe:Value→Shared→Prop
def frs (l:List Env):List Addr:=l.filterMap (·.frame)
abbrev Cx.fs (X:Cx):List Addr:=frs X.outer
def Vis (sc:Scope) (x:Str):Prop:=sc.names.lookup x=some .local∨sc.names.lookup x=some .cell∨sc.names.lookup x=some .free
def Loc (sc:Scope) (x:Str):Prop:=sc.names.lookup x=some .local∨sc.names.lookup x=some .cell
def zmV (env:Env) (h:Heap) (m:Str→Option Value) (x:Str) (u:Value):Prop :=
 (env.kindOf x=some .local∧m x=some u)∨((env.kindOf x=some .cell∨env.kindOf x=some .free)∧∃ c,env.cells.lookup x=some c∧h.IsCell c (some u))
structure Cx.Ok (X:Cx):Prop where
 mod:Mod X.K X.mg X.base
 kind:X.env.scope.kind=.function
 glob:X.env.globals=mainGlobals
 blt:X.env.builtins=builtinsNs
 above:X.s₀.heap.objs.size≤X.env.locals
 inj:∀ x y c,X.env.cells.lookup x=some c→X.env.cells.lookup y=some c→x=y
 has:∀ x,(X.env.kindOf x=some .cell∨X.env.kindOf x=some .free)→∃ c,X.env.cells.lookup x=some c
 cab:∀ x c,X.fn x=true→X.env.cells.lookup x=some c→X.s₀.heap.objs.size≤c
 hd:X.calm=true→X.A.handled=none
 frames:X.A.frames=some X.stack
 stk:X.stack=X.outer∨(X.stack=X.env::X.outer∧X.env.frame=some X.env.locals)
 exf:∀ b∈X.ex,b≠X.env.locals∧∀ x c,X.env.cells.lookup x=some c→c≠b
 bs:∀ b o,X.base.get? b=some o→X.s₀.heap.get? b=some o∧X.H₀ b=none
 bsz:X.base.objs.size≤X.s₀.heap.objs.size
 noex:∀ b o,X.base.get? b=some o→b∉X.ex
 exfs:∀ b∈X.ex,b∉X.fs
 funs:X.s₀.heap.FunFrames X.base X.outer
 frf:∀ b∈X.fs,X.H₀ b=none
structure Inv (X:Cx) (pins:List (Addr×Obj)) (σ:List (Option V)) (H:Hp) (s:Shared):Prop where
 ok:X.Ok
 os:s.os=X.s₀.os
 bare:AllBare s.gens
 base:Un X.fs X.ex X.H₀ H X.s₀.heap s.heap
 loc:∃ m,s.heap.Ns X.env.locals m∧∀ (i:Nat) (x:Str) (v:V),X.N[i]?=some x→σ[i]?=some (some v)→Vis X.env.scope x→∃ u,RelV v u∧zmV X.env s.heap m x u
 cell:∀ x c,X.env.cells.lookup x=some c→∃ v,s.heap.IsCell c v
 free:H X.env.locals=none
 freeC:∀ x c,X.env.cells.lookup x=some c→H c=none
 pin:∀ p∈X.pn++pins,s.heap.get? p.1=some p.2∧H p.1=none∧p.1≠X.env.locals∧p.1∉X.fs∧∀ v,p.2.data≠.cell v
 hok:HOk X.prog X.w H s.heap
 len:σ.length=X.N.length
section
variable {X:Cx}{pins:List (Addr×Obj)}{σ:List (Option V)}{H H':Hp}{s:Shared}{h':Heap}
theorem Cx.Ok.nofr (ok:X.Ok){b:Addr}{o:Obj}(e:X.base.get? b=some o):b∉X.fs:=fun hb=>by
 have:=(ok.funs.mem hb).1
 rw[e] at this;cases this
theorem Inv.bs (I:Inv X pins σ H s):∀ b o,X.base.get? b=some o→s.heap.get? b=some o∧H b=none:=fun b o e =>
 ⟨I.base.keep b o (I.ok.bs b o e).1 (I.ok.bs b o e).2 (I.ok.nofr e) (I.ok.noex b o e),I.base.free b o (I.ok.bs b o e).1 (I.ok.bs b o e).2 (I.ok.noex b o e)⟩
theorem Inv.bk (I:Inv X pins σ H s):∀ b o,X.base.get? b=some o→s.heap.get? b=some o:=fun b o e=>(I.bs b o e).1
theorem Inv.mod (I:Inv X pins σ H s):Mod X.K X.mg X.base:=I.ok.mod
theorem Inv.kIn (I:Inv X pins σ H s):X.K.In s.heap:=I.ok.mod.kin.keeps I.bk
theorem Inv.lt (I:Inv X pins σ H s):X.env.locals<s.heap.objs.size:=let ⟨_,hn,_⟩:=I.loc;hn.lt
theorem Inv.sz (I:Inv X pins σ H s):X.s₀.heap.objs.size≤s.heap.objs.size:=Nat.le_trans I.ok.above (Nat.le_of_lt I.lt)
theorem Inv.nofs (I:Inv X pins σ H s){a:Addr}(h:s.heap.objs.size≤a):a∉X.fs:=fun hb=>by
 obtain⟨_,o,ho,_⟩:=I.ok.funs.mem hb
 exact absurd (Nat.lt_of_lt_of_le (Heap.lt_size ho) (Nat.le_trans I.sz h)) (Nat.lt_irrefl _)
theorem Inv.cne (I:Inv X pins σ H s):∀ x c,X.env.cells.lookup x=some c→c≠X.env.locals:=fun x c e z=>by
 obtain⟨v,o,ho,hd⟩:=I.cell x c e
 obtain⟨m,⟨o',es,ep,ho',hd',_⟩,_⟩:=I.loc
 rw[z,ho'] at ho;cases ho;rw[hd'] at hd;cases hd
theorem Inv.funs (I:Inv X pins σ H s):s.heap.FunFrames X.base X.outer:=by
 have all:∀ (l:List Env),(∀ b∈frs l,b∈X.fs)→X.s₀.heap.FunFrames X.base l→s.heap.FunFrames X.base l:=by
  intro l
  induction l with
  |nil=>intro _ _;trivial
  |cons env r ih =>
   intro hs hl
   obtain⟨hk,⟨L,o,hf,hn,ho,hd⟩,hr⟩:=hl
   have hL:L∈X.fs:=hs L (by unfold frs;rw[List.filterMap_cons,hf];exact List.mem_cons_self)
   obtain⟨sl,e⟩:=I.base.slot L o ho (I.ok.frf L hL) hL fun z=>I.ok.exfs L z hL
   exact⟨hk,⟨L,_,hf,hn,e,hd⟩,ih (fun b hb=>hs b (by unfold frs;rw[List.filterMap_cons,hf];exact List.mem_cons_of_mem _ hb)) hr⟩
 exact all X.outer (fun _ hb=>hb) I.ok.funs
theorem Inv.stack (I:Inv X pins σ H s):s.heap.FunFrames X.base X.stack:=by
 rcases I.ok.stk with e | ⟨e,hf⟩
 ·rw[e];exact I.funs
 ·rw[e]
  obtain⟨m,hn,_⟩:=I.loc
  refine .cons (by rw[I.ok.kind];decide) hf hn ?_ I.funs
  exact Heap.get?_none_of_le (Nat.le_trans I.ok.bsz I.ok.above)
theorem Inv.stkSub (I:Inv X pins σ H s):∀ b∈frs X.stack,b∈X.env.locals::X.fs:=fun b hb=>by
 rcases I.ok.stk with e | ⟨e,hf⟩
 ·rw[e] at hb;exact List.mem_cons_of_mem _ hb
 ·rw[e] at hb
  unfold frs at hb
  rw[List.filterMap_cons,hf] at hb
  exact hb
theorem Inv.stkFree (I:Inv X pins σ H s):∀ b∈frs X.stack,H b=none:=fun b hb=>by
 rcases List.mem_cons.mp (I.stkSub b hb) with e | hb
 ·rw[e];exact I.free
 ·obtain⟨_,o,ho,_⟩:=I.ok.funs.mem hb
  exact I.base.free b o ho (I.ok.frf b hb) fun z=>I.ok.exfs b z hb
theorem Inv.step {g':Array GenState}{t':Nat}{d':Drawn}{ch:List Addr}(I:Inv X pins σ H s)
  (hch:∀ b∈ch,(b∈X.ex∨X.s₀.heap.objs.size≤b)∧b≠X.env.locals∧(∀ x c,X.env.cells.lookup x=some c→c≠b)∧∀ p∈X.pn++pins,p.1≠b)
  (keep:∀ b o,b≠X.env.locals→b∉X.fs→b∉ch→s.heap.get? b=some o→H b=none→h'.get? b=some o)
  (slot:∀ b o,b≠X.env.locals→b∈X.fs→b∉ch→s.heap.get? b=some o→H b=none→∃ sl,h'.get? b=some { o with slots:=sl }) (free:∀ b o,b∉ch→s.heap.get? b=some o→H b=none→H' b=none)
  (there:∀ b o,b∉ch→s.heap.get? b=some o→∃ o',h'.get? b=some o')
  (tups:∀ b xs,H b=some (.tup xs)→H' b=some (.tup xs)) (frzs:∀ b o u,H b=some (.frz o u)→H' b=some (.frz o u)) (tbls:∀ b ps,H b=some (.tbl ps)→∃ more,H' b=some (.tbl (ps++more)))
  (ns:∀ m,s.heap.Ns X.env.locals m→h'.Ns X.env.locals m) (hok:HOk X.prog X.w H' h') (hg:AllBare g') :
  Inv X pins σ H' { s with heap:=h',gens:=g',drawn:=d',toks:=t' }:=by
 have neL:∀ b o,X.s₀.heap.get? b=some o→b≠X.env.locals:=fun b o e=>Nat.ne_of_lt (Nat.lt_of_lt_of_le (Heap.lt_size e) I.ok.above)
 have neC:∀ b o,X.s₀.heap.get? b=some o→b∉X.ex→b∉ch:=fun b o e hx hb=>by
  rcases(hch b hb).1 with z | z
  ·exact hx z
  ·exact absurd (Nat.lt_of_lt_of_le (Heap.lt_size e) z) (Nat.lt_irrefl _)
 have cellK:∀ x c,X.env.cells.lookup x=some c→∀ v,s.heap.IsCell c v→h'.IsCell c v:=fun x c e v ⟨o,ho,hd⟩=>by
  have nch:c∉ch:=fun z=>(hch c z).2.2.1 x c e rfl
  by_cases hc:c∈X.fs
  ·obtain⟨sl,q⟩:=slot c o (I.cne x c e) hc nch ho (I.freeC x c e)
   exact⟨_,q,hd⟩
  ·exact⟨o,keep c o (I.cne x c e) hc nch ho (I.freeC x c e),hd⟩
 refine⟨I.ok,I.os,hg,⟨fun b o e n hb hx=>?_,fun b o e n hb hx=>?_,fun b o e n hx=>?_,fun b o e hx=>?_,fun b xs e=>tups b xs (I.base.tups b xs e),fun b o xs e=>frzs b o xs (I.base.frzs b o xs e),fun b ps e=>?_⟩,?_,fun x c e=>?_,?_,fun x c e=>?_,fun p hp=>?_,hok,I.len⟩
 ·exact keep b o (neL b o e) hb (neC b o e hx) (I.base.keep b o e n hb hx) (I.base.free b o e n hx)
 ·obtain⟨sl,e1⟩:=I.base.slot b o e n hb hx
  obtain⟨sl',e2⟩:=slot b _ (neL b o e) hb (neC b o e hx) e1 (I.base.free b o e n hx)
  exact⟨sl',e2⟩
 ·obtain⟨o',e1⟩:=I.base.there b o e hx
  exact free b o' (neC b o e hx) e1 (I.base.free b o e n hx)
 ·obtain⟨o',e1⟩:=I.base.there b o e hx
  exact there b o' (neC b o e hx) e1
 ·obtain⟨m1,e1⟩:=I.base.tbls b ps e
  obtain⟨m2,e2⟩:=tbls b _ e1
  exact⟨m1++m2,by rw[e2,Array.append_assoc]⟩
 ·obtain⟨m,hn,hl⟩:=I.loc
  refine⟨m,ns m hn,fun i x v e1 e2 e3=>?_⟩
  obtain⟨u,r,l⟩:=hl i x v e1 e2 e3
  refine⟨u,r,?_⟩
  rcases l with l | ⟨k,c,e,z⟩
  ·exact .inl l
  ·exact .inr ⟨k,c,e,cellK x c e _ z⟩
 ·obtain⟨v,z⟩:=I.cell x c e
  exact⟨v,cellK x c e v z⟩
 ·obtain⟨m,⟨o,_,_,ho,_⟩,_⟩:=I.loc
  exact free _ o (fun z=>(hch _ z).2.1 rfl) ho I.free
 ·obtain⟨v,o,ho,hd⟩:=I.cell x c e
  exact free c o (fun z=>(hch c z).2.2.1 x c e rfl) ho (I.freeC x c e)
 ·obtain⟨e,n,ne,nf,d⟩:=I.pin p hp
  have nch:p.1∉ch:=fun z=>(hch p.1 z).2.2.2 p hp rfl
  exact⟨keep p.1 p.2 ne nf nch e n,free p.1 p.2 nch e n,ne,nf,d⟩
theorem Inv.un {t':Nat}(I:Inv X pins σ H s) (u:Un X.fs [] H H' s.heap h') (hok:HOk X.prog X.w H' h'):Inv X pins σ H' { s with heap:=h',toks:=t' }:=by
 obtain⟨m,⟨o,es,ep,ho,r⟩,_⟩:=id I.loc
 obtain⟨sl,hL⟩:=u.any ho I.free (by simp)
 exact I.step (g':=s.gens) (d':=s.drawn) (ch:=[]) (fun _ z=>nomatch z) (fun b o _ hb _ e n=>u.keep b o e n hb (by simp)) (fun b o _ hb _ e n=>u.slot b o e n hb (by simp)) (fun b o _ e n=>u.free b o e n (by simp)) (fun b o _ e=>u.there b o e (by simp)) u.tups u.frzs u.tbls (fun m' hm=>by
  obtain⟨o',es',ep',ho',r'⟩:=hm
  rw[ho] at ho';cases ho'
  exact⟨_,es',ep',hL,r'⟩) hok I.bare
theorem Inv.call {g':Array GenState}{t':Nat}{d':Drawn}{ch:List Addr}(I:Inv X pins σ H s) (u:Un (frs X.stack) ch H H' s.heap h') (hok:HOk X.prog X.w H' h') (hg:AllBare g')
  (hch:∀ b∈ch,(b∈X.ex∨X.s₀.heap.objs.size≤b)∧b≠X.env.locals∧(∀ x c,X.env.cells.lookup x=some c→c≠b)∧∀ p∈X.pn++pins,p.1≠b) :
  Inv X pins σ H' { s with heap:=h',gens:=g',drawn:=d',toks:=t' }:=by
 obtain⟨m,⟨o,es,ep,ho,r⟩,_⟩:=id I.loc
 obtain⟨sl,hL⟩:=u.any ho I.free fun z=>(hch _ z).2.1 rfl
 exact I.step (ch:=ch) hch (fun b o hL hb hc e n=>u.keep b o e n (fun z=>(List.mem_cons.mp (I.stkSub b z)).elim hL hb) hc) (fun b o _ _ hc e n=>u.any e n hc) (fun b o hc e n=>u.free b o e n hc) (fun b o hc e=>u.there b o e hc) u.tups u.frzs u.tbls (fun m' hm=>by
  obtain⟨o',es',ep',ho',r'⟩:=hm
  rw[ho] at ho';cases ho'
  exact⟨_,es',ep',hL,r'⟩) hok hg
theorem Inv.turned {t':Nat}{it:Addr}(I:Inv X pins σ H s) (k:∀ b o,b≠it→s.heap.get? b=some o→h'.get? b=some o) (hn:H it=none) (hL:it≠X.env.locals)
  (h1:it∈X.ex∨X.s₀.heap.objs.size≤it) (h2:∀ x c,X.env.cells.lookup x=some c→c≠it) (h3:∀ p∈X.pn++pins,p.1≠it):Inv X pins σ H { s with heap:=h',toks:=t' }:=by
 have nit:∀ b u,H b=some u→b≠it:=fun b u e z=>by rw[z,hn] at e;cases e
 refine I.step (g':=s.gens) (d':=s.drawn) (ch:=[it]) (fun b hb=>?_) (fun b o _ _ hc e _=>k b o (fun z=>hc (by simp[z])) e) (fun b o _ _ hc e _=>⟨o.slots,k b o (fun z=>hc (by simp[z])) e⟩) (fun _ _ _ _ n=>n)
  (fun b o hc e=>⟨o,k b o (fun z=>hc (by simp[z])) e⟩) (fun _ _ e=>e) (fun _ _ _ e=>e) (fun b ps e=>⟨#[],by rw[e];simp⟩) (fun m hm=>?_) (fun b u e=>?_) I.bare
 ·have e:b=it:=by simpa using hb
  subst e
  exact⟨h1,hL,h2,h3⟩
 ·obtain⟨o,es,ep,ho,r⟩:=hm
  exact⟨o,es,ep,k _ o (Ne.symm hL) ho,r⟩
 ·refine(I.hok b u e).stay (fun c v hc q=>k c v ?_ q) (fun _ q=>q) fun _ _ q=>q
  rcases hc with z | z
  ·rw[z];exact nit b u e
  ·exact nit c _ z
theorem Inv.tok (I:Inv X pins σ H s) (t:Nat):Inv X pins σ H { s with toks:=t }:=I.un (h':=s.heap) (t':=t) Un.refl I.hok
theorem Inv.kept {t':Nat}(I:Inv X pins σ H s) (k:∀ b u,s.heap.get? b=some u→h'.get? b=some u):Inv X pins σ H { s with heap:=h',toks:=t' }:=I.un (Un.kept k) (I.hok.kept k)
theorem Inv.laid {a:Addr}{o:HO}{t':Nat}(I:Inv X pins σ H s) (k:∀ b u,s.heap.get? b=some u→h'.get? b=some u) (hp:s.heap.objs.size≤a) (new:ObjOk X.prog X.w (upd H a o) h' a o) :
  Inv X pins σ (upd H a o) { s with heap:=h',toks:=t' }:=I.un (Un.laid k hp (I.hok.fresh hp)) (I.hok.laid k hp new)
theorem Inv.write {x e:Addr}{o:HO}{t':Nat}(I:Inv X pins σ H s) (mu:Mut (H x)) (he:e=x∨H e=some (.own x)) (k:∀ b u,b≠e→s.heap.get? b=some u→h'.get? b=some u) (heo:∃ u,h'.get? e=some u)
  (new:ObjOk X.prog X.w (upd H x o) h' x o):Inv X pins σ (upd H x o) { s with heap:=h',toks:=t' }:=I.un (Un.write mu he k heo) (I.hok.write mu he k heo new)
theorem Inv.pins_of {pins':List (Addr×Obj)}(I:Inv X pins σ H s) (h:∀ p∈pins',s.heap.get? p.1=some p.2∧H p.1=none∧p.1≠X.env.locals∧p.1∉X.fs∧∀ v,p.2.data≠.cell v):Inv X pins' σ H s :=
 ⟨I.ok,I.os,I.bare,I.base,I.loc,I.cell,I.free,I.freeC,fun p hp=>(List.mem_append.mp hp).elim (fun z=>I.pin p (List.mem_append_left _ z)) (h p),I.hok,I.len⟩
theorem nodup_ix {N:List Str}(hN:N.Nodup){i j:Nat}{x:Str}(a:N[i]?=some x) (b:N[j]?=some x):i=j:=by
 obtain⟨h1,e1⟩:=List.getElem?_eq_some_iff.mp a
 obtain⟨h2,e2⟩:=List.getElem?_eq_some_iff.mp b
 exact(List.getElem_inj hN).mp (e1.trans e2.symm)
theorem vt {M:Model}{A:Around}{E:Value→Shared→Prop}{i:Nat}{x:Str}{v:V}{u:Value}{Q:Unit→Shared→Prop}(I:Inv X pins σ H s) (hN:X.N.Nodup) (hi:X.N[i]?=some x) (hx:Loc X.env.scope x) (r:RelV v u)
  (h:∀ s',Inv X pins (σ.set i (some v)) H s'→(∃ a,Heap.SameBut a s.heap s'.heap∧(a=X.env.locals∨X.env.cells.lookup x=some a))→Q () s') (hf:X.fn x=true∨X.env.scope.names.lookup x=some .local:=by first | exact .inl rfl | exact .inr rfl | assumption):wpAny M A (storeName X.env x u) Q E s:=by
 obtain⟨m,hn,hl⟩:=id I.loc
 have hcls:(X.env.scope.kind == .class||(X.env.scope.kind == .module&&X.env.locals != X.env.globals))=false:=by rw[I.ok.kind];rfl
 have hiσ:i<σ.length:=by rw[I.len];exact(List.getElem?_eq_some_iff.mp hi).1
 have cne:=I.cne
 have tracked:∀ {a:Addr}{h':Heap},(∃ o,s.heap.get? a=some o∧H a=none)→Heap.SameBut a s.heap h'→HOk X.prog X.w H h':=fun {a h'} ha hs b ob e=>by
  obtain⟨_,_,hfree⟩:=ha
  refine(I.hok b ob e).stay (fun c w' hc q=>(hs.2 c ?_).trans q) (fun _ q=>q) fun _ _ q=>q
  rintro rfl
  rcases hc with rfl | hc
  ·rw[hfree] at e;cases e
  ·rw[hfree] at hc;cases hc
 rcases hx with hk | hk
 ·refine wpAny_storeName_local hk hn (fun h' hn' hs=>?_) hcls
  obtain⟨oL,_,_,hoL,_⟩:=id hn
  refine h _ ⟨I.ok,I.os,I.bare,⟨fun b o e n hb hx=>?_,fun b o e n hb hx=>?_,I.base.free,fun b o e hx=>?_,I.base.tups,I.base.frzs,I.base.tbls⟩,⟨_,hn',fun j y v' e1 e2 e3=>?_⟩,fun y c e=>?_,I.free,I.freeC,fun p hp=>?_,tracked ⟨oL,hoL,I.free⟩ hs,by simpa using I.len⟩ ⟨_,hs,.inl rfl⟩
  ·exact(hs.2 b (Nat.ne_of_lt (Nat.lt_of_lt_of_le (Heap.lt_size e) I.ok.above))).trans (I.base.keep b o e n hb hx)
  ·obtain⟨sl,e1⟩:=I.base.slot b o e n hb hx
   exact⟨sl,(hs.2 b (Nat.ne_of_lt (Nat.lt_of_lt_of_le (Heap.lt_size e) I.ok.above))).trans e1⟩
  ·obtain⟨o',e1⟩:=I.base.there b o e hx
   exact⟨o',(hs.2 b (Nat.ne_of_lt (Nat.lt_of_lt_of_le (Heap.lt_size e) I.ok.above))).trans e1⟩
  ·by_cases hj:j=i
   ·subst hj
    rw[hi] at e1;cases e1
    rw[List.getElem?_set_self hiσ] at e2
    cases e2
    exact⟨u,r,.inl ⟨hk,by simp⟩⟩
   ·rw[List.getElem?_set_ne (Ne.symm hj)] at e2
    obtain⟨u',r',q⟩:=hl j y v' e1 e2 e3
    refine⟨u',r',?_⟩
    rcases q with⟨k,e⟩ | ⟨k,c,e,z⟩
    ·refine .inl ⟨k,?_⟩
     have:y≠x:=fun e=>hj (nodup_ix hN e1 (e ▸ hi))
     simp[this,e]
    ·exact .inr ⟨k,c,e,z.sameBut hs (cne y c e)⟩
  ·obtain⟨w',z⟩:=I.cell y c e
   exact⟨w',z.sameBut hs (cne y c e)⟩
  ·obtain⟨e,n,ne,nf,d⟩:=I.pin p hp
   exact⟨(hs.2 p.1 ne).trans e,n,ne,nf,d⟩
 ·have hfn:X.fn x=true:=by
   rcases hf with z | z
   ·exact z
   ·rw[z] at hk;cases hk
  obtain⟨c,hc⟩:=I.ok.has x (.inl hk)
  obtain⟨w',z⟩:=I.cell x c hc
  refine wpAny_storeName_cell I.ok.kind hk hc z (fun h' hc' hs=>?_)
  obtain⟨oc,hoc,hocd⟩:=id z
  refine h { s with heap:=h' } ⟨I.ok,I.os,I.bare,⟨fun b o e n hb hx=>?_,fun b o e n hb hx=>?_,I.base.free,fun b o e hx=>?_,I.base.tups,I.base.frzs,I.base.tbls⟩,⟨m,hn.sameBut hs (Ne.symm (cne x c hc)),fun j y v' e1 e2 e3=>?_⟩,fun y c' e=>?_,I.free,I.freeC,fun p hp=>?_,tracked ⟨oc,hoc,I.freeC x c hc⟩ hs,by simpa using I.len⟩ ⟨c,hs,.inr hc⟩
  ·exact(hs.2 b (Nat.ne_of_lt (Nat.lt_of_lt_of_le (Heap.lt_size e) (I.ok.cab x c hfn hc)))).trans (I.base.keep b o e n hb hx)
  ·obtain⟨sl,e1⟩:=I.base.slot b o e n hb hx
   exact⟨sl,(hs.2 b (Nat.ne_of_lt (Nat.lt_of_lt_of_le (Heap.lt_size e) (I.ok.cab x c hfn hc)))).trans e1⟩
  ·obtain⟨o',e1⟩:=I.base.there b o e hx
   exact⟨o',(hs.2 b (Nat.ne_of_lt (Nat.lt_of_lt_of_le (Heap.lt_size e) (I.ok.cab x c hfn hc)))).trans e1⟩
  ·by_cases hj:j=i
   ·subst hj
    rw[hi] at e1;cases e1
    rw[List.getElem?_set_self hiσ] at e2
    cases e2
    exact⟨u,r,.inr ⟨.inl hk,c,hc,hc'⟩⟩
   ·rw[List.getElem?_set_ne (Ne.symm hj)] at e2
    obtain⟨u',r',q⟩:=hl j y v' e1 e2 e3
    refine⟨u',r',?_⟩
    rcases q with q | ⟨k,c',e,z'⟩
    ·exact .inl q
    ·refine .inr ⟨k,c',e,z'.sameBut hs ?_⟩
     rintro rfl
     exact hj (nodup_ix hN e1 (I.ok.inj _ _ _ e hc ▸ hi))
  ·by_cases hcc:c'=c
   ·subst hcc;exact⟨_,hc'⟩
   ·obtain⟨w2,z2⟩:=I.cell y c' e
    exact⟨w2,z2.sameBut hs hcc⟩
  ·obtain⟨e,n,ne,nf,d⟩:=I.pin p hp
   refine⟨(hs.2 p.1 ?_).trans e,n,ne,nf,d⟩
   intro q
   rw[q,hoc] at e
   have q':oc=p.2:=Option.some.inj e
   exact d w' (by rw[← q'];exact hocd)
theorem store_ok {M:Model}{A:Around}{E:Value→Shared→Prop}{i:Nat}{x:Str}{v:V}{u:Value}{Q:Unit→Shared→Prop}(I:Inv X pins σ H s) (hN:X.N.Nodup) (hi:X.N[i]?=some x) (hx:Loc X.env.scope x) (r:RelV v u)
  (h:∀ s',Inv X pins (σ.set i (some v)) H s'→Q () s') (hf:X.fn x=true∨X.env.scope.names.lookup x=some .local:=by first | exact .inl rfl | exact .inr rfl | assumption):wpAny M A (storeName X.env x u) Q E s :=
 vt I hN hi hx r (fun s' I' _=>h s' I') hf
theorem Inv.call' {s':Shared}{ch:List Addr}(I:Inv X pins σ H s) (ho:s'.os=s.os) (u:Un (frs X.stack) ch H H' s.heap s'.heap) (hok:HOk X.prog X.w H' s'.heap) (hg:AllBare s'.gens)
  (hch:∀ b∈ch,(b∈X.ex∨X.s₀.heap.objs.size≤b)∧b≠X.env.locals∧(∀ x c,X.env.cells.lookup x=some c→c≠b)∧∀ p∈X.pn++pins,p.1≠b):Inv X pins σ H' s':=by
 obtain⟨h',g',d',t',o'⟩:=s'
 have e:o'=s.os:=ho
 subst e
 exact I.call (g':=g') (t':=t') (d':=d') u hok hg hch
end
abbrev XK:=Value→Option Addr→Hp→Prop
abbrev St:=List (Option V)
abbrev VK:=V→Hp→Prop
abbrev TE:=St→Hp→VK→Prop
abbrev TT:=St→Hp→(Bool→Hp→Prop)→Prop
abbrev TA:=St→Hp→(List V→Hp→Prop)→Prop
structure Ends where
 nx:St→Hp→Prop
 rt:VK
 bk:St→Hp→Prop:=fun _ _=>False
 ct:St→Hp→Prop:=fun _ _=>False
abbrev TS:=Ends→St→Hp→Prop
def EP (X:Cx) (pins:List (Addr×Obj)) (σ:St) (Q:VK) (u:Value) (s':Shared):Prop:=∃ v H',Inv X pins σ H' s'∧RelV v u∧Q v H'
def TP (X:Cx) (pins:List (Addr×Obj)) (σ:St) (Q:Bool→Hp→Prop) (b:Bool) (s':Shared):Prop:=∃ H',Inv X pins σ H' s'∧Q b H'
def AP (X:Cx) (pins:List (Addr×Obj)) (σ:St) (Q:List V→Hp→Prop) (us:List Value) (s':Shared):Prop:=∃ vs H',Inv X pins σ H' s'∧Vals vs us∧Q vs H'
def SP (X:Cx) (pins:List (Addr×Obj)) (D:Ends) (f:Flow) (s':Shared):Prop :=
 match f with
 |.next=>∃ σ' H',Inv X pins σ' H' s'∧D.nx σ' H'
 |.brk=>∃ σ' H',Inv X pins σ' H' s'∧D.bk σ' H'
 |.cont=>∃ σ' H',Inv X pins σ' H' s'∧D.ct σ' H'
 |.ret u=>∃ v σ' H',Inv X pins σ' H' s'∧RelV v u∧D.rt v H'
def PE (X:Cx) (e:Expr) (t:TE):Prop :=
 ∀ (pins:List (Addr×Obj)) (s:Shared) (σ:St) (H:Hp) (Q:VK),Inv X pins σ H s→t σ H Q→wpAny (model X.prog X.w) X.A (eval e X.env) (EP X pins σ Q) X.xe s
def PT (X:Cx) (e:Expr) (t:TT):Prop :=
 ∀ (pins:List (Addr×Obj)) (s:Shared) (σ:St) (H:Hp) (Q:Bool→Hp→Prop),Inv X pins σ H s→t σ H Q→wpAny (model X.prog X.w) X.A (isTrue e X.env (eval e X.env)) (TP X pins σ Q) X.xe s
def PW (X:Cx) (e:Expr) (t:TT):Prop :=
 ∀ (whole:Sem Value) (pins:List (Addr×Obj)) (s:Shared) (σ:St) (H:Hp) (Q:Bool→Hp→Prop),Inv X pins σ H s→t σ H Q→wpAny (model X.prog X.w) X.A (isTrue e X.env whole) (TP X pins σ Q) X.xe s
theorem PW.pt {X:Cx}{e:Expr}{t:TT}(h:PW X e t):PT X e t:=h _
def PA (X:Cx) (es:List Expr) (t:TA):Prop :=
 ∀ (pos:Pos) (pins:List (Addr×Obj)) (s:Shared) (σ:St) (H:Hp) (Q:List V→Hp→Prop),Inv X pins σ H s→t σ H Q→wpAny (model X.prog X.w) X.A (spliced (backTo pos (starEach es X.env))) (AP X pins σ Q) X.xe s
def PS (X:Cx) (st:Stmt) (t:TS):Prop :=
 ∀ (pins:List (Addr×Obj)) (s:Shared) (σ:St) (H:Hp) (D:Ends),Inv X pins σ H s→t D σ H→wpAny (model X.prog X.w) X.A (exec st X.env) (SP X pins D) X.xe s
def PSs (X:Cx) (st:List Stmt) (t:TS):Prop :=
 ∀ (pins:List (Addr×Obj)) (s:Shared) (σ:St) (H:Hp) (D:Ends),Inv X pins σ H s→t D σ H→wpAny (model X.prog X.w) X.A (execs st X.env) (SP X pins D) X.xe s
theorem thn {α:Type}{t:Sem α}{Q Q':α→Shared→Prop}{M:Model}{A:Around}{E:Value→Shared→Prop}{s:Shared}(h:wpAny M A t Q E s) (hQ:∀ a s,Q a s→Q' a s):wpAny M A t Q' E s:=wpAny_mono h hQ fun _ _ x=>x
section
variable {X:Cx}
theorem bin {a b:Expr}{ta tb:TE}(ha:PE X a ta) (hb:PE X b tb){pins:List (Addr×Obj)}{s:Shared}{σ:St}{H:Hp}{R:V→V→Hp→Prop}(I:Inv X pins σ H s) (h:ta σ H fun x H1=>tb σ H1 fun y H2=>R x y H2)
  {α:Type}{Q:α→Shared→Prop}{f:Value→Value→Sem α}
  (hf:∀ v u s2 x y H2,Inv X pins σ H2 s2→RelV x v→RelV y u→R x y H2→wpAny (model X.prog X.w) X.A (f v u) Q X.xe s2) :
  wpAny (model X.prog X.w) X.A (eval a X.env) (fun v s₁=>wpAny (model X.prog X.w) X.A (eval b X.env) (fun u s₂=>wpAny (model X.prog X.w) X.A (f v u) Q X.xe s₂) X.xe s₁) X.xe s:=by
 refine thn (ha pins s σ H _ I h) fun v s1 hq0=>?_
 obtain⟨x,H1,I1,r1,q1⟩:=hq0
 refine thn (hb pins s1 σ H1 _ I1 q1) fun u s2 hq0=>?_
 obtain⟨y,H2,I2,r2,q2⟩:=hq0
 exact hf v u s2 x y H2 I2 r1 r2 q2
def zgG (i:Nat):TE:=fun σ H Q=>∃ v,σ[i]?=some (some v)∧Q v H
def tC (v:V):TE:=fun _ H Q=>Q v H
theorem Uz {i:Nat}{x:Str}{pos:Pos}(hN:X.N[i]?=some x) (hv:Vis X.env.scope x) (hd:(x == ("__debug__" : Str))=false:=by decide) (hcd:(x == ("__classdict__" : Str))=false:=by decide):PE X (.Name x pos) (zgG i):=by
 intro pins s σ H Q I h
 obtain⟨v,e,h⟩:=h
 obtain⟨m,hn,hl⟩:=I.loc
 obtain⟨u,r,l⟩:=hl i x v hN e hv
 have fin:EP X pins σ Q u s:=⟨v,H,I,r,h⟩
 rcases l with⟨hk,hm⟩ | ⟨hk,c,hc,hcell⟩
 ·exact wpAny_Name (wpAny_loadName_local I.ok.kind hk hn hm fin) hd
 ·rcases hk with hk | hk
  ·exact wpAny_Name (wpAny_loadName_cell I.ok.kind hk hc hcell fin) hd
  ·exact wpAny_Name (wpAny_loadName_free I.ok.kind hk hc hcell fin hcd) hd
theorem ze {i j pos}:Bx (PE X (.Constant (.int i) j pos) (tC (.int i))):=by
 exact⟨fun _ _ _ H _ I h=>wpAny_Constant_int ⟨.int i,H,I.tok _,⟨_,rfl⟩,h⟩⟩
theorem zF {b j pos}:Bx (PE X (.Constant (.bool b) j pos) (tC (.bl b))):=by
 exact⟨fun _ _ _ H _ I h=>Constant_bool ⟨.bl b,H,I,rfl,h⟩⟩
theorem yx {j pos}:Bx (PE X (.Constant .none j pos) (tC .non)):=by
 exact⟨fun _ _ _ H _ I h=>Constant_none ⟨.non,H,I,rfl,h⟩⟩
theorem xu {x j pos}:Bx (PE X (.Constant (.str x) j pos) (tC (.str x))):=by
 exact⟨fun _ _ _ H _ I h=>Calls.Constant_str ⟨.str x,H,I.tok _,⟨_,rfl⟩,h⟩⟩
def Gl (X:Cx) (x:Str):Prop:=X.env.kindOf x=some .globalImplicit
theorem ld_glob {E:Value→Shared→Prop}{pins:List (Addr×Obj)}{s:Shared}{σ:St}{H:Hp}{x:Str}{u:Value}{pos:Pos}{Q:Value→Shared→Prop}(I:Inv X pins σ H s) (hg:Gl X x) (hm:X.mg x=some u) (h:Q u s)
  (hd:(x == ("__debug__" : Str))=false:=by decide):wpAny (model X.prog X.w) X.A (eval (.Name x pos) X.env) Q E s :=
 Calls.Name_function_global I.ok.kind hg (Calls.loadGlobal_global (by rw[I.ok.glob];exact I.mod.glob.keeps I.bk) hm h) hd
theorem ld_blt {E:Value→Shared→Prop}{pins:List (Addr×Obj)}{s:Shared}{σ:St}{H:Hp}{x:Str}{u:Value}{pos:Pos}{Q:Value→Shared→Prop}(I:Inv X pins σ H s) (hg:Gl X x) (hm:X.mg x=none) (hv:bootBuiltins x=some u) (h:Q u s)
  (hn:x ≠ "__name__" := by decide) (hd:(x == ("__debug__" : Str))=false:=by decide):wpAny (model X.prog X.w) X.A (eval (.Name x pos) X.env) Q E s:=by
 obtain⟨mb,h1,h2⟩:=I.mod.blt
 exact Calls.Name_function_global I.ok.kind hg (Calls.loadGlobal_builtin (by rw[I.ok.glob];exact I.mod.glob.keeps I.bk) hm (by rw[I.ok.blt];exact h1.keeps I.bk) ((h2 x hn).trans hv) h) hd
theorem ZL {x:Str}{v:V}{u:Value}{pos:Pos}(hg:Gl X x) (hm:X.mg x=some u) (r:RelV v u) (hd:(x == ("__debug__" : Str))=false:=by decide):PE X (.Name x pos) (tC v) :=
 fun _ _ _ H _ I h=>ld_glob I hg hm ⟨v,H,I,r,h⟩ hd
theorem W8 {x:Str}{v:V}{u:Value}{pos:Pos}(hg:Gl X x) (hm:X.mg x=none) (hv:bootBuiltins x=some u) (r:RelV v u) (hn:x ≠ "__name__" := by decide) (hd:(x == ("__debug__" : Str))=false:=by decide):PE X (.Name x pos) (tC v) :=
 fun _ _ _ H _ I h=>ld_blt I hg hm hv ⟨v,H,I,r,h⟩ hn hd
variable {a b:Expr}{ta tb:TE}{pos:Pos}
def PC (X:Cx) (op:CmpOp) (a b:Expr) (t:TE):Prop :=
 ∀ (pins:List (Addr×Obj)) (s:Shared) (σ:St) (H:Hp) (Q:VK),Inv X pins σ H s→t σ H Q →
  wpAny (model X.prog X.w) X.A (eval a X.env) (fun v s₁=>wpAny (model X.prog X.w) X.A (eval b X.env) (fun u s₂=>wpAny (model X.prog X.w) X.A (compareOp op v u) (EP X pins σ Q) X.xe s₂) X.xe s₁) X.xe s
def tB (t:TE):TT:=fun σ H Q=>t σ H fun x H1=>∃ c,x=.bl c∧Q c H1
theorem Yw {op:CmpOp}{t:TE}(h:Bx (PC X op a b t)) (h1:behindInMarks op b=false:=by first | exact nobehind _ (by decide) (by decide) | rfl):Bx (PE X (.Compare a [op] [b] pos) t):=by
 have h:=h.of
 exact⟨fun pins s σ H Q I hw=>wpAny_Compare1 (h pins s σ H Q I hw) h1⟩
theorem yM {op:CmpOp}{t:TE}(h:Bx (PC X op a b t)) (h1:behindInMarks op b=false:=by first | exact nobehind _ (by decide) (by decide) | rfl):Bx (PT X (.Compare a [op] [b] pos) (tB t)):=by
 have h:=h.of
 refine⟨?_⟩
 intro pins s σ H Q I hw
 refine wpAny_isTrue_Compare1 (thn (h pins s σ H _ I hw) fun v s1 h1=>thn h1 fun u s2 h2=>thn h2 fun c s3 hq0=>?_) h1
 obtain⟨x,H1,I1,r1,q1⟩:=hq0
 obtain⟨d,rfl,q⟩:=q1
 cases r1
 exact wpAny_truthy_bool ⟨H1,I1,q⟩
theorem zy {e:Expr}{t:TE}(h:Bx (PE X e t)) (he:∀ whole,isTrue e X.env whole=(do let v ← whole;standAt e.pos;holding [v] (truthy v)):=by intro _;rfl):Bx (PT X e (tB t)):=by
 have h:=h.of
 refine⟨?_⟩
 intro pins s σ H Q I hw
 refine isTrue_plain (thn (h pins s σ H _ I hw) fun v s1 hq0=>?_) (he _)
 obtain⟨x,H1,I1,r1,q1⟩:=hq0
 obtain⟨d,rfl,q⟩:=q1
 cases r1
 exact wpAny_truthy_bool ⟨H1,I1,q⟩
variable {tA tB':TT}{rest:List Expr}
def zlS (t u:TT):TT:=fun σ H Q=>t σ H fun c H1=>if c=true then u σ H1 Q else Q false H1
def tOr (t u:TT):TT:=fun σ H Q=>t σ H fun c H1=>if c=true then Q true H1 else u σ H1 Q
def zlL (t:TT):TT:=fun σ H Q=>t σ H fun c H1=>Q (!c) H1
theorem yd (ha:Bx (PT X a tA)):Bx (PW X (.BoolOp .And [a] pos) tA):=by
 have ha:=ha.of
 refine⟨?_⟩
 intro wh pins s σ H Q I h
 refine isTrue_and (thn (ha pins s σ H Q I h) fun c s1 e=>?_)
 cases c with
 |true=>exact isTrue_and_nil e
 |false=>exact e
theorem yb (ha:Bx (PT X a tA)):Bx (PW X (.BoolOp .Or [a] pos) tA):=by
 have ha:=ha.of
 refine⟨?_⟩
 intro wh pins s σ H Q I h
 refine isTrue_or (thn (ha pins s σ H Q I h) fun c s1 e=>?_)
 cases c with
 |false=>exact isTrue_or_nil e
 |true=>exact e
theorem yo (ha:Bx (PT X a tA)) (hb:Bx (PW X (.BoolOp .And (b::rest) pos) tB')):Bx (PW X (.BoolOp .And (a::b::rest) pos) (zlS tA tB')):=by
 have ha:=ha.of
 have hb:=hb.of
 refine⟨?_⟩
 intro wh pins s σ H Q I h
 refine isTrue_and (thn (ha pins s σ H _ I h) fun c s1 hq0=>?_)
 obtain⟨H1,I1,q1⟩:=hq0
 cases c with
 |true=>exact hb wh pins s1 σ H1 Q I1 q1
 |false=>exact⟨H1,I1,q1⟩
theorem yg (ha:Bx (PT X a tA)) (hb:Bx (PW X (.BoolOp .Or (b::rest) pos) tB')):Bx (PW X (.BoolOp .Or (a::b::rest) pos) (tOr tA tB')):=by
 have ha:=ha.of
 have hb:=hb.of
 refine⟨?_⟩
 intro wh pins s σ H Q I h
 refine isTrue_or (thn (ha pins s σ H _ I h) fun c s1 hq0=>?_)
 obtain⟨H1,I1,q1⟩:=hq0
 cases c with
 |true=>exact⟨H1,I1,q1⟩
 |false=>exact hb wh pins s1 σ H1 Q I1 q1
theorem zG (ha:Bx (PT X a tA)):Bx (PT X (.UnaryOp .Not a pos) (zlL tA)):=by
 have ha:=ha.of
 refine⟨?_⟩
 intro pins s σ H Q I h
 exact isTrue_not (ha pins s σ H (fun c H1=>Q (!c) H1) I h)
def tAndV (ta tb:TE):TE:=fun σ H Q=>ta σ H fun x H1=>∃ c,x=.bl c∧if c=true then tb σ H1 Q else Q (.bl false) H1
def zcn (ta tb:TE):TE:=fun σ H Q=>ta σ H fun x H1=>∃ c,x=.bl c∧if c=true then Q (.bl true) H1 else tb σ H1 Q
def zco (ta:TE):TE:=fun σ H Q=>ta σ H fun x H1=>∃ c,x=.bl c∧Q (.bl (!c)) H1
theorem yp {op}{t:TE}(h:Bx (PE X a t)):Bx (PE X (.BoolOp op [a] pos) t):=by
 have h:=h.of
 exact⟨fun pins s σ H Q I hw=>BoolOp_one (h pins s σ H Q I hw)⟩
theorem yz (ha:Bx (PE X a ta)) (hb:Bx (PE X (.BoolOp .And (b::rest) pos) tb)):Bx (PE X (.BoolOp .And (a::b::rest) pos) (tAndV ta tb)):=by
 have ha:=ha.of
 have hb:=hb.of
 refine⟨?_⟩
 intro pins s σ H Q I h
 refine BoolOp_and (thn (ha pins s σ H _ I h) fun v s1 hq0=>?_)
 obtain⟨x,H1,I1,r1,q1⟩:=hq0
 obtain⟨c,rfl,q1⟩:=q1
 cases r1
 refine wpAny_truthy_bool ?_
 cases c with
 |true=>exact hb pins s1 σ H1 Q I1 q1
 |false=>exact⟨.bl false,H1,I1,rfl,q1⟩
theorem vU (ha:Bx (PE X a ta)) (hb:Bx (PE X (.BoolOp .Or (b::rest) pos) tb)):Bx (PE X (.BoolOp .Or (a::b::rest) pos) (zcn ta tb)):=by
 have ha:=ha.of
 have hb:=hb.of
 refine⟨?_⟩
 intro pins s σ H Q I h
 refine BoolOp_or (thn (ha pins s σ H _ I h) fun v s1 hq0=>?_)
 obtain⟨x,H1,I1,r1,q1⟩:=hq0
 obtain⟨c,rfl,q1⟩:=q1
 cases r1
 refine wpAny_truthy_bool ?_
 cases c with
 |false=>exact hb pins s1 σ H1 Q I1 q1
 |true=>exact⟨.bl true,H1,I1,rfl,q1⟩
theorem xU (ha:Bx (PE X a ta)):Bx (PE X (.UnaryOp .Not a pos) (zco ta)):=by
 have ha:=ha.of
 refine⟨?_⟩
 intro pins s σ H Q I h
 refine UnaryOp_ (thn (ha pins s σ H _ I h) fun v s1 hq0=>?_)
 obtain⟨x,H1,I1,r1,q1⟩:=hq0
 obtain⟨c,rfl,q1⟩:=q1
 cases r1
 exact not_of (wpAny_truthy_bool ⟨.bl (!c),H1,I1,rfl,q1⟩)
end
def SqL (K:PySem.W.Frag) (H:Hp) (a:Addr) (xs:List V):Prop :=
 Rd H a (.lst xs) ∨
  ∃ (o:Obj) (its:Array Value) (n:Nat),K.lookup a=some o∧o.cls=.type "list" ∧ o.dict=none∧o.data=.seq its n∧its.size≤sizeLine∧Vals xs its.toList
def SqT (K:PySem.W.Frag) (H:Hp) (a:Addr) (xs:List V):Prop :=
 Rd H a (.tup xs) ∨
  ∃ (o:Obj) (its:Array Value) (n:Nat),K.lookup a=some o∧o.cls=.type "tuple" ∧ o.data=.seq its n∧its.size≤sizeLine∧Vals xs its.toList
def zmR:Value→Option V
 |.none=>some .non
 |.bool b=>some (.bl b)
 |.int i _=>some (.int i)
 |.str x _=>some (.str x)
 |.bytes b _=>some (.byt b)
 |.float b _=>some (.flt b)
 |.ref a=>some (.ref a)
 |.type n=>some (.ty n)
 |_=>none
theorem RelV.abs {x:V}{u:Value}(r:RelV x u):zmR u=some x:=by
 cases x with
 |non=>cases r;rfl
 |bl _=>cases r;rfl
 |int _=>obtain⟨t,rfl⟩:=r;rfl
 |str _=>obtain⟨t,rfl⟩:=r;rfl
 |byt _=>obtain⟨t,rfl⟩:=r;rfl
 |flt _=>obtain⟨t,rfl⟩:=r;rfl
 |ref _=>cases r;rfl
 |ty _=>cases r;rfl
theorem RelV.inj {x y:V}{u:Value}(r:RelV x u) (q:RelV y u):x=y:=Option.some.inj (r.abs.symm.trans q.abs)
theorem Vals.inj:∀ {xs ys:List V}{us:List Value},Vals xs us→Vals ys us→xs=ys
 |_,_,_,.nil,.nil=>rfl
 |_,_,_,.cons r t,.cons r' t'=>by rw[r.inj r',Vals.inj t t']
section
variable {X:Cx}{pins:List (Addr×Obj)}{σ:St}{H:Hp}{s:Shared}{a:Addr}{xs ys:List V}
theorem SqL.of {K:PySem.W.Frag}(h:H a=some (.lst xs)):SqL K H a xs:=.inl (.inl h)
theorem SqT.of {K:PySem.W.Frag}(h:H a=some (.tup xs)):SqT K H a xs:=.inl (.inl h)
theorem Inv.list (I:Inv X pins σ H s) (h:SqL X.K H a xs):∃ its:List Value,Vals xs its∧PlainL s.heap a its.toArray∧xs.length≤sizeLine:=by
 rcases h with h | ⟨o,its,n,hk,hc,hd,hs,hz,r⟩
 ·obtain⟨z,its,n,r,e⟩:=h.ok I.hok
  exact⟨its,r,⟨_,n,e,rfl,rfl,rfl⟩,z⟩
 ·refine⟨its.toList,r,⟨o,n,I.kIn a o hk,hc,hd,by simpa using hs⟩,?_⟩
  have e:=r.length
  simp only[Array.length_toList] at e
  omega
theorem Inv.tuple (I:Inv X pins σ H s) (h:SqT X.K H a xs):∃ its:List Value,Vals xs its∧IsTup s.heap a its.toArray∧xs.length≤sizeLine:=by
 rcases h with h | ⟨o,its,n,hk,hc,hs,hz,r⟩
 ·obtain⟨z,its,r,p⟩:=h.ok I.hok
  exact⟨its,r,p,z⟩
 ·refine⟨its.toList,r,⟨o,I.kIn a o hk,hc,n,by simpa using hs⟩,?_⟩
  have e:=r.length
  simp only[Array.length_toList] at e
  omega
theorem Inv.list_inj (I:Inv X pins σ H s) (h:SqL X.K H a xs) (h':SqL X.K H a ys):xs=ys:=by
 obtain⟨its,r,⟨o,n,e,_,_,d⟩,_⟩:=I.list h
 obtain⟨its',r',⟨o',n',e',_,_,d'⟩,_⟩:=I.list h'
 rw[e] at e';cases e'
 rw[d] at d'
 injection d' with d1 _
 have:its=its':=by simpa using congrArg Array.toList d1
 subst this
 exact r.inj r'
theorem Inv.tuple_inj (I:Inv X pins σ H s) (h:SqT X.K H a xs) (h':SqT X.K H a ys):xs=ys:=by
 obtain⟨its,r,⟨o,e,_,n,d⟩,_⟩:=I.tuple h
 obtain⟨its',r',⟨o',e',_,n',d'⟩,_⟩:=I.tuple h'
 rw[e] at e';cases e'
 rw[d] at d'
 injection d' with d1 _
 have:its=its':=by simpa using congrArg Array.toList d1
 subst this
 exact r.inj r'
end
abbrev Cx.wish (X:Cx) (E:Value→Shared→Prop):Cx:={ X with xe:=E }
abbrev Cx.nox (X:Cx):Cx:=X.wish fun _ _=>False
theorem Cx.Ok.wish {X:Cx}(ok:X.Ok) (E:Value→Shared→Prop):(X.wish E).Ok :=
 ⟨ok.mod,ok.kind,ok.glob,ok.blt,ok.above,ok.inj,ok.has,ok.cab,ok.hd,ok.frames,ok.stk,ok.exf,ok.bs,ok.bsz,ok.noex,ok.exfs,ok.funs,ok.frf⟩
theorem Cx.Ok.unwish {X:Cx}{E:Value→Shared→Prop}(ok:(X.wish E).Ok):X.Ok :=
 ⟨ok.mod,ok.kind,ok.glob,ok.blt,ok.above,ok.inj,ok.has,ok.cab,ok.hd,ok.frames,ok.stk,ok.exf,ok.bs,ok.bsz,ok.noex,ok.exfs,ok.funs,ok.frf⟩
section
variable {X:Cx}{pins:List (Addr×Obj)}{σ:St}{H:Hp}{s:Shared}{E:Value→Shared→Prop}
theorem Inv.wish (I:Inv X pins σ H s) (E:Value→Shared→Prop):Inv (X.wish E) pins σ H s:=⟨I.ok.wish E,I.os,I.bare,I.base,I.loc,I.cell,I.free,I.freeC,I.pin,I.hok,I.len⟩
theorem Inv.unwish (I:Inv (X.wish E) pins σ H s):Inv X pins σ H s:=⟨I.ok.unwish,I.os,I.bare,I.base,I.loc,I.cell,I.free,I.freeC,I.pin,I.hok,I.len⟩
theorem SP.unwish {D:Ends}{f:Flow}{s':Shared}(h:SP (X.wish E) pins D f s'):SP X pins D f s':=by
 cases f with
 |next=>obtain⟨σ',H',I,q⟩:=h;exact⟨σ',H',I.unwish,q⟩
 |brk=>obtain⟨σ',H',I,q⟩:=h;exact⟨σ',H',I.unwish,q⟩
 |cont=>obtain⟨σ',H',I,q⟩:=h;exact⟨σ',H',I.unwish,q⟩
 |ret u=>obtain⟨v,σ',H',I,r,q⟩:=h;exact⟨v,σ',H',I.unwish,r,q⟩
theorem PSs.nox {st:List Stmt}{t:TS}(h:PSs X.nox st t):PSs X st t:=fun pins s σ H D I hw =>
 wpAny_mono (h pins s σ H D (I.wish _) hw) (fun _ _ q=>q.unwish) fun _ _ z=>False.elim z
end
section
variable {X:Cx}{st:Stmt}{rest:List Stmt}{t u:TS}{e:Expr}{te:TE}{pos:Pos}
def zcq:TS:=fun D σ H=>D.nx σ H
def zlI (t u:TS):TS:=fun D σ H=>t { D with nx:=u D } σ H
theorem zk  : Bx (PSs X [] zcq):=by
 exact⟨fun _ _ σ H _ I h=>wpAny_execs_nil ⟨σ,H,I,h⟩⟩
theorem w_pss_cons (h1:Bx (PS X st t)) (h2:Bx (PSs X rest u)):Bx (PSs X (st::rest) (zlI t u)):=by
 have h1:=h1.of
 have h2:=h2.of
 refine⟨?_⟩
 intro pins s σ H D I h
 refine wpAny_execs_cons (thn (h1 pins s σ H { D with nx:=u D } I h) fun f s1 q=>?_)
 cases f with
 |next =>
  obtain⟨σ',H',I',q⟩:=q
  exact h2 pins s1 σ' H' D I' q
 |ret v=>exact q
 |brk=>exact q
 |cont=>exact q
theorem zb (h1:Bx (PS X st t)):Bx (PSs X [st] t):=by
 have h1:=h1.of
 refine⟨?_⟩
 intro pins s σ H D I h
 refine wpAny_execs_cons (thn (h1 pins s σ H D I h) fun f s1 q=>?_)
 cases f with
 |next=>exact wpAny_execs_nil q
 |ret v=>exact q
 |brk=>exact q
 |cont=>exact q
theorem Inv.quiet {pins:List (Addr×Obj)}{σ:St}{H:Hp}{s:Shared}(I:Inv X pins σ H s):interactive X.env=false:=by simp[interactive,I.ok.kind]
def Ua (te:TE):TS:=fun D σ H=>te σ H fun _ H1=>D.nx σ H1
theorem zH (he:Bx (PE X e te)) (hs:swapsWith e none pos.line X.env=pure false:=by rfl):Bx (PS X (.Expr e pos) (Ua te)):=by
 have he:=he.of
 refine⟨?_⟩
 intro pins s σ H D I h
 exact wpAny_Expr_any (thn (he pins s σ H _ I h) fun v s1 ⟨x,H1,I1,r1,q1⟩=>⟨σ,H1,I1,q1⟩) I.quiet hs
def zlK (te:TE):TS:=fun D σ H=>te σ H D.rt
theorem zg (he:Bx (PE X e te)):Bx (PS X (.Return (some e) pos) (zlK te)):=by
 have he:=he.of
 refine⟨?_⟩
 intro pins s σ H D I h
 exact wpAny_Return_some (thn (he pins s σ H _ I h) fun v s1 ⟨x,H1,I1,r1,q1⟩=>⟨x,σ,H1,I1,r1,q1⟩)
def zlN (c:TT) (t u:TS):TS:=fun D σ H=>c σ H fun b H1=>if b=true then t D σ H1 else u D σ H1
theorem zu {c:Expr}{a b:List Stmt}{tc:TT}(hc:Bx (PT X c tc)) (ha:Bx (PSs X a t)) (hb:Bx (PSs X b u)):Bx (PS X (.If c a b pos) (zlN tc t u)):=by
 have hc:=hc.of
 have ha:=ha.of
 have hb:=hb.of
 refine⟨?_⟩
 intro pins s σ H D I h
 refine wpAny_If (thn (hc pins s σ H _ I h) fun d s1 hq0=>?_)
 obtain⟨H1,I1,q1⟩:=hq0
 cases d with
 |true=>exact ha pins s1 σ H1 D I1 q1
 |false=>exact hb pins s1 σ H1 D I1 q1
def V7:TS:=fun _ _ _=>False
theorem xI  : Bx (PS X st V7):=by
 exact⟨fun _ _ _ _ _ _ h=>h.elim⟩
end
abbrev TG:=V→St→Hp→(St→Hp→Prop)→Prop
abbrev TGs:=List V→St→Hp→(St→Hp→Prop)→Prop
def PG (X:Cx) (target:Expr) (t:TG):Prop :=
 ∀ (pins:List (Addr×Obj)) (s:Shared) (σ:St) (H:Hp) (v:V) (u:Value) (Q:St→Hp→Prop),Inv X pins σ H s→RelV v u→t v σ H Q →
  wpAny (model X.prog X.w) X.A (assign target X.env u) (fun _ s'=>∃ σ' H',Inv X pins σ' H' s'∧Q σ' H') X.xe s
def PGs (X:Cx) (ts:List Expr) (t:TGs):Prop :=
 ∀ (pins:List (Addr×Obj)) (s:Shared) (σ:St) (H:Hp) (vs:List V) (us:List Value) (Q:St→Hp→Prop),Inv X pins σ H s→Vals vs us→t vs σ H Q →
  wpAny (model X.prog X.w) X.A (assignInOrder ((assignEach ts X.env).map (·.2)) us) (fun _ s'=>∃ σ' H',Inv X pins σ' H' s'∧Q σ' H') X.xe s
abbrev TIp:=V→V→Hp→VK→Prop
def PIp (X:Cx) (op:Operator) (t:TIp):Prop :=
 ∀ (pins:List (Addr×Obj)) (s:Shared) (σ:St) (H:Hp) (x y:V) (v u:Value) (Q:VK),Inv X pins σ H s→RelV x v→RelV y u→t x y H Q →
  wpAny (model X.prog X.w) X.A (inplaceOp op v u) (EP X pins σ Q) X.xe s
section
variable {X:Cx}{pos:Pos}
def Xg (i:Nat):TG:=fun v σ H Q=>Q (σ.set i (some v)) H
theorem zh {i:Nat}{x:Str}(hN:X.N.Nodup) (hi:X.N[i]?=some x) (hx:Loc X.env.scope x) (hf:X.fn x=true∨X.env.scope.names.lookup x=some .local:=by first | exact .inl rfl | exact .inr rfl | assumption):Bx (PG X (.Name x pos) (Xg i)):=by
 refine⟨?_⟩
 intro pins s σ H v u Q I r h
 exact wpAny_assign_Name (store_ok I hN hi hx r (fun s' I'=>⟨_,H,I',h⟩) hf)
def gNil:TGs:=fun vs σ H Q=>vs=[]∧Q σ H
def zgz (t:TG) (u:TGs):TGs:=fun vs σ H Q=>∃ v r,vs=v::r∧t v σ H fun σ' H'=>u r σ' H' Q
theorem zQ  : Bx (PGs X [] gNil):=by
 refine⟨?_⟩
 intro pins s σ H vs us Q I r h
 obtain⟨e,h⟩:=h
 subst e
 cases r
 exact assignInOrder_nil ⟨σ,H,I,h⟩
theorem zp {e:Expr}{es:List Expr}{t:TG}{u:TGs}(h1:Bx (PG X e t)) (h2:Bx (PGs X es u)) (hs:(assignEach (e::es) X.env).map (·.2)=assign e X.env::(assignEach es X.env).map (·.2):=by rfl):Bx (PGs X (e::es) (zgz t u)):=by
 have h1:=h1.of
 have h2:=h2.of
 refine⟨?_⟩
 intro pins s σ H vs us Q I r h
 obtain⟨v,vr,e1,h⟩:=h
 subst e1
 cases r with
 |cons r rr =>
  rw[hs]
  refine assignInOrder_cons (thn (h1 pins s σ H _ _ _ I r h) fun _ s1 hq0=>?_)
  obtain⟨σ1,H1,I1,q1⟩:=hq0
  exact h2 pins s1 σ1 H1 _ _ Q I1 rr q1
def zmP (K:PySem.W.Frag) (n:Nat) (t:TGs):TG:=fun v σ H Q=>∃ a xs,v=.ref a∧SqT K H a xs∧xs.length=n∧t xs σ H Q
theorem zZ {es:List Expr}{k:Nat}{t:TGs}{n:Nat}(hc:X.calm=true) (h:Bx (PGs X es t)) (hn:(assignEach es X.env).length=n:=by rfl) (hst:(assignEach es X.env).findIdx? (·.1)=none:=by rfl):Bx (PG X (.Tuple es k pos) (zmP X.K n t)):=by
 have h:=h.of
 refine⟨?_⟩
 intro pins s σ H v u Q I r hw
 obtain⟨a,xs,e1,hq,hl,hw⟩:=hw
 subst e1
 cases r
 obtain⟨its,rv,ht,hz⟩:=I.tuple hq
 refine assign_Tuple_tuple (I.ok.hd hc) ht (by simp[hn,← hl,rv.length]) hst fun h' hx=>?_
 have I1:Inv X pins σ H { s with heap:=h' }:=I.kept (t':=s.toks) fun b o e=>hx b o (Nat.ne_of_lt (Heap.lt_size e)) e
 exact h pins _ σ H xs _ Q I1 (by simpa using rv) hw
def zcw (te:TE) (g:TG):TS:=fun D σ H=>te σ H fun x H1=>g x σ H1 D.nx
theorem ui {tg e:Expr}{te:TE}{g:TG}(he:Bx (PE X e te)) (hg:Bx (PG X tg g)) (hs:swapsWithSole [tg] e pos.line X.env=pure false:=by rfl) (hw:swappedStores [tg] e X.env=pure none:=by rfl) (h1:(assignEach [tg] X.env).map (·.2)=[assign tg X.env]:=by rfl):Bx (PS X (.Assign [tg] e pos) (zcw te g)):=by
 have he:=he.of
 have hg:=hg.of
 refine⟨?_⟩
 intro pins s σ H D I h
 refine wpAny_Assign_stores (thn (he pins s σ H _ I h) fun v s1 hq0=>?_) hs hw
 obtain⟨x,H1,I1,r1,q1⟩:=hq0
 rw[h1]
 exact thn (hg pins s1 σ H1 x v _ I1 r1 q1) fun _ s2 q=>q
theorem w_ps_set {i:Nat}{x:Str}{e:Expr}{te:TE}{pos':Pos}(hN:X.N.Nodup) (hi:X.N[i]?=some x) (hx:Loc X.env.scope x) (he:Bx (PE X e te)) (hs:swapsWith e (some (.Name x pos')) pos.line X.env=pure false:=by rfl) (hf:X.fn x=true∨X.env.scope.names.lookup x=some .local:=by first | exact .inl rfl | exact .inr rfl | assumption):Bx (PS X (.Assign [.Name x pos'] e pos) (zcw te (Xg i))):=by
 have he:=he.of
 refine⟨?_⟩
 intro pins s σ H D I h
 refine wpAny_Assign_Name (thn (he pins s σ H _ I h) fun v s1 hq0=>?_) hs
 obtain⟨y,H1,I1,r1,q1⟩:=hq0
 exact store_ok I1 hN hi hx r1 (fun s2 I2=>⟨_,H1,I2,q1⟩) hf
def zlR (i:Nat) (te:TE) (ti:TIp):TS:=fun D σ H=>∃ x,σ[i]?=some (some x)∧te σ H fun y H1=>ti x y H1 fun z H2=>D.nx (σ.set i (some z)) H2
theorem Yu {i:Nat}{x:Str}{e:Expr}{te:TE}{op:Operator}{ti:TIp}{pos':Pos}(hN:X.N.Nodup) (hi:X.N[i]?=some x) (hx:Loc X.env.scope x) (he:Bx (PE X e te)) (ho:PIp X op ti) (hf:X.fn x=true∨X.env.scope.names.lookup x=some .local:=by first | exact .inl rfl | exact .inr rfl | assumption):Bx (PS X (.AugAssign (.Name x pos') op e pos) (zlR i te ti)):=by
 have he:=he.of
 refine⟨?_⟩
 intro pins s σ H D I h
 obtain⟨v,e1,h⟩:=h
 obtain⟨m,hn,hl⟩:=I.loc
 have vis:Vis X.env.scope x:=by rcases hx with k | k;exact .inl k;exact .inr (.inl k)
 obtain⟨u,r,l⟩:=hl i x v hi e1 vis
 refine wpAny_AugAssign_Name ?_
 have go:wpAny (model X.prog X.w) X.A (eval e X.env) (fun w s₂=>wpAny (model X.prog X.w) X.A (inplaceOp op u w) (fun r s₃=>wpAny (model X.prog X.w) X.A (storeName X.env x r) (fun _=>SP X pins D .next) X.xe s₃) X.xe s₂) X.xe s:=by
  refine thn (he pins s σ H _ I h) fun w s1 hq0=>?_
  obtain⟨y,H1,I1,r1,q1⟩:=hq0
  refine thn (ho pins s1 σ H1 v y u w _ I1 r r1 q1) fun z s2 hq0=>?_
  obtain⟨zv,H2,I2,r2,q2⟩:=hq0
  exact store_ok I2 hN hi hx r2 (fun s3 I3=>⟨_,H2,I3,q2⟩) hf
 rcases l with⟨hk,hm⟩ | ⟨hk,c,hc,hcell⟩
 ·exact wpAny_loadName_local I.ok.kind hk hn hm go
 ·rcases hk with hk | hk
  ·exact wpAny_loadName_cell I.ok.kind hk hc hcell go
  ·rcases hx with k | k
   ·have:X.env.scope.names.lookup x=some .free:=hk
    rw[k] at this;cases this
   ·have:X.env.scope.names.lookup x=some .free:=hk
    rw[k] at this;cases this
def ipI (f:Int→Int→Int):TIp:=fun x y H Q=>∃ i j,x=.int i∧y=.int j∧Q (.int (f i j)) H
theorem zbg:PIp X .Add (ipI fun i j=>i+j):=by
 intro pins s σ H x y v u Q I r1 r2 h
 obtain⟨i,j,e1,e2,q⟩:=h
 subst e1;subst e2
 obtain⟨t,rfl⟩:=r1
 obtain⟨t',rfl⟩:=r2
 exact iadd_int ⟨.int _,H,I.tok _,⟨_,rfl⟩,q⟩
def V5 (c:TT) (tb:TS):TS:=fun D σ H=>∃ W:Nat→St→Hp→Prop,(∃ m,W m σ H)∧∀ m σ H,W m σ H →
 c σ H fun b H1=>if b=true then ∃ N:St→Hp→Prop,(∀ σ' H',N σ' H'→∃ m',m'<m∧W m' σ' H')∧tb { D with nx:=N,ct:=N,bk:=D.nx } σ H1 else D.nx σ H1
theorem yA {c:Expr}{body:List Stmt}{tc:TT}{tb:TS}(hp:PassesOwn (model X.prog X.w) X.A X.env X.xe) (hc:Bx (PT X c tc)) (hb:Bx (PSs X body tb)):Bx (PS X (.While c body [] pos) (V5 tc tb)):=by
 have hc:=hc.of
 have hb:=hb.of
 refine⟨?_⟩
 intro pins s σ H D I h
 obtain⟨W,⟨m0,w0⟩,turn⟩:=h
 refine wpAny_While (codeAny_whileLoop (fun n s'=>∃ σ' H',Inv X pins σ' H' s'∧W n σ' H') ?_ m0 ⟨σ,H,I,w0⟩)
 rintro n s1 ⟨σ1,H1,I1,w1⟩
 refine wpAny_passesOwn hp (thn (hc pins s1 σ1 H1 _ I1 (turn n σ1 H1 w1)) fun b s2 hq0=>?_)
 obtain⟨H2,I2,q2⟩:=hq0
 cases b with
 |true =>
  obtain⟨N,hN,q2⟩:=q2
  rw[if_pos rfl]
  refine wpAny_passesOwn hp (thn (hb pins s2 σ1 H2 _ I2 q2) fun f s3 q3=>?_)
  cases f with
  |next =>
   obtain⟨σ3,H3,I3,n3⟩:=q3
   obtain⟨m',hm,w3⟩:=hN σ3 H3 n3
   exact⟨m',hm,σ3,H3,I3,w3⟩
  |cont =>
   obtain⟨σ3,H3,I3,n3⟩:=q3
   obtain⟨m',hm,w3⟩:=hN σ3 H3 n3
   exact⟨m',hm,σ3,H3,I3,w3⟩
  |brk=>exact q3
  |ret v=>exact q3
 |false =>
  rw[if_neg Bool.false_ne_true]
  exact wpAny_execs_nil ⟨σ1,H2,I2,q2⟩
end
structure It where
 go:Nat→Hp→Prop
 yld:Nat→Hp→V→Hp→Prop
 stop:Nat→Hp→Prop
def FpOk (X:Cx) (pins:List (Addr×Obj)) (H:Hp) (b:Addr):Prop :=
 H b=none∧b≠X.env.locals∧b∉X.fs∧(b∈X.ex∨X.s₀.heap.objs.size≤b)∧(∀ x c,X.env.cells.lookup x=some c→c≠b)∧∀ p∈X.pn++pins,p.1≠b
theorem Inv.fpOk {X:Cx}{pins:List (Addr×Obj)}{σ:St}{H H':Hp}{s:Shared}{b:Addr}(I:Inv X pins σ H s) (hb:s.heap.objs.size≤b) (hn:H' b=none):FpOk X pins H' b:=by
 refine⟨hn,Nat.ne_of_gt (Nat.lt_of_lt_of_le I.lt hb),I.nofs hb,.inr (Nat.le_trans I.sz hb),fun x c e z=>?_,fun p hp z=>?_⟩
 ·obtain⟨v,q⟩:=I.cell x c e
  exact absurd (Nat.lt_of_lt_of_le q.lt (by rw[z];exact hb)) (Nat.lt_irrefl _)
 ·exact absurd (Nat.lt_of_lt_of_le (Heap.lt_size (I.pin p hp).1) (by rw[z];exact hb)) (Nat.lt_irrefl _)
structure Turn (P:Program) (w:World) (K:PySem.W.Frag) (tg:Expr) (J:It) (fp:List Addr) (it:Addr) (tn:Nat→Heap→Prop):Prop where
 mem:it∈fp
 obj:∀ i h,tn i h→∀ b∈fp,∃ o,h.get? b=some o∧∀ v,o.data≠.cell v
 keep:∀ i h h',tn i h→(∀ b∈fp,∀ o,h.get? b=some o→h'.get? b=some o)→tn i h'
 item:∀ (X:Cx),X.prog=P→X.w=w→X.K=K→X.calm=true→∀ (i:Nat) (pins:List (Addr×Obj)) (s:Shared) (σ:St) (H:Hp) (E:Value→Shared→Prop),Inv X pins σ H s→(∀ b∈fp,FpOk X pins H b)→tn i s.heap→J.go i H →
  wpAny (model P w) X.A (pyNext (.ref it)) (fun r s1=>∃ u,r=some u ∧
   wpAny (model P w) X.A (letOwnedTupleGo tg (.ref it) u) (fun _ s2=>∃ x H',Inv X pins σ H' s2∧RelV x u∧J.yld i H x H'∧tn (i+1) s2.heap∧∀ b∈fp,H' b=none) E s1) E s
 done:∀ (X:Cx),X.prog=P→X.w=w→X.K=K→X.calm=true→∀ (i:Nat) (pins:List (Addr×Obj)) (s:Shared) (σ:St) (H:Hp) (E:Value→Shared→Prop),Inv X pins σ H s→(∀ b∈fp,FpOk X pins H b)→tn i s.heap→J.stop i H →
  wpAny (model P w) X.A (pyNext (.ref it)) (fun r s1=>r=none∧Inv X pins σ H s1) E s
 self:∀ (A:Around) (i:Nat) (s:Shared) (Q:Value→Shared→Prop) (E:Value→Shared→Prop),tn i s.heap→Q (.ref it) s→wpAny (model P w) A (pyIter (.ref it)) Q E s
abbrev TI:=St→Hp→(It→Hp→Prop)→Prop
def PIE (X:Cx) (pins:List (Addr×Obj)) (σ:St) (tg:Expr) (R:It→Hp→Prop) (itv:Value) (s2:Shared):Prop :=
 ∃ (it:Addr) (fp:List Addr) (tn:Nat→Heap→Prop) (J:It) (H':Hp),itv=.ref it∧Inv X pins σ H' s2∧Turn X.prog X.w X.K tg J fp it tn∧tn 0 s2.heap∧(∀ b∈fp,FpOk X pins H' b)∧R J H'
def PI (X:Cx) (tg iter:Expr) (wi:TI):Prop :=
 ∀ (pins:List (Addr×Obj)) (s:Shared) (σ:St) (H:Hp) (R:It→Hp→Prop),Inv X pins σ H s→wi σ H R →
  wpAny (model X.prog X.w) X.A (eval iter X.env) (fun v s1=>wpAny (model X.prog X.w) X.A (pyIter v) (PIE X pins σ tg R) X.xe s1) X.xe s
theorem Yb {M:Model}{A:Around}{E:Value→Shared→Prop}{s:Shared}{tg:Expr}{it:Addr}{u:Value}{o:Obj}{n:String}{vs:Array Value}{Q:Unit→Shared→Prop}(ho:s.heap.get? it=some o) (hc:o.cls=.type n) (hd:o.data=.fields vs)
  (hn:["enumerate", "zip", "dict_itemiterator", "dict_reverseitemiterator", "odict_iterator", "itertools.zip_longest", "itertools.pairwise"].contains n=false) (hQ:Q () s):wpAny M A (letOwnedTupleGo tg (.ref it) u) Q E s:=by
 unfold letOwnedTupleGo
 cases tg<;>first
  |exact wpAny_pure hQ
  |(cases u<;>first
    |exact wpAny_pure hQ
    |(refine wpAny_bind (wpAny_load ho ?_)
      rw[hc,hd]
      show wpAny M A (if (["enumerate", "zip", "dict_itemiterator", "dict_reverseitemiterator", "odict_iterator", "itertools.zip_longest", "itertools.pairwise"].contains n&&vs[0]? == some (rawInt _))=true then _ else _) Q E s
      rw[if_neg (by intro h;rw[hn,Bool.false_and] at h;cases h)]
      exact wpAny_pure hQ))
def Itl (K:PySem.W.Frag) (a:Addr):It :=
 ⟨fun i H=>∃ xs x,SqL K H a xs∧xs[i]?=some x,fun i H x H'=>H'=H∧∀ xs,SqL K H a xs→xs[i]?=some x,fun i H=>∃ xs,SqL K H a xs∧xs.length≤i⟩
def Itt (K:PySem.W.Frag) (a:Addr):It :=
 ⟨fun i H=>∃ xs x,SqT K H a xs∧xs[i]?=some x,fun i H x H'=>H'=H∧∀ xs,SqT K H a xs→xs[i]?=some x,fun i H=>∃ xs,SqT K H a xs∧xs.length≤i⟩
def Itr (lo:Int) (n:Nat):It:=⟨fun i _=>i<n,fun i H x H'=>H'=H∧x=.int (lo+i),fun i _=>n≤i⟩
theorem Zw {P:Program}{w:World}{K:PySem.W.Frag}{tg:Expr} (a it:Addr):Turn P w K tg (Itl K a) [it] it (fun i h=>h.IsListIter it a i) where
 mem:=by simp
 obj:=fun i h st b hb=>by
  have e:b=it:=by simpa using hb
  subst e
  obtain⟨o,e,c,d⟩:=st
  exact⟨o,e,fun v z=>by rw[d] at z;cases z⟩
 keep:=fun i h h' st k=>st.at fun o e=>k it (by simp) o e
 item:=by
  intro X hP hw hK hc i pins s σ H E I hf st hg
  subst hP hw hK
  obtain⟨xs,x,hq,hx⟩:=hg
  obtain⟨its,rv,p,hz⟩:=I.list hq
  obtain⟨u,hu,ru⟩:=rv.get hx
  obtain⟨f0,f1,f2,f3,f4,f5⟩:=hf it (by simp)
  refine wpAny_pyNext_list_item st p.isList (x:=u) (by simpa using hu) fun h' st' sb=>?_
  have I1:Inv X pins σ H { s with heap:=h' }:=I.turned (t':=s.toks) (fun b o hb e=>(sb.2 b hb).trans e) f0 f1 f3 f4 f5
  obtain⟨o,e,c,d⟩:=id st'
  exact⟨u,rfl,Yb (s:={ s with heap:=h' }) e c d (by decide) ⟨x,H,I1,ru,⟨rfl,fun ys hy=>by rw[I.list_inj hy hq];exact hx⟩,st',fun b hb=>(hf b hb).1⟩⟩
 done:=by
  intro X hP hw hK hc i pins s σ H E I hf st hg
  subst hP hw hK
  obtain⟨xs,hq,hx⟩:=hg
  obtain⟨its,rv,p,hz⟩:=I.list hq
  obtain⟨f0,f1,f2,f3,f4,f5⟩:=hf it (by simp)
  have hl:=rv.length
  exact wpAny_pyNext_list_end (I.ok.hd hc) st p.isList (by simp;omega) fun h' eb=>⟨rfl,I.turned (t':=s.toks) (fun b o hb e=>eb b o hb e) f0 f1 f3 f4 f5⟩
 self:=fun _ _ _ _ _ st h=>wpAny_pyIter_listiter st h
theorem uX {P:Program}{w:World}{K:PySem.W.Frag}{tg:Expr} (a it:Addr):Turn P w K tg (Itt K a) [it] it (fun i h=>h.IsTupleIter it a i) where
 mem:=by simp
 obj:=fun i h st b hb=>by
  have e:b=it:=by simpa using hb
  subst e
  obtain⟨o,e,c,d⟩:=st
  exact⟨o,e,fun v z=>by rw[d] at z;cases z⟩
 keep:=fun i h h' st k=>st.at fun o e=>k it (by simp) o e
 item:=by
  intro X hP hw hK hc i pins s σ H E I hf st hg
  subst hP hw hK
  obtain⟨xs,x,hq,hx⟩:=hg
  obtain⟨its,rv,p,hz⟩:=I.tuple hq
  obtain⟨u,hu,ru⟩:=rv.get hx
  obtain⟨f0,f1,f2,f3,f4,f5⟩:=hf it (by simp)
  refine wpAny_pyNext_tuple_item st (show s.heap.IsTuple a its.toArray from p) (x:=u) (by simpa using hu) fun h' st' sb=>?_
  have I1:Inv X pins σ H { s with heap:=h' }:=I.turned (t':=s.toks) (fun b o hb e=>(sb.2 b hb).trans e) f0 f1 f3 f4 f5
  obtain⟨o,e,c,d⟩:=id st'
  exact⟨u,rfl,Yb (s:={ s with heap:=h' }) e c d (by decide) ⟨x,H,I1,ru,⟨rfl,fun ys hy=>by rw[I.tuple_inj hy hq];exact hx⟩,st',fun b hb=>(hf b hb).1⟩⟩
 done:=by
  intro X hP hw hK hc i pins s σ H E I hf st hg
  subst hP hw hK
  obtain⟨xs,hq,hx⟩:=hg
  obtain⟨its,rv,p,hz⟩:=I.tuple hq
  obtain⟨f0,f1,f2,f3,f4,f5⟩:=hf it (by simp)
  have hl:=rv.length
  exact wpAny_pyNext_tuple_end (I.ok.hd hc) st (show s.heap.IsTuple a its.toArray from p) (by simp;omega) fun h' eb=>⟨rfl,I.turned (t':=s.toks) (fun b o hb e=>eb b o hb e) f0 f1 f3 f4 f5⟩
 self:=fun _ _ _ _ _ st h=>wpAny_pyIter_tupleiter st h
theorem uY {P:Program}{w:World}{K:PySem.W.Frag}{tg:Expr}(it:Addr) (lo:Int) (n:Nat):Turn P w K tg (Itr lo n) [it] it (fun i h=>IsRangeIter h it (lo+(i:Nat)*1) ((n:Int)-(i:Nat)) 1) where
 mem:=by simp
 obj:=fun i h st b hb=>by
  have e:b=it:=by simpa using hb
  subst e
  exact⟨_,st,fun v z=>by
   have z':Data.fields _=Data.cell v:=z
   cases z'⟩
 keep:=fun i h h' st k=>k it (by simp) _ st
 item:=by
  intro X hP hw hK hc i pins s σ H E I hf st hg
  subst hP hw hK
  obtain⟨f0,f1,f2,f3,f4,f5⟩:=hf it (by simp)
  have W:=Walks.range (prog:=X.prog) (w:=X.w) (I.ok.hd hc) it lo 1 n
  refine W.item i s _ _ hg st fun v h' tk hv st' kk=>?_
  obtain⟨t,rfl⟩:=hv
  have I1:Inv X pins σ H { s with heap:=h',toks:=tk }:=I.turned (fun b o hb e=>kk b o (by simpa using hb) e) f0 f1 f3 f4 f5
  refine⟨_,rfl,Yb (s:={ s with heap:=h',toks:=tk }) (n := "range_iterator") st' rfl rfl (by decide) ⟨.int (lo+i),H,I1,⟨t,?_⟩,⟨rfl,rfl⟩,st',fun b hb=>(hf b hb).1⟩⟩
  rw[Int.mul_one]
 done:=by
  intro X hP hw hK hc i pins s σ H E I hf st hg
  subst hP hw hK
  obtain⟨f0,f1,f2,f3,f4,f5⟩:=hf it (by simp)
  exact wpAny_pyNext_range_end (I.ok.hd hc) st (by have:n≤i:=hg;omega) fun h' eb=>⟨rfl,I.turned (t':=s.toks) (fun b o hb e=>eb b o hb e) f0 f1 f3 f4 f5⟩
 self:=fun _ _ _ _ _ st h=>wpAny_pyIter_rangeiter st h
section
variable {X:Cx}{tg:Expr}
def zgy (K:PySem.W.Frag) (tl:TE):TI:=fun σ H R=>tl σ H fun x H1=>∃ a,x=.ref a∧(∃ xs,SqL K H1 a xs)∧R (Itl K a) H1
def zmM (K:PySem.W.Frag) (tl:TE):TI:=fun σ H R=>tl σ H fun x H1=>∃ a,x=.ref a∧(∃ xs,SqT K H1 a xs)∧R (Itt K a) H1
theorem zw {l:Expr}{tl:TE}(hl:Bx (PE X l tl)):Bx (PI X tg l (zgy X.K tl)):=by
 have hl:=hl.of
 refine⟨?_⟩
 intro pins s σ H R I h
 refine thn (hl pins s σ H _ I h) fun v s1 hq0=>?_
 obtain⟨x,H1,I1,r1,q1⟩:=hq0
 obtain⟨a,e,⟨xs,hq⟩,q⟩:=q1
 subst e
 cases r1
 obtain⟨its,rv,p,hz⟩:=I1.list hq
 refine wpAny_pyIter_list p.isList ?_
 refine⟨s1.heap.objs.size,[s1.heap.objs.size],_,_,H1,rfl,I1.kept (t':=s1.toks) fun b o e=>Heap.get?_push_of_some _ e,Zw a _,⟨_,Heap.get?_push_size _ rfl,rfl,rfl⟩,fun b hb=>?_,q⟩
 have e:b=s1.heap.objs.size:=by simpa using hb
 subst e
 exact I1.fpOk (Nat.le_refl _) (I1.hok.fresh (Nat.le_refl _))
theorem Yv {l:Expr}{tl:TE}(hl:Bx (PE X l tl)):Bx (PI X tg l (zmM X.K tl)):=by
 have hl:=hl.of
 refine⟨?_⟩
 intro pins s σ H R I h
 refine thn (hl pins s σ H _ I h) fun v s1 hq0=>?_
 obtain⟨x,H1,I1,r1,q1⟩:=hq0
 obtain⟨a,e,⟨xs,hq⟩,q⟩:=q1
 subst e
 cases r1
 obtain⟨its,rv,p,hz⟩:=I1.tuple hq
 refine wpAny_pyIter_tuple (show s1.heap.IsTuple a its.toArray from p) ?_
 refine⟨s1.heap.objs.size,[s1.heap.objs.size],_,_,H1,rfl,I1.kept (t':=s1.toks) fun b o e=>Heap.get?_push_of_some _ e,uX a _,⟨_,Heap.get?_push_size _ rfl,rfl,rfl⟩,fun b hb=>?_,q⟩
 have e:b=s1.heap.objs.size:=by simpa using hb
 subst e
 exact I1.fpOk (Nat.le_refl _) (I1.hok.fresh (Nat.le_refl _))
theorem YK {pins:List (Addr×Obj)}{σ:St}{H:Hp}{s:Shared}{R:It→Hp→Prop}{E:Value→Shared→Prop}{lo hi:Int}{t u v:Tok}{tk:Nat}(I:Inv X pins σ H s) (h1 : -(2 ^ 62)≤lo) (h2:lo<2 ^ 62) (h3 : -(2 ^ 62)≤hi) (h4:hi<2 ^ 62)
  (q:R (Itr lo (hi-lo).toNat) H):wpAny (model X.prog X.w) X.A (pyIter (.ref s.heap.objs.size)) (PIE X pins σ tg R) E { s with heap:=s.heap.push { cls:=.type "range",data:=.fields #[.int lo t,.int hi u,.int 1 v] },toks:=tk }:=by
 refine wpAny_pyIter_range (IsRange.new ..) (small_one h1 h2 h3 h4) ?_
 have I1:Inv X pins σ H { s with heap:=s.heap.push { cls:=.type "range",data:=.fields #[.int lo t,.int hi u,.int 1 v] },toks:=tk }:=I.kept fun b o e=>Heap.get?_push_of_some _ e
 refine⟨(s.heap.push { cls:=.type "range",data:=.fields #[.int lo t,.int hi u,.int 1 v] }).objs.size,[(s.heap.push { cls:=.type "range",data:=.fields #[.int lo t,.int hi u,.int 1 v] }).objs.size],_,_,H,rfl,
  I1.kept (t':=tk) fun b o e=>Heap.get?_push_of_some _ e,uY _ lo (hi-lo).toNat,?_,fun b hb=>?_,q⟩
 ·have e1:lo+((0:Nat):Int)*1=lo:=by simp
  have e2:(((hi-lo).toNat:Nat):Int)-((0:Nat):Int)=Builtin.Range.rangeSize lo hi 1:=by rw[rangeSize_one];split<;>omega
  show IsRangeIter _ _ (lo+((0:Nat):Int)*1) ((((hi-lo).toNat:Nat):Int)-((0:Nat):Int)) 1
  rw[e1,e2]
  exact Heap.get?_push_size _ rfl
 ·have e:b=(s.heap.push { cls:=.type "range",data:=.fields #[.int lo t,.int hi u,.int 1 v] }).objs.size:=by simpa using hb
  subst e
  exact I1.fpOk (Nat.le_refl _) (I1.hok.fresh (Nat.le_refl _))
def zgx (ta:TA):TI:=fun σ H R=>ta σ H fun vs H1=>∃ j:Int,vs=[.int j]∧-(2 ^ 62)≤j∧j<2 ^ 62∧R (Itr 0 j.toNat) H1
theorem yB {a:Expr}{ta:TA}{p pos:Pos}(hg:Gl X "range") (hm:X.mg "range" = none) (ha:Bx (PA X [a] ta)) (hs:starEach [a] X.env=[(false,eval a X.env)]:=by rfl):Bx (PI X tg (.Call (.Name "range" p) [a] [] pos) (zgx ta)):=by
 have ha:=ha.of
 refine⟨?_⟩
 intro pins s σ H R I h
 refine Call_ (ld_blt I hg hm boot_range (PyProof.Rows.callWith_type1 (thn (ha pos pins s σ H _ I h) fun us s1 hq0=>?_) hs rfl))
 obtain⟨vs,H1,I1,r1,q1⟩:=hq0
 obtain⟨j,e,q1,q2,q⟩:=q1
 subst e
 cases r1 with
 |cons r rr =>
  cases rr
  obtain⟨t,rfl⟩:=r
  exact call_range_1 (YK I1 (by omega) (by omega) q1 q2 (by simpa using q))
def zlO (wi:TI) (g:TG) (tb:TS):TS:=fun D σ H=>wi σ H fun J H1=>∃ W:Nat→Nat→St→Hp→Prop,(∃ m,W 0 m σ H1)∧∀ i m σ H,W i m σ H →
 (J.stop i H∧D.nx σ H)∨(J.go i H∧∃ N:St→Hp→Prop,(∀ σ' H',N σ' H'→∃ m',m'<m∧W (i+1) m' σ' H')∧∀ x H',J.yld i H x H'→g x σ H' fun σ2 H2=>tb { D with nx:=N,ct:=N,bk:=D.nx } σ2 H2)
def vz (fp:List Addr) (h:Heap):List (Addr×Obj):=fp.filterMap fun b=>(h.get? b).map fun o=>(b,o)
theorem xc {fp:List Addr}{h:Heap}{b:Addr}{o:Obj}(hb:b∈fp) (e:h.get? b=some o):(b,o)∈vz fp h:=List.mem_filterMap.mpr ⟨b,hb,by rw[e];rfl⟩
theorem ZS {fp:List Addr}{h:Heap}{p:Addr×Obj}(hp:p∈vz fp h):p.1∈fp∧h.get? p.1=some p.2:=by
 obtain⟨b,hb,e⟩:=List.mem_filterMap.mp hp
 cases q:h.get? b with
 |none=>rw[q] at e;cases e
 |some o =>
  rw[q] at e
  have e':(b,o)=p:=Option.some.inj e
  subst e'
  exact⟨hb,q⟩
theorem Inv.pinned {pins:List (Addr×Obj)}{σ:St}{H:Hp}{s:Shared}{fp:List Addr}(I:Inv X pins σ H s) (hf:∀ b∈fp,FpOk X pins H b) (ho:∀ b∈fp,∃ o,s.heap.get? b=some o∧∀ v,o.data≠.cell v):Inv X (pins++vz fp s.heap) σ H s :=
 I.pins_of fun p hp=>(List.mem_append.mp hp).elim (fun z=>I.pin p (List.mem_append_right _ z)) fun z=>by
  obtain⟨hb,e⟩:=ZS z
  obtain⟨f0,f1,f2,_⟩:=hf p.1 hb
  obtain⟨o,e',d⟩:=ho p.1 hb
  rw[e] at e';cases e'
  exact⟨e,f0,f1,f2,d⟩
theorem Inv.unpinned {pins pl:List (Addr×Obj)}{σ:St}{H:Hp}{s:Shared}(I:Inv X (pins++pl) σ H s):Inv X pins σ H s:=I.pins_of fun p hp=>I.pin p (List.mem_append_right _ (List.mem_append_left _ hp))
theorem zE {iter:Expr}{body:List Stmt}{wi:TI}{g:TG}{tb:TS}{pos:Pos}(hp:PassesOwn (model X.prog X.w) X.A X.env X.xe) (hc:X.calm=true) (hi:Bx (PI X tg iter wi)) (hg:Bx (PG X tg g)) (hb:Bx (PSs X body tb)) (hs:∀ x,foldedSetIterable iter X.env x=pure x:=by intro _;rfl):Bx (PS X (.For tg iter body [] pos) (zlO wi g tb)):=by
 have hi:=hi.of
 have hg:=hg.of
 have hb:=hb.of
 refine⟨?_⟩
 intro pins s σ H D I h
 refine wpAny_For (thn (hi pins s σ H _ I h) fun v s1 h1=>thn h1 fun itv s2 h2=>?_) hs
 obtain⟨it,fp,tn,J,H2,e,I2,T,st2,f2,W,⟨m0,w0⟩,turn⟩:=h2
 subst e
 -- what stays true of the iterator's objects through the loop
 have stat:∀ {H':Hp},(∀ b∈fp,H' b=none)→∀ b∈fp,FpOk X pins H' b:=fun hn b hb=>⟨hn b hb,(f2 b hb).2⟩
 refine codeAny_forLoop_any (fun n s'=>∃ i σ' H',Inv X pins σ' H' s'∧tn i s'.heap∧(∀ b∈fp,H' b=none)∧W i n σ' H') ?_ m0 ⟨0,σ,H2,I2,st2,fun b hb=>(f2 b hb).1,w0⟩
 rintro n s3 ⟨i,σ3,H3,I3,st3,fr3,w3⟩
 rcases turn i n σ3 H3 w3 with⟨stop,qn⟩ | ⟨go,N,hN,step⟩
 ·refine wpAny_passesOwn hp (thn (T.done X rfl rfl rfl hc i pins s3 σ3 H3 X.xe I3 (stat fr3) st3 stop) fun r s4 ⟨hr,I4⟩=>?_)
  subst hr
  exact wpAny_execs_nil ⟨σ3,H3,I4,qn⟩
 ·refine wpAny_passesOwn hp (thn (T.item X rfl rfl rfl hc i pins s3 σ3 H3 X.xe I3 (stat fr3) st3 go) fun r s4 ⟨u,hr,h4⟩=>?_)
  subst hr
  refine wpAny_passesOwn hp (thn h4 fun _ s5 hq0=>?_)
  obtain⟨x,H5,I5,r5,y5,st5,fr5⟩:=hq0
  have I5':=I5.pinned (stat fr5) (T.obj _ _ st5)
  refine wpAny_passesOwn hp (thn (hg _ s5 σ3 H5 x u _ I5' r5 (step x H5 y5)) fun _ s6 hq0=>?_)
  obtain⟨σ6,H6,I6,q6⟩:=hq0
  refine wpAny_passesOwn hp (thn (hb _ s6 σ6 H6 _ I6 q6) fun f s7 q7=>?_)
  have again:∀ {σ7:St}{H7:Hp},Inv X (pins++vz fp s5.heap) σ7 H7 s7→N σ7 H7→∃ m,m<n∧∃ i σ' H',Inv X pins σ' H' s7∧tn i s7.heap∧(∀ b∈fp,H' b=none)∧W i m σ' H':=fun {σ7 H7} I7 n7=>by
   obtain⟨m',hm,w7⟩:=hN σ7 H7 n7
   refine⟨m',hm,i+1,σ7,H7,I7.unpinned,T.keep _ _ _ st5 fun b hb o e=>(I7.pin (b,o) (List.mem_append_right _ (List.mem_append_right _ (xc hb e)))).1,fun b hb=>?_,w7⟩
   obtain⟨o,e,d⟩:=T.obj _ _ st5 b hb
   exact(I7.pin (b,o) (List.mem_append_right _ (List.mem_append_right _ (xc hb e)))).2.1
  cases f with
  |next=>obtain⟨σ7,H7,I7,n7⟩:=q7;exact again I7 n7
  |cont=>obtain⟨σ7,H7,I7,n7⟩:=q7;exact again I7 n7
  |brk=>obtain⟨σ7,H7,I7,q7⟩:=q7;exact⟨σ7,H7,I7.unpinned,q7⟩
  |ret v=>obtain⟨x7,σ7,H7,I7,r7,q7⟩:=q7;exact⟨x7,σ7,H7,I7.unpinned,r7,q7⟩
end
theorem for_list {K:PySem.W.Frag}{a:Addr}{xs:List V}{g:TG}{tb:TS}{D:Ends}{σ:St}{H:Hp}(Pv:Nat→St→Hp→Prop) (h0:Pv 0 σ H) (hl:∀ i σ H,i≤xs.length→Pv i σ H→SqL K H a xs)
  (hs:∀ i x σ H,xs[i]?=some x→Pv i σ H→g x σ H fun σ2 H2=>tb { D with nx:=Pv (i+1),ct:=Pv (i+1),bk:=D.nx } σ2 H2) (hd:∀ σ H,Pv xs.length σ H→D.nx σ H) :
  ∃ W:Nat→Nat→St→Hp→Prop,(∃ m,W 0 m σ H)∧∀ i m σ H,W i m σ H →
   ((Itl K a).stop i H∧D.nx σ H)∨((Itl K a).go i H∧∃ N:St→Hp→Prop,(∀ σ' H',N σ' H'→∃ m',m'<m∧W (i+1) m' σ' H')∧∀ x H',(Itl K a).yld i H x H'→g x σ H' fun σ2 H2=>tb { D with nx:=N,ct:=N,bk:=D.nx } σ2 H2):=by
 refine⟨fun i m σ H=>m=xs.length-i∧i≤xs.length∧Pv i σ H,⟨xs.length,by simp,Nat.zero_le _,h0⟩,?_⟩
 rintro i m σ H ⟨rfl,hi,p⟩
 have q:=hl i σ H hi p
 by_cases hlt:i<xs.length
 ·refine .inr ⟨⟨xs,xs[i],q,by simp[hlt]⟩,Pv (i+1),fun σ' H' p'=>⟨xs.length-(i+1),by omega,rfl,hlt,p'⟩,fun x H' y=>?_⟩
  obtain⟨e,y⟩:=y
  subst e
  exact hs i x σ _ (y xs q) p
 ·have e:i=xs.length:=by omega
  subst e
  exact .inl ⟨⟨xs,q,Nat.le_refl _⟩,hd σ H p⟩
theorem for_range {lo:Int}{n:Nat}{g:TG}{tb:TS}{D:Ends}{σ:St}{H:Hp}(Pv:Nat→St→Hp→Prop) (h0:Pv 0 σ H)
  (hs:∀ i σ H,i<n→Pv i σ H→g (.int (lo+i)) σ H fun σ2 H2=>tb { D with nx:=Pv (i+1),ct:=Pv (i+1),bk:=D.nx } σ2 H2) (hd:∀ σ H,Pv n σ H→D.nx σ H) :
  ∃ W:Nat→Nat→St→Hp→Prop,(∃ m,W 0 m σ H)∧∀ i m σ H,W i m σ H →
   ((Itr lo n).stop i H∧D.nx σ H)∨((Itr lo n).go i H∧∃ N:St→Hp→Prop,(∀ σ' H',N σ' H'→∃ m',m'<m∧W (i+1) m' σ' H')∧∀ x H',(Itr lo n).yld i H x H'→g x σ H' fun σ2 H2=>tb { D with nx:=N,ct:=N,bk:=D.nx } σ2 H2):=by
 refine⟨fun i m σ H=>m=n-i∧i≤n∧Pv i σ H,⟨n,by simp,Nat.zero_le _,h0⟩,?_⟩
 rintro i m σ H ⟨rfl,hi,p⟩
 by_cases hlt:i<n
 ·refine .inr ⟨hlt,Pv (i+1),fun σ' H' p'=>⟨n-(i+1),by omega,rfl,hlt,p'⟩,fun x H' y=>?_⟩
  obtain⟨e,y⟩:=y
  subst e y
  exact hs i σ _ hlt p
 ·have e:i=n:=by omega
  subst e
  exact .inl ⟨Nat.le_refl _,hd σ H p⟩
abbrev R2:=V→V→Hp→VK→Prop
def OpR (X:Cx) (f:Value→Value→Sem Value) (r:R2):Prop :=
 ∀ (pins:List (Addr×Obj)) (s:Shared) (σ:St) (H:Hp) (x y:V) (v u:Value) (Q:VK),Inv X pins σ H s→RelV x v→RelV y u→r x y H Q →
  wpAny (model X.prog X.w) X.A (f v u) (EP X pins σ Q) X.xe s
def UnR (X:Cx) (f:Value→Sem Value) (r:V→Hp→VK→Prop):Prop :=
 ∀ (pins:List (Addr×Obj)) (s:Shared) (σ:St) (H:Hp) (x:V) (v:Value) (Q:VK),Inv X pins σ H s→RelV x v→r x H Q →
  wpAny (model X.prog X.w) X.A (f v) (EP X pins σ Q) X.xe s
def xj (X:Cx) (f:Value) (r:List V→Hp→VK→Prop):Prop :=
 ∀ (pins:List (Addr×Obj)) (s:Shared) (σ:St) (H:Hp) (xs:List V) (us:List Value) (Q:VK),Inv X pins σ H s→Vals xs us→r xs H Q →
  wpAny (model X.prog X.w) X.A (call f us) (EP X pins σ Q) X.xe s
def zmU (X:Cx) (r:V→Hp→(Bool→Hp→Prop)→Prop):Prop :=
 ∀ (pins:List (Addr×Obj)) (s:Shared) (σ:St) (H:Hp) (x:V) (v:Value) (Q:Bool→Hp→Prop),Inv X pins σ H s→RelV x v→r x H Q →
  wpAny (model X.prog X.w) X.A (truthy v) (TP X pins σ Q) X.xe s
def tOp (r:R2) (ta tb:TE):TE:=fun σ H Q=>ta σ H fun x H1=>tb σ H1 fun y H2=>r x y H2 Q
def tUn (r:V→Hp→VK→Prop) (ta:TE):TE:=fun σ H Q=>ta σ H fun x H1=>r x H1 Q
def rI (C:Int→Int→Prop) (g:Int→Int→V):R2:=fun x y H Q=>∃ i j,x=.int i∧y=.int j∧C i j∧Q (g i j) H
def rI0 (g:Int→Int→V):R2:=fun x y H Q=>∃ i j,x=.int i∧y=.int j∧Q (g i j) H
def rU (g:Int→V):V→Hp→VK→Prop:=fun x H Q=>∃ i,x=.int i∧Q (g i) H
section
variable {X:Cx}{a b c:Expr}{ta tb tc:TE}{pos:Pos}
theorem binT (ha:PE X a ta) (hb:PE X b tb){pins:List (Addr×Obj)}{s:Shared}{σ:St}{H:Hp}{R:V→V→Hp→Prop}(I:Inv X pins σ H s)
  (h:ta σ H fun x H1=>tb σ H1 fun y H2=>R x y H2){Q:Value→Shared→Prop}{f:Value→Value→Sem Value}
  (hf:∀ v u s2 x y H2,Inv X pins σ H2 s2→RelV x v→RelV y u→R x y H2→wpAny (model X.prog X.w) X.A (f v u) Q X.xe s2) :
  wpAny (model X.prog X.w) X.A (eval a X.env) (fun v s₁=>wpAny (model X.prog X.w) X.A (eval b X.env) (fun u s₂=>wpAny (model X.prog X.w) X.A (f v u) Q X.xe s₂) X.xe s₁) X.xe s:=by
 refine thn (ha pins s σ H _ I h) fun v s1 hq0=>?_
 obtain⟨x,H1,I1,r1,q1⟩:=hq0
 refine thn (hb pins s1 σ H1 _ I1 q1) fun u s2 hq0=>?_
 obtain⟨y,H2,I2,r2,q2⟩:=hq0
 exact hf v u s2 x y H2 I2 r1 r2 q2
theorem zq {op:Operator}{r:R2}(ho:OpR X (binaryOp op) r) (ha:Bx (PE X a ta)) (hb:Bx (PE X b tb)):Bx (PE X (.BinOp a op b pos) (tOp r ta tb)):=by
 have ha:=ha.of
 have hb:=hb.of
 refine⟨?_⟩
 intro pins s σ H Q I h
 exact wpAny_BinOp (binT ha hb I h fun v u s2 x y H2 I2 rx ry q=>ho pins s2 σ H2 x y v u Q I2 rx ry q)
theorem yj {op:UnaryOp}{r:V→Hp→VK→Prop}(ho:UnR X (unaryOp op) r) (ha:Bx (PE X a ta)):Bx (PE X (.UnaryOp op a pos) (tUn r ta)):=by
 have ha:=ha.of
 refine⟨?_⟩
 intro pins s σ H Q I h
 exact UnaryOp_ (thn (ha pins s σ H _ I h) fun v s1 ⟨x,H1,I1,r1,q1⟩=>ho pins s1 σ H1 x v Q I1 r1 q1)
theorem opI {f:Value→Value→Sem Value}{C:Int→Int→Prop}{g:Int→Int→Int}
  (rule:∀ (i j:Int) (t u:Tok) (s:Shared) (Q:Value→Shared→Prop) (E:Value→Shared→Prop),C i j→Q (.int (g i j) s.toks) { s with toks:=s.toks+1 }→wpAny (model X.prog X.w) X.A (f (.int i t) (.int j u)) Q E s) :
  OpR X f (rI C fun i j=>.int (g i j)):=by
 intro pins s σ H x y v u Q I rx ry h
 obtain⟨i,j,rfl,rfl,hc,q⟩:=h
 obtain⟨t,rfl⟩:=rx
 obtain⟨t',rfl⟩:=ry
 exact rule i j t t' s _ _ hc ⟨.int (g i j),H,I.tok _,⟨_,rfl⟩,q⟩
theorem zkm {f:Value→Value→Sem Value}{g:Int→Int→Int}
  (rule:∀ (i j:Int) (t u:Tok) (s:Shared) (Q:Value→Shared→Prop) (E:Value→Shared→Prop),Q (.int (g i j) s.toks) { s with toks:=s.toks+1 }→wpAny (model X.prog X.w) X.A (f (.int i t) (.int j u)) Q E s) :
  OpR X f (rI0 fun i j=>.int (g i j)):=by
 intro pins s σ H x y v u Q I rx ry h
 obtain⟨i,j,rfl,rfl,q⟩:=h
 obtain⟨t,rfl⟩:=rx
 obtain⟨t',rfl⟩:=ry
 exact rule i j t t' s _ _ ⟨.int (g i j),H,I.tok _,⟨_,rfl⟩,q⟩
theorem zbs {f:Value→Value→Sem Value}{g:Int→Int→Bool}
  (rule:∀ (i j:Int) (t u:Tok) (s:Shared) (Q:Value→Shared→Prop) (E:Value→Shared→Prop),Q (.bool (g i j)) s→wpAny (model X.prog X.w) X.A (f (.int i t) (.int j u)) Q E s) :
  OpR X f (rI0 fun i j=>.bl (g i j)):=by
 intro pins s σ H x y v u Q I rx ry h
 obtain⟨i,j,rfl,rfl,q⟩:=h
 obtain⟨t,rfl⟩:=rx
 obtain⟨t',rfl⟩:=ry
 exact rule i j t t' s _ _ ⟨.bl (g i j),H,I,rfl,q⟩
def zmW (i j:Int):Prop:=0≤j∧j≤1000000∧i.natAbs<2 ^ 64
def CMul (i j:Int):Prop:=(-(2 ^ 64)<i∧i<2 ^ 64)∨(-(2 ^ 64)<j∧j<2 ^ 64)
theorem CMul.ok {i j:Int}(h:CMul i j):IntMulOk i j:=by
 rcases h with⟨h1,h2⟩ | ⟨h1,h2⟩
 ·exact .of_left (intBits_le_64 h1 h2)
 ·exact .of_right (intBits_le_64 h1 h2)
theorem xl:OpR X (binaryOp .Add) (rI0 fun i j=>.int (i+j)):=zkm fun _ _ _ _ _ _ _ q=>add_int q
theorem wN:OpR X (binaryOp .Sub) (rI0 fun i j=>.int (i-j)):=zkm fun _ _ _ _ _ _ _ q=>sub_int q
theorem vB:OpR X (binaryOp .Mult) (rI CMul fun i j=>.int (i*j)):=opI fun _ _ _ _ _ _ _ hc q=>mul_int q hc.ok
theorem xN:OpR X (binaryOp .Mod) (rI (fun _ j=>0<j) fun i j=>.int (i%j)):=opI fun i j _ _ _ _ _ hc q=>by
 have h1:(0:Int)<j:=hc
 exact mod_int' (by omega) (by rw[Int.fmod_eq_emod_of_nonneg i (by omega)];exact q)
theorem uB:OpR X (binaryOp .Pow) (rI zmW fun i j=>.int (i ^ j.toNat)):=opI fun _ _ _ _ _ _ _ hc q=>pow_int_small hc.1 hc.2.1 hc.2.2 q
theorem unI {f:Value→Sem Value}{g:Int→Int}
  (rule:∀ (i:Int) (t:Tok) (s:Shared) (Q:Value→Shared→Prop) (E:Value→Shared→Prop),Q (.int (g i) s.toks) { s with toks:=s.toks+1 }→wpAny (model X.prog X.w) X.A (f (.int i t)) Q E s) :
  UnR X f (rU fun i=>.int (g i)):=by
 intro pins s σ H x v Q I rx h
 obtain⟨i,rfl,q⟩:=h
 obtain⟨t,rfl⟩:=rx
 exact rule i t s _ _ ⟨.int (g i),H,I.tok _,⟨_,rfl⟩,q⟩
theorem yJ:UnR X (unaryOp .USub) (rU fun i=>.int (-i)):=unI fun _ _ _ _ _ q=>neg_int q
end
def zkj:V→V→Bool
 |.non,.non=>true | .non,.int _=>true | .int _,.non=>true | .non,.bl _=>true | .bl _,.non=>true | .non,.str _=>true | .str _,.non=>true
 |.int _,.int _=>true | .bl _,.bl _=>true | .str _,.str _=>true | .byt _,.byt _=>true
 |.int _,.str _=>true | .str _,.int _=>true | .bl _,.str _=>true | .str _,.bl _=>true
 |_,_=>false
def rEq:R2:=fun x y H Q=>zkj x y=true∧Q (.bl (decide (x=y))) H
def rNe:R2:=fun x y H Q=>zkj x y=true∧Q (.bl (!decide (x=y))) H
theorem Yg {i j:Int}:decide (V.int i=V.int j)=(i == j):=by
 rw[Bool.eq_iff_iff]
 simp
theorem XI {i j:Bool}:decide (V.bl i=V.bl j)=(i == j):=by
 rw[Bool.eq_iff_iff]
 simp
theorem Yf {i j:Str}:decide (V.str i=V.str j)=(i == j):=by
 rw[Bool.eq_iff_iff]
 simp
theorem Yh {i j:Array UInt8}:decide (V.byt i=V.byt j)=(i.toList == j.toList):=by
 rw[Bool.eq_iff_iff]
 cases i
 cases j
 simp
section
variable {X:Cx}{a b c:Expr}{ta tb tc:TE}{pos:Pos}
theorem zO {pins:List (Addr×Obj)}{σ:St}{H:Hp}{s:Shared}{Q:VK}{k k':Bool}(I:Inv X pins σ H s) (q:Q (.bl k) H) (e:k=k'):EP X pins σ Q (.bool k') s:=by
 subst e
 exact⟨.bl k,H,I,rfl,q⟩
theorem xo:OpR X (compareOp .Eq) rEq:=by
 intro pins s σ H x y v u Q I rx ry h
 obtain⟨hs,q⟩:=h
 cases x with
 |non =>
  cases rx
  cases y with
  |non=>cases ry;exact PySem.EqNone.eq_none_none (zO I q (by simp))
  |bl j=>cases ry;exact PySem.EqNone.eq_none_bool (zO I q (by simp))
  |int j=>obtain⟨t',rfl⟩:=ry;exact PySem.EqNone.eq_none_int (zO I q (by simp))
  |str j=>obtain⟨t',rfl⟩:=ry;exact PySem.EqNone.eq_none_str (zO I q (by simp))
  |_=>exact absurd (show false=true from hs) Bool.false_ne_true
 |bl i =>
  cases rx
  cases y with
  |non=>cases ry;exact PySem.EqNone.eq_bool_none (zO I q (by simp))
  |bl j=>cases ry;exact eq_bool (zO I q XI)
  |str j=>obtain⟨t',rfl⟩:=ry;exact PySem.EqMixed.eq_bool_str (zO I q (by simp))
  |_=>exact absurd (show false=true from hs) Bool.false_ne_true
 |int i =>
  obtain⟨t,rfl⟩:=rx
  cases y with
  |non=>cases ry;exact PySem.EqNone.eq_int_none (zO I q (by simp))
  |int j=>obtain⟨t',rfl⟩:=ry;exact eq_int (zO I q Yg)
  |str j=>obtain⟨t',rfl⟩:=ry;exact PySem.EqMixed.eq_int_str (zO I q (by simp))
  |_=>exact absurd (show false=true from hs) Bool.false_ne_true
 |str i =>
  obtain⟨t,rfl⟩:=rx
  cases y with
  |non=>cases ry;exact PySem.EqNone.eq_str_none (zO I q (by simp))
  |bl j=>cases ry;exact PySem.EqMixed.eq_str_bool (zO I q (by simp))
  |int j=>obtain⟨t',rfl⟩:=ry;exact PySem.EqMixed.eq_str_int (zO I q (by simp))
  |str j=>obtain⟨t',rfl⟩:=ry;exact eq_str (zO I q Yf)
  |_=>exact absurd (show false=true from hs) Bool.false_ne_true
 |byt i =>
  obtain⟨t,rfl⟩:=rx
  cases y with
  |byt j=>obtain⟨t',rfl⟩:=ry;exact PySem.W.eq_bytes (zO I q Yh)
  |_=>exact absurd (show false=true from hs) Bool.false_ne_true
 |_=>cases y<;>exact absurd (show false=true from hs) Bool.false_ne_true
theorem u3:OpR X (compareOp .NotEq) rNe:=by
 intro pins s σ H x y v u Q I rx ry h
 obtain⟨hs,q⟩:=h
 cases x with
 |non =>
  cases rx
  cases y with
  |non=>cases ry;exact PySem.EqNone.ne_none_none (zO I q (by simp))
  |bl j=>cases ry;exact PySem.EqNone.ne_none_bool (zO I q (by simp))
  |int j=>obtain⟨t',rfl⟩:=ry;exact PySem.EqNone.ne_none_int (zO I q (by simp))
  |str j=>obtain⟨t',rfl⟩:=ry;exact PySem.EqNone.ne_none_str (zO I q (by simp))
  |_=>exact absurd (show false=true from hs) Bool.false_ne_true
 |bl i =>
  cases rx
  cases y with
  |non=>cases ry;exact PySem.EqNone.ne_bool_none (zO I q (by simp))
  |bl j=>cases ry;exact ne_bool (zO I q (congrArg not XI))
  |str j=>obtain⟨t',rfl⟩:=ry;exact PySem.EqMixed.ne_bool_str (zO I q (by simp))
  |_=>exact absurd (show false=true from hs) Bool.false_ne_true
 |int i =>
  obtain⟨t,rfl⟩:=rx
  cases y with
  |non=>cases ry;exact PySem.EqNone.ne_int_none (zO I q (by simp))
  |int j=>obtain⟨t',rfl⟩:=ry;exact ne_int (zO I q (congrArg not Yg))
  |str j=>obtain⟨t',rfl⟩:=ry;exact PySem.EqMixed.ne_int_str (zO I q (by simp))
  |_=>exact absurd (show false=true from hs) Bool.false_ne_true
 |str i =>
  obtain⟨t,rfl⟩:=rx
  cases y with
  |non=>cases ry;exact PySem.EqNone.ne_str_none (zO I q (by simp))
  |bl j=>cases ry;exact PySem.EqMixed.ne_str_bool (zO I q (by simp))
  |int j=>obtain⟨t',rfl⟩:=ry;exact PySem.EqMixed.ne_str_int (zO I q (by simp))
  |str j=>obtain⟨t',rfl⟩:=ry;exact ne_str (zO I q (congrArg not Yf))
  |_=>exact absurd (show false=true from hs) Bool.false_ne_true
 |byt i =>
  obtain⟨t,rfl⟩:=rx
  cases y with
  |byt j=>obtain⟨t',rfl⟩:=ry;exact PySem.W.ne_bytes (zO I q (congrArg not Yh))
  |_=>exact absurd (show false=true from hs) Bool.false_ne_true
 |_=>cases y<;>exact absurd (show false=true from hs) Bool.false_ne_true
theorem vC:OpR X (compareOp .Lt) (rI0 fun i j=>.bl (decide (i<j))):=zbs fun _ _ _ _ _ _ _ q=>lt_int q
theorem zdt:OpR X (compareOp .LtE) (rI0 fun i j=>.bl (decide (i≤j))):=zbs fun _ _ _ _ _ _ _ q=>le_int q
theorem u4:OpR X (compareOp .Gt) (rI0 fun i j=>.bl (decide (j<i))):=zbs fun _ _ _ _ _ _ _ q=>gt_int q
theorem zdu:OpR X (compareOp .GtE) (rI0 fun i j=>.bl (decide (j≤i))):=zbs fun _ _ _ _ _ _ _ q=>ge_int q
theorem wZ:OpR X (compareOp .IsNot) (fun x y H Q=>y=.non∧Q (.bl (!decide (x=.non))) H):=by
 intro pins s σ H x y v u Q I rx ry h
 obtain⟨rfl,q⟩:=h
 cases ry
 refine isnot_none_gen (zO I q ?_)
 cases x<;>first
  |(cases rx;rfl)
  |(obtain⟨t,rfl⟩:=rx;rfl)
theorem zC (b:Expr){op:CmpOp}(h:op≠.In:=by decide) (h2:op≠.NotIn:=by decide):behindInMarks op b=false:=by
 have e1:(op == CmpOp.In)=false:=by cases op<;>first | rfl | exact absurd rfl h
 have e2:(op == CmpOp.NotIn)=false:=by cases op<;>first | rfl | exact absurd rfl h2
 cases b<;>simp[behindInMarks,e1,e2]
theorem zW {op:CmpOp}{r:R2}(ho:OpR X (compareOp op) r) (ha:Bx (PE X a ta)) (hb:Bx (PE X b tb)) (hm:behindInMarks op b=false):Bx (PE X (.Compare a [op] [b] pos) (tOp r ta tb)):=by
 have ha:=ha.of
 have hb:=hb.of
 refine⟨?_⟩
 intro pins s σ H Q I h
 exact wpAny_Compare1 (binT ha hb I h fun v u s2 x y H2 I2 rx ry q=>ho pins s2 σ H2 x y v u Q I2 rx ry q) hm
def zck (t:TE):TT:=fun σ H Q=>t σ H fun x H'=>∃ k,x=.bl k∧Q k H'
theorem zl {op:CmpOp}{r:R2}(ho:OpR X (compareOp op) r) (ha:Bx (PE X a ta)) (hb:Bx (PE X b tb)) (hm:behindInMarks op b=false):Bx (PT X (.Compare a [op] [b] pos) (zck (tOp r ta tb))):=by
 have ha:=ha.of
 have hb:=hb.of
 refine⟨?_⟩
 intro pins s σ H Q I h
 refine wpAny_isTrue_Compare1 (thn (ha pins s σ H _ I h) fun v s1 ⟨x,H1,I1,r1,q1⟩=>thn (hb pins s1 σ H1 _ I1 q1) fun u s2 ⟨y,H2,I2,r2,q2⟩ =>
  thn (ho pins s2 σ H2 x y v u _ I2 r1 r2 q2) fun c s3 ⟨z,H3,I3,r3,k,e,q3⟩=>?_) hm
 subst e
 cases r3
 exact wpAny_truthy_bool ⟨H3,I3,q3⟩
def zlA (K:PySem.W.Frag) (x:V) (H:Hp) (k:Bool):Prop :=
 match x with
 |.non=>k=false
 |.bl b=>k=b
 |.int i=>k=(i != 0)
 |.str y=>y.length≤sizeLine∧k=((y.length:Int) != 0)
 |.byt y=>y.size≤sizeLine∧k=((y.size:Int) != 0)
 |.ref p=>(∃ xs,SqL K H p xs∧k=!xs.isEmpty)∨(∃ xs,SqT K H p xs∧k=!xs.isEmpty)∨∃ kvs,H p=some (.dK kvs)∧k=!kvs.isEmpty
 |_=>False
theorem Zb {κ:Type}{kvs:List (κ×V)}{vs:List (κ×Value)}(r:KV kvs vs):(!vs.isEmpty)=!kvs.isEmpty:=by
 cases r<;>rfl
theorem wP {xs:List V}{its:List Value}(r:Vals xs its):(!its.toArray.isEmpty)=!xs.isEmpty:=by
 cases r<;>simp
theorem uH:(sizeLine:Nat)<2 ^ 63:=by rw[sizeLine_eq];decide
theorem tru_ok:zmU X (fun x H Q=>∃ k,zlA X.K x H k∧Q k H):=by
 intro pins s σ H x v Q I rx h
 obtain⟨k,e,q⟩:=h
 have hl:=uH
 have hs:sizeLine=16777216:=sizeLine_eq
 cases x with
 |non =>
  cases rx
  have e':k=false:=e
  subst e'
  exact truthy_none ⟨H,I,q⟩
 |bl b =>
  cases rx
  have e':k=b:=e
  subst e'
  exact wpAny_truthy_bool ⟨H,I,q⟩
 |int i =>
  obtain⟨t,rfl⟩:=rx
  have e':k=(i != 0):=e
  subst e'
  exact PySem.P.truthy_int ⟨H,I,q⟩
 |str y =>
  obtain⟨t,rfl⟩:=rx
  obtain⟨hy,e'⟩:y.length≤sizeLine∧k=((y.length:Int) != 0):=e
  subst e'
  exact PySem.P.truthy_str (by omega) ⟨H,I.tok _,q⟩
 |byt y =>
  obtain⟨t,rfl⟩:=rx
  obtain⟨hy,e'⟩:y.size≤sizeLine∧k=((y.size:Int) != 0):=e
  subst e'
  exact PySem.W.truthy_bytes (by omega) ⟨H,I.tok _,q⟩
 |ref p =>
  cases rx
  have e':(∃ xs,SqL X.K H p xs∧k=!xs.isEmpty)∨(∃ xs,SqT X.K H p xs∧k=!xs.isEmpty)∨∃ kvs,H p=some (.dK kvs)∧k=!kvs.isEmpty:=e
  rcases e' with⟨xs,hx,e'⟩ | ⟨xs,hx,e'⟩ | ⟨kvs,hx,e'⟩
  ·subst e'
   obtain⟨its,r,pl,hz⟩:=I.list hx
   have hlen:=r.length
   exact wpAny_truthy_list pl.isList (by simp only[List.size_toArray];omega) ⟨H,I.tok _,by rw[wP r];exact q⟩
  ·subst e'
   obtain⟨its,r,pl,hz⟩:=I.tuple hx
   have hlen:=r.length
   exact truthy_tuple pl (by simp only[List.size_toArray];omega) ⟨H,I.tok _,by rw[wP r];exact q⟩
  ·subst e'
   obtain⟨hz,hS,vs,r,m⟩:kvs.length≤sizeLine∧(p == sysModules)=false∧∃ vs,KV kvs vs∧s.heap.DictOf (zB X.prog X.w) p vs:=I.hok p _ hx
   have hlen:kvs.length=vs.length:=Paired.length r
   exact wpAny_truthy_dict hS m (by omega) ⟨H,I.tok _,by rw[Zb r];exact q⟩
 |_=>exact(show False from e).elim
theorem wH (ha:Bx (PE X a ta)) (he:∀ whole,isTrue a X.env whole=(do let v ← whole;standAt a.pos;holding [v] (truthy v))):Bx (PT X a (fun σ H Q=>ta σ H fun x H'=>∃ k,zlA X.K x H' k∧Q k H')):=by
 have ha:=ha.of
 refine⟨?_⟩
 intro pins s σ H Q I h
 exact isTrue_plain (thn (ha pins s σ H _ I h) fun v s1 ⟨x,H1,I1,r1,q1⟩=>tru_ok pins s1 σ H1 x v Q I1 r1 q1) (he _)
theorem uW {x:V}{us:List Value}(r:Vals [x] us):∃ u,us=[u]∧RelV x u:=by
 cases r with
 |cons r1 r2=>cases r2;exact⟨_,rfl,r1⟩
theorem Yp:xj X (.type "int") (fun xs H Q=>(∃ i,xs=[.int i]∧Q (.int i) H)∨∃ k,xs=[.bl k]∧Q (.int (if k then 1 else 0)) H):=by
 intro pins s σ H xs us Q I r h
 rcases h with⟨i,rfl,q⟩ | ⟨k,rfl,q⟩
 ·obtain⟨u,rfl,t,rfl⟩:=uW r
  exact call_int_int ⟨.int i,H,I,⟨_,rfl⟩,q⟩
 ·obtain⟨u,rfl,r1⟩:=uW r
  cases r1
  exact call_int_bool ⟨.int (if k then 1 else 0),H,I.tok _,⟨_,rfl⟩,q⟩
end
structure ObjM (h:Heap) (x dx C:Addr) (mA:Str→Option Value):Prop where
 obj:h.get? x=some (PySem.W.instObj C dx)
 ns:h.Ns1 dx mA
 ne:dx≠x
theorem ZX {h:Heap}{dx:Addr}{mA:Str→Option Value}(n:h.Ns1 dx mA):∃ od,h.get? dx=some od∧∀ name,PySem.W.lookIn name od=some (mA name):=by
 obtain⟨o,es,ep,ho,hd,hk,_,hm⟩:=n
 refine⟨o,ho,fun name=>?_⟩
 have e:=hm name
 unfold nsFind findBy at e
 rw[← Array.find?_toList] at e
 unfold PySem.W.lookIn
 rw[hd]
 dsimp only
 split
 ·rename_i y q
  rw[q] at e
  exact congrArg some e
 ·rename_i q
  rw[q] at e
  have a:es.toList.any (·.refKey)=false:=by
   rw[List.any_eq_false]
   intro y hy
   obtain⟨z,t,hkey⟩:=hk y (Array.mem_toList_iff.mp hy)
   simp[DictEntry.refKey,hkey]
  have a':¬ es.toList.any (·.refKey)=true:=by rw[a];exact Bool.false_ne_true
  rw[if_neg a']
  exact congrArg some e
theorem ObjM.look {h:Heap}{x dx C:Addr}{mA:Str→Option Value}(I:ObjM h x dx C mA):∃ od,PySem.W.InstAt h x (PySem.W.instObj C dx) C (some od)∧∀ name,PySem.W.lookIn name od=some (mA name) :=
 let ⟨od,ho,hl⟩:=ZX I.ns
 ⟨od,⟨I.obj,rfl,rfl,ho⟩,hl⟩
section
variable {prog:Program}{w:World}{A:Around}{E:Value→Shared→Prop}{s:Shared}{K:PySem.W.Frag}{x dx C f:Addr}{mA:Str→Option Value}{name:Str}{v:Value}
theorem Vp {expr:Bool}{Q:Value→Shared→Prop}(X:K.In s.heap) (I:ObjM s.heap x dx C mA) (hg:PySem.W.plainGet K C name=true) (hh:PySem.W.hasDictIn K C=true)
  (ha:PySem.W.findIn K (.ref C) name=some none) (hv:mA name=some v) (hv':PySem.W.handedIn v=true) (h:Q v { s with toks:=s.toks+1 }) :
  wpAny (model prog w) A (getAttr (.ref x) name expr) Q E s:=by
 obtain⟨od,J,hl⟩:=I.look
 exact PySem.W.get_value X J (PySem.W.plainGet_of hg).1 (PySem.W.findObj_own hh ha rfl (by rw[hl,hv])) hv' h
theorem Xe {pl:Sem Bool}{Q:Value×List Value→Shared→Prop}(X:K.In s.heap) (I:ObjM s.heap x dx C mA) (hg:PySem.W.plainGet K C name=true)
  (hf:PySem.W.findIn K (.ref C) name=some (some (.ref f))) (ht:PySem.W.isFn K (.ref f)=true) (hv:mA name=none) (h:Q (.ref f,[.ref x]) s) :
  wpAny (model prog w) A (getMethod (.ref x) name pl) Q E s:=by
 obtain⟨od,J,hl⟩:=I.look
 exact PySem.W.method_fn X J (PySem.W.plainGet_of hg).1 (PySem.W.plainGet_of hg).2 hf (beq_iff_eq.mp ht) (by show(PySem.W.lookIn name od).map (·.isSome)=some false;rw[hl,hv];rfl) h
theorem WL {ns:List Str}{Q:Unit→Shared→Prop}(X:K.In s.heap) (I:ObjM s.heap x dx C mA)
  (hs:PySem.W.findIn K (.ref C) "__setattr__" = some (some (.builtin "object.__setattr__"))) (hp:PySem.W.plainOver K C=true) (ht:PySem.W.takerIn K C name=some none) (hh:PySem.W.hasDictIn K C=true)
  (hw:PySem.Within mA ns) (hsz:ns.length≤sizeLine)
  (h:∀ h',ObjM h' x dx C (fun y=>if y=name then some v else mA y)→Heap.SameBut dx s.heap h'→Q () { s with heap:=h',toks:=s.toks+2 }) :
  wpAny (model prog w) A (setAttr (.ref x) name v) Q E s:=by
 obtain⟨od,J,hl⟩:=I.look
 refine PySem.W.set_plain X J hs (PySem.W.osa_open (s:={ s with toks:=s.toks+1 }) (r:=none) X J hp ht fun b=>?_)
 obtain⟨cd,hc,hd'⟩:=PySem.W.any_some hh
 have hx:s.heap.get? x=some ⟨.ref C,some dx,.plain,#[]⟩:=I.obj
 refine wpAny_bind (wpAny_pure (wpAny_bind (wpAny_bind (wpAny_loadPart hx (wpAny_bind (PySem.W.Looks.here (s:={ s with toks:=s.toks+1 }) (PySem.W.looks_clsIn X hc) ?_))))))
 rw[hd']
 refine wpAny_pure (a:=some dx) (wpAny_bind (wpAny_pure (wpAny_bind ?_)))
 refine wpAny_nsSet1 (s:={ s with toks:=s.toks+1 }) I.ns fun h' hn2 hs2=>?_
 obtain⟨oD,esD,epD,hoD,hdD,hcD⟩:=hn2.count (PySem.Within.cons name v hw)
 refine wpAny_bind (wpAny_lookBehind hoD (by rw[hdD];exact pastItsLine_dict (Nat.le_trans hcD (by rw[List.length_cons];omega))) ?_)
 exact wpAny_pure (h _ ⟨(hs2.2 _ (Ne.symm I.ne)).trans I.obj,hn2,I.ne⟩ hs2)
theorem YY {R:Result→Shared→Prop}{vs:List Value}{kw:List (Str×Value)}(X:K.In s.heap) (hm:PySem.W.makesIn K C=true)
  (hi:PySem.W.findIn K (.ref C) "__init__" = some (some (.ref f))) (hf:PySem.W.typeIn K (.ref f)=some (.type "function"))
  (h:codeAny (model prog w) (A.under (.builtin "type.__call__" ⟨.ref C::vs,kw⟩)) (.call (.ref f) ⟨.ref (s.heap.objs.size+1)::vs,kw⟩) (PySem.W.InitBack (s.heap.objs.size+1) R)
   { s with heap:=(s.heap.push PySem.W.emptyDict).push (PySem.W.instObj C s.heap.objs.size) }) :
  codeAny (model prog w) A (.call (.ref C) ⟨vs,kw⟩) R s:=by
 obtain⟨hh,g,d,t,os⟩:=s
 exact PySem.W.make_core (PySem.W.makes_of X hm) (PySem.W.looks_findIn X hi) (fun self=>PySem.W.bind_fn X self hf) (.inl rfl) h
end
def vP (f:Str) (v:V):List (Str×V)→List (Str×V)
 |[]=>[(f,v)]
 |(g,x)::r=>if g=f then(g,v)::r else(g,x)::vP f v r
theorem wu (f g:Str) (v:V):∀ fs:List (Str×V),(vP f v fs).lookup g=if g=f then some v else fs.lookup g
 |[]=>by
  show List.lookup g [(f,v)]=_
  by_cases h:g=f
  ·have hb:(g == f)=true:=beq_iff_eq.mpr h
   simp only[List.lookup,hb,if_pos h]
  ·have hb:(g == f)=false:=beq_eq_false_iff_ne.mpr h
   simp only[List.lookup,hb,if_neg h]
 |(k,x)::r=>by
  have ih:=wu f g v r
  rw[show vP f v ((k,x)::r)=(if k=f then(k,v)::r else(k,x)::vP f v r) from rfl]
  by_cases hk:k=f
  ·rw[if_pos hk]
   by_cases h:g=k
   ·have hb:(g == k)=true:=beq_iff_eq.mpr h
    simp only[List.lookup,hb,if_pos (h.trans hk)]
   ·have hb:(g == k)=false:=beq_eq_false_iff_ne.mpr h
    simp only[List.lookup,hb,if_neg (fun e:g=f=>h (e.trans hk.symm))]
  ·rw[if_neg hk]
   by_cases h:g=k
   ·have hb:(g == k)=true:=beq_iff_eq.mpr h
    simp only[List.lookup,hb,if_neg (fun e:g=f=>hk (h.symm.trans e))]
   ·have hb:(g == k)=false:=beq_eq_false_iff_ne.mpr h
    simp only[List.lookup,hb]
    exact ih
theorem wy (f:Str) (v:V):∀ fs:List (Str×V),f∈(vP f v fs).map (·.1)∧∀ g,g∈fs.map (·.1)→g∈(vP f v fs).map (·.1)
 |[]=>⟨by simp[vP],fun g h=>by simp at h⟩
 |(k,x)::r=>by
  obtain⟨i1,i2⟩:=wy f v r
  rw[show vP f v ((k,x)::r)=(if k=f then(k,v)::r else(k,x)::vP f v r) from rfl]
  by_cases hk:k=f
  ·rw[if_pos hk]
   subst hk
   exact⟨by simp,fun g h=>by simpa using h⟩
  ·rw[if_neg hk]
   refine⟨?_,fun g h=>?_⟩
   ·rw[List.map_cons]
    exact List.mem_cons_of_mem _ i1
   ·rw[List.map_cons] at h ⊢
    rcases List.mem_cons.mp h with e | e
    ·exact List.mem_cons.mpr (.inl e)
    ·exact List.mem_cons_of_mem _ (i2 g e)
theorem wv (f:Str) (v:V):∀ fs:List (Str×V),(vP f v fs).length≤fs.length+1
 |[]=>by simp[vP]
 |(k,x)::r=>by
  have ih:=wv f v r
  rw[show vP f v ((k,x)::r)=(if k=f then(k,v)::r else(k,x)::vP f v r) from rfl]
  by_cases hk:k=f
  ·rw[if_pos hk,List.length_cons,List.length_cons];omega
  ·rw[if_neg hk,List.length_cons,List.length_cons];omega
theorem RelO.some_of {v:V}{o:Option Value}(r:RelO (some v) o):∃ u,o=some u∧RelV v u:=by
 cases o with
 |none=>exact(show False from r).elim
 |some u=>exact⟨u,rfl,r⟩
theorem RelO.none_of {o:Option Value}(r:RelO none o):o=none:=by
 cases o with
 |none=>rfl
 |some u=>exact(show False from r).elim
theorem Z9 {v:V}{u:Value}(r:RelV v u):PySem.W.handedIn u=true:=by
 cases v with
 |non=>cases (show u=Value.none from r);rfl
 |bl b=>cases (show u=Value.bool b from r);rfl
 |int i=>obtain⟨t,e⟩:=(show ∃ t,u=Value.int i t from r);cases e;rfl
 |str x=>obtain⟨t,e⟩:=(show ∃ t,u=Value.str x t from r);cases e;rfl
 |byt b=>obtain⟨t,e⟩:=(show ∃ t,u=Value.bytes b t from r);cases e;rfl
 |flt b=>obtain⟨t,e⟩:=(show ∃ t,u=Value.float b t from r);cases e;rfl
 |ref a=>cases (show u=Value.ref a from r);rfl
 |ty n=>cases (show u=Value.type n from r);rfl
section
variable {P:Program}{w:World}{H H':Hp}{h h':Heap}{a C dx:Addr}{fs fs':List (Str×V)}
theorem vc (hok:HOk P w H h) (e:H a=some (.ins C dx fs)):∃ mA,ObjM h a dx C mA∧(∀ f,RelO (fs.lookup f) (mA f))∧PySem.Within mA (fs.map (·.1))∧fs.length≤1000∧H dx=some (.own a):=by
 obtain⟨d,z,ne,ob,mA,n,r,q⟩:=(show ObjOk P w H h a (.ins C dx fs) from hok a _ e)
 exact⟨mA,⟨ob,n,ne⟩,r,q,z,d⟩
end
structure Cls (K:PySem.W.Frag) (C:Addr):Prop where
 pg:PySem.W.plainGet K C Str.empty=true
 hd:PySem.W.hasDictIn K C=true
 po:PySem.W.plainOver K C=true
 sa:PySem.W.findIn K (.ref C) "__setattr__" = some (some (.builtin "object.__setattr__"))
theorem Cls.get {K:PySem.W.Frag}{C:Addr}(c:Cls K C) (f:Str):PySem.W.plainGet K C f=true:=c.pg
def NoAttr (K:PySem.W.Frag) (C:Addr) (f:Str):Prop:=PySem.W.findIn K (.ref C) f=some none
theorem NoAttr.taker {K:PySem.W.Frag}{C:Addr}{f:Str}(n:NoAttr K C f):PySem.W.takerIn K C f=some none:=by
 unfold PySem.W.takerIn
 rw[show PySem.W.findIn K (.ref C) f=some none from n]
 rfl
structure Meth (K:PySem.W.Frag) (C:Addr) (m:Str) (f:Addr):Prop where
 at_:PySem.W.findIn K (.ref C) m=some (some (.ref f))
 fn:PySem.W.isFn K (.ref f)=true
 kp:PySem.W.keepIn K (.ref f)=true
section
variable {X:Cx}{pins:List (Addr×Obj)}{σ:St}{H:Hp}{s:Shared}{a C dx:Addr}{fs:List (Str×V)}{f:Str}{v:V}{A:Around}{E:Value→Shared→Prop}
theorem Zc {b:Bool}{Q:Value→Shared→Prop}(I:Inv X pins σ H s) (e:H a=some (.ins C dx fs)) (c:Cls X.K C) (n:NoAttr X.K C f) (l:fs.lookup f=some v)
  (h:∀ u s',Inv X pins σ H s'→RelV v u→Q u s'):wpAny (model X.prog X.w) A (getAttr (.ref a) f b) Q E s:=by
 obtain⟨mA,O,r,_,_,_⟩:=vc I.hok e
 obtain⟨u,hu,ru⟩:=RelO.some_of (v:=v) (o:=mA f) (by rw[← l];exact r f)
 exact Vp I.kIn O (c.get f) c.hd n hu (Z9 ru) (h u _ (I.tok _) ru)
theorem xf {m:Str}{g:Addr}{pl:Sem Bool}{Q:Value×List Value→Shared→Prop}(I:Inv X pins σ H s) (e:H a=some (.ins C dx fs)) (c:Cls X.K C) (k:Meth X.K C m g) (l:fs.lookup m=none)
  (h:Q (.ref g,[.ref a]) s):wpAny (model X.prog X.w) A (getMethod (.ref a) m pl) Q E s:=by
 obtain⟨mA,O,r,_,_,_⟩:=vc I.hok e
 have hn:mA m=none:=RelO.none_of (by rw[← l];exact r m)
 exact Xe I.kIn O (c.get m) k.at_ k.fn hn h
theorem uZ {y:V}{u:Value}{Q:Unit→Shared→Prop}(I:Inv X pins σ H s) (e:H a=some (.ins C dx fs)) (c:Cls X.K C) (n:NoAttr X.K C f) (hl:fs.length<1000) (ry:RelV y u)
  (h:∀ s',Inv X pins σ (upd H a (.ins C dx (vP f y fs))) s'→Q () s'):wpAny (model X.prog X.w) A (setAttr (.ref a) f u) Q E s:=by
 obtain⟨mA,O,r,wi,_,ho⟩:=vc I.hok e
 have hz:(fs.map (·.1)).length≤sizeLine:=by rw[List.length_map,sizeLine_eq];omega
 refine WL I.kIn O c.sa c.po n.taker c.hd wi hz fun h' O' sb=>h _ ?_
 have hd:∃ o,h'.get? dx=some o:=let ⟨o,_,_,e',_⟩:=O'.ns;⟨o,e'⟩
 refine I.write (x:=a) (e:=dx) (by rw[e];exact True.intro) (.inr ho) (fun b q hb z=>(sb.2 b hb).trans z) hd ?_
 refine⟨by rw[upd_ne O.ne];exact ho,?_,O.ne,O'.obj,_,O'.ns,fun g=>?_,fun g hg=>?_⟩
 ·have:=wv f y fs;omega
 ·show RelO ((vP f y fs).lookup g) (if g=f then some u else mA g)
  rw[wu]
  by_cases q:g=f
  ·rw[if_pos q,if_pos q];exact ry
  ·rw[if_neg q,if_neg q];exact r g
 ·by_cases q:g=f
  ·rw[q];exact(wy f y fs).1
  ·refine(wy f y fs).2 g (wi g fun z=>hg ?_)
   show(if g=f then some u else mA g)=none
   rw[if_neg q];exact z
theorem Inv.made (I:Inv X pins σ H s):Inv X pins σ (upd (upd H s.heap.objs.size (.own (s.heap.objs.size+1))) (s.heap.objs.size+1) (.ins C s.heap.objs.size []))
  { s with heap:=(s.heap.push PySem.W.emptyDict).push (PySem.W.instObj C s.heap.objs.size) }:=by
 have e1:(s.heap.push PySem.W.emptyDict).get? s.heap.objs.size=some PySem.W.emptyDict:=Heap.get?_push_size s.heap rfl
 have e2:((s.heap.push PySem.W.emptyDict).push (PySem.W.instObj C s.heap.objs.size)).get? (s.heap.objs.size+1)=some (PySem.W.instObj C s.heap.objs.size):=by
  have:=Heap.get?_push_size (s.heap.push PySem.W.emptyDict) (o:=PySem.W.instObj C s.heap.objs.size) rfl
  rwa [Heap.size_push] at this
 have e3:(s.heap.push PySem.W.emptyDict).Ns s.heap.objs.size (fun _=>none):=⟨PySem.W.emptyDict,#[],_,e1,rfl,(fun e he=>absurd he (by simp)),fun _=>rfl⟩
 have I1:=I.laid (a:=s.heap.objs.size) (o:=.own (s.heap.objs.size+1)) (h':=s.heap.push PySem.W.emptyDict) (t':=s.toks) (fun b u q=>Heap.get?_push_of_some _ q) (Nat.le_refl _) ⟨_,e1⟩
 refine I1.laid (a:=s.heap.objs.size+1) (o:=.ins C s.heap.objs.size []) (t':=s.toks) (fun b u q=>Heap.get?_push_of_some _ q) (Nat.le_of_eq (Heap.size_push _ _)) ?_
 have ne:s.heap.objs.size≠s.heap.objs.size+1:=Nat.ne_of_lt (Nat.lt_succ_self _)
 refine⟨by rw[upd_ne ne,upd_same],Nat.zero_le _,ne,e2,fun _=>none,(Heap.Ns1.of_empty e3).at fun o q=>Heap.get?_push_of_some _ q,fun _=>True.intro,fun y hy=>absurd rfl hy⟩
theorem attr_of {prog:Program}{w:World}{env:Env}{e:Expr}{f:Str}{pos:Pos}{s:Shared}{Q:Value→Shared→Prop}(hb:attributeBase e f env (eval e env)=eval e env)
  (h:wpAny (model prog w) A (eval e env) (fun o s₁=>wpAny (model prog w) A (getAttr o f true) Q E s₁) E s):wpAny (model prog w) A (eval (.Attribute e f pos) env) Q E s :=
 Attribute_any_ h (by rw[arm_eval_Attribute,hb])
end
def zlP (K:PySem.W.Frag) (ta:TE) (f:Str):TE:=fun σ H Q=>ta σ H fun x H1=>∃ a C dx fs v,x=.ref a∧H1 a=some (.ins C dx fs)∧Cls K C∧NoAttr K C f∧fs.lookup f=some v∧Q v H1
def zmz (K:PySem.W.Frag) (ta tv:TE) (f:Str):TS:=fun D σ H=>tv σ H fun y H1=>ta σ H1 fun x H2=>∃ a C dx fs,x=.ref a∧H2 a=some (.ins C dx fs)∧Cls K C∧NoAttr K C f∧fs.length<1000 ∧
 D.nx σ (upd H2 a (.ins C dx (vP f y fs)))
section
variable {X:Cx}{o e value:Expr}{f:Str}{pos pos' tpos:Pos}{ta tv:TE}
theorem yq (he:Bx (PE X e ta)) (hb:attributeBase e f X.env (eval e X.env)=eval e X.env):Bx (PE X (.Attribute e f pos) (zlP X.K ta f)):=by
 have he:=he.of
 refine⟨?_⟩
 intro pins s σ H Q I h
 refine attr_of hb (thn (he pins s σ H _ I h) fun u s1 hq0=>?_)
 obtain⟨x,H1,I1,rx,a,C,dx,fs,v,ex,ea,c,n,l,q⟩:=hq0
 subst ex
 obtain rfl:u=Value.ref a:=rx
 exact Zc I1 ea c n l fun u' s2 I2 ru=>⟨v,H1,I2,ru,q⟩
theorem xt (ha:Bx (PE X o ta)) (hv:Bx (PE X value tv)) (hs:swapsWith value (some (.Attribute o f pos')) pos.line X.env=pure false):Bx (PS X (.Assign [.Attribute o f pos'] value pos) (zmz X.K ta tv f)):=by
 have ha:=ha.of
 have hv:=hv.of
 refine⟨?_⟩
 intro pins s σ H D I h
 refine plainObj_wpAny_Assign_Attribute (thn (hv pins s σ H _ I h) fun u s1 ⟨y,H1,I1,ry,q⟩=>thn (ha pins s1 σ H1 _ I1 q) fun ov s2 hq0=>?_) hs
 obtain⟨x,H2,I2,rx,a,C,dx,fs,ex,ea,c,n,l,q2⟩:=hq0
 subst ex
 obtain rfl:ov=Value.ref a:=rx
 exact uZ I2 ea c n l ry fun s3 I3=>⟨σ,_,I3,q2⟩
theorem Vi {pl:Sem Bool}{m:Str}{apos:Pos}{args:List Expr}{pins:List (Addr×Obj)}{s:Shared}{σ:St}{H:Hp}{Q:Value→Shared→Prop}{te:TE}(he:PE X e te) (I:Inv X pins σ H s)
  (h:te σ H fun x H1=>∃ a C dx fs g,x=.ref a∧H1 a=some (.ins C dx fs)∧Cls X.K C∧Meth X.K C m g∧fs.lookup m=none ∧
   ∀ s1,Inv X pins σ H1 s1→wpAny (model X.prog X.w) X.A (callWith pos (.ref g) [.ref a] (backTo pos (starEach args X.env)) (backToKw pos (keywordEach [] X.env))) Q X.xe s1)
  (ht:eval (.Call (.Attribute e m apos) args [] pos) X.env=(do
   let ov ← eval e X.env
   standAt apos.atName
   let (f,first) ← holding [ov] (getMethod ov m pl)
   callWith pos f first (backTo pos (starEach args X.env)) (backToKw pos (keywordEach [] X.env)))) :
  wpAny (model X.prog X.w) X.A (eval (.Call (.Attribute e m apos) args [] pos) X.env) Q X.xe s:=by
 refine PySem.W.methodCall_KW (pl:=pl) (thn (he pins s σ H _ I h) fun u s1 hq0=>?_) ht
 obtain⟨x,H1,I1,rx,a,C,dx,fs,g,ex,ea,c,k,l,q⟩:=hq0
 subst ex
 obtain rfl:u=Value.ref a:=rx
 exact xf I1 ea c k l (q s1 I1)
end
section
variable {X:Cx}{pins:List (Addr×Obj)}{σ:St}{H:Hp}{s:Shared}{A:Around}{E:Value→Shared→Prop}{Q:Value→Shared→Prop}{c:Value}{b:Bool}
inductive TyOf (K:PySem.W.Frag) (H:Hp):V→Value→Prop where
 |non:TyOf K H .non (.type "NoneType")
 |bl (x:Bool):TyOf K H (.bl x) (.type "bool")
 |int (i:Int):TyOf K H (.int i) (.type "int")
 |str (x:Str):TyOf K H (.str x) (.type "str")
 |flt (x:UInt64):TyOf K H (.flt x) (.type "float")
 |lst {a:Addr}{xs:List V}(e:H a=some (.lst xs)):TyOf K H (.ref a) (.type "list")
 |frz {a:Addr}{o:Obj}{xs:List V}(e:H a=some (.frz o (.lst xs))):TyOf K H (.ref a) (.type "list")
 |tup {a:Addr}{xs:List V}(e:H a=some (.tup xs)):TyOf K H (.ref a) (.type "tuple")
 |dK {a:Addr}{kvs:List (Key×V)}(e:H a=some (.dK kvs)):TyOf K H (.ref a) (.type "dict")
 |dT {a:Addr}{kvs:List (List Key×V)}(e:H a=some (.dT kvs)):TyOf K H (.ref a) (.type "dict")
 |ins {a C dx:Addr}{fs:List (Str×V)}(e:H a=some (.ins C dx fs)) (cl:Cls K C) (ha:PySem.W.findIn K (.ref C) "__class__" = some (some (.builtin "object.__class__")))
   (hn:PySem.W.specialIn K (.builtin "object.__class__") "__get__" = some (some (.builtin "getset_descriptor.__get__"))) (htk:PySem.W.takesIn K (.builtin "object.__class__")=some true)
   (hm:PySem.W.mroIn K C (.type "object")=some true):TyOf K H (.ref a) (.ref C)
theorem Z3 {x:V}{u t:Value}(I:Inv X pins σ H s) (rx:RelV x u) (ty:TyOf X.K H x t) (e:PySem.W.kitOne X.K t c=some b) (h:∀ tk,Q (.bool b) { s with toks:=tk }) :
  wpAny (model X.prog X.w) A (call (.builtin "isinstance") [u,c]) Q E s:=by
 cases ty with
 |non=>cases (show u=Value.none from rx);exact PySem.W.kia_one PySem.W.kitx_none I.kIn True.intro e (fun z=>nomatch z) h
 |bl y=>cases (show u=Value.bool y from rx);exact PySem.W.kia_one PySem.W.kitx_bool I.kIn True.intro e (fun z=>nomatch z) h
 |int i=>obtain⟨t,q⟩:=(show ∃ t,u=Value.int i t from rx);cases q;exact PySem.W.kia_one PySem.W.kitx_int I.kIn True.intro e (fun z=>nomatch z) h
 |str y=>obtain⟨t,q⟩:=(show ∃ t,u=Value.str y t from rx);cases q;exact PySem.W.kia_one PySem.W.kitx_str I.kIn True.intro e (fun z=>nomatch z) h
 |flt y=>obtain⟨t,q⟩:=(show ∃ t,u=Value.float y t from rx);cases q;exact PySem.W.kia_one PySem.W.kitx_float I.kIn True.intro e (fun z=>nomatch z) h
 | @lst a xs ea =>
  cases (show u=Value.ref a from rx)
  obtain⟨_,_,n,_,h1⟩:=(show ObjOk X.prog X.w H s.heap a (.lst xs) from I.hok a _ ea)
  exact PySem.W.kia_one PySem.W.kitx_list I.kIn ⟨_,h1,rfl⟩ e (fun z=>nomatch z) h
 | @frz a ob xs ea =>
  cases (show u=Value.ref a from rx)
  obtain⟨_,_,_,n,_,h1⟩:=(show ObjOk X.prog X.w H s.heap a (.frz ob (.lst xs)) from I.hok a _ ea)
  exact PySem.W.kia_one PySem.W.kitx_list I.kIn ⟨_,h1,rfl⟩ e (fun z=>nomatch z) h
 | @tup a xs ea =>
  cases (show u=Value.ref a from rx)
  obtain⟨_,_,_,p⟩:=(show ObjOk X.prog X.w H s.heap a (.tup xs) from I.hok a _ ea)
  obtain⟨o,h1,h2,_⟩:=p
  exact PySem.W.kia_one PySem.W.kitx_tuple I.kIn ⟨o,h1,h2⟩ e (fun z=>nomatch z) h
 | @dK a kvs ea =>
  cases (show u=Value.ref a from rx)
  obtain⟨_,_,vs,_,p⟩:=(show ObjOk X.prog X.w H s.heap a (.dK kvs) from I.hok a _ ea)
  obtain⟨o,es,ep,h1,h2,_⟩:=p
  exact PySem.W.kia_one PySem.W.kitx_dict I.kIn ⟨o,h1,h2.1⟩ e (fun z=>nomatch z) h
 | @dT a kvs ea =>
  cases (show u=Value.ref a from rx)
  obtain⟨_,_,xs,_,o,es,ep,h1,h2,_⟩:=(show ObjOk X.prog X.w H s.heap a (.dT kvs) from I.hok a _ ea)
  exact PySem.W.kia_one PySem.W.kitx_dict I.kIn ⟨o,h1,h2.1⟩ e (fun z=>nomatch z) h
 | @ins a C dx fs ea cl ha hn htk hm =>
  cases (show u=Value.ref a from rx)
  obtain⟨mA,O,_⟩:=vc I.hok ea
  obtain⟨od,J,_⟩:=O.look
  exact PySem.W.kia_one (PySem.W.kitx_own (cl.get _) cl.hd ha hn htk hm) I.kIn J e (fun z=>nomatch z) h
end
structure Room (k:Nat) (A:Around):Prop where
 hd:A.handled=none
 dp:A.depth+3*k+5<recursionLimit
 un:A.units+16*k+200<cLine
theorem Room.mono {j k:Nat}{A:Around}(r:Room k A) (h:j≤k):Room j A:=⟨r.hd,by have:=r.dp;omega,by have:=r.un;omega⟩
theorem Room.m{j k:Nat}{A:Around}(r:Room k A)(h:j≤k:=by omega):Room j A:=r.mono h
theorem Room.deeper {k:Nat}{A:Around}(r:Room (k+1) A) (env:Env):Room k (A.deeper env) :=
 ⟨r.hd,by have:=r.dp;show A.depth+1+3*k+5<_;omega,by have:=r.un;show A.units+3+16*k+200<_;omega⟩
theorem u8 {A:Around}{C:Addr}{us:List Value}{kw:List (Str×Value)}:(A.under (.builtin "type.__call__" ⟨.ref C::us,kw⟩)).depth=A.depth+1:=by
 first | rfl | simp[Around.under,Code.weight,Code.isCreation,Code.isGuard,Code.isCaller,Code.frames,Code.isFrame,guardIds]
theorem u7 {A:Around}{C:Addr}{us:List Value}{kw:List (Str×Value)}:(A.under (.builtin "type.__call__" ⟨.ref C::us,kw⟩)).units=A.units+1:=by
 first | rfl | simp[Around.under,Code.cUnits,Code.frames,Code.isFrame]
theorem Room.make {k:Nat}{A:Around}(r:Room (k+1) A) (C:Addr) (us:List Value) (kw:List (Str×Value)):Room k (A.under (.builtin "type.__call__" ⟨.ref C::us,kw⟩)) :=
 ⟨r.hd,by have:=r.dp;rw[u8];omega,by have:=r.un;rw[u7];omega⟩
theorem Room.depth {k:Nat}{A:Around}(r:Room k A):A.depth<recursionLimit:=by have:=r.dp;omega
theorem Room.units {k:Nat}{A:Around}(r:Room k A):A.units+64<cLine:=by have:=r.un;omega
def zcp:TA:=fun _ H Q=>Q [] H
def vZ (ta:TE) (tr:TA):TA:=fun σ H Q=>ta σ H fun x H1=>tr σ H1 fun xs H2=>Q (x::xs) H2
section
variable {X:Cx}{e:Expr}{es:List Expr}{te:TE}{t:TA}{pos:Pos}
theorem za  : Bx (PA X [] zcp):=by
 exact⟨fun _ _ _ _ H Q I h=>Calls.spliced_nil ⟨[],H,I,.nil,h⟩⟩
theorem xL (ha:PE X e te) (hr:PA X es t) (hs:starEach (e::es) X.env=(false,eval e X.env)::starEach es X.env:=by rfl):PA X (e::es) (vZ te t):=by
 intro pos pins s σ H Q I h
 rw[hs]
 show wpAny _ _ (spliced ((false,eval e X.env)::backTo pos (starEach es X.env))) _ _ s
 refine Calls.spliced_cons (thn (ha pins s σ H _ I h) fun u s1 hq0=>?_)
 obtain⟨x,H1,I1,r1,q1⟩:=hq0
 exact thn (hr pos pins s1 σ H1 _ I1 q1) fun us s2 ⟨xs,H2,I2,r2,q2⟩=>⟨x::xs,H2,I2,.cons r1 r2,q2⟩
def zlE (t:TA):TE:=fun σ H Q=>t σ H fun xs H1=>xs.length≤sizeLine∧∀ p,H1 p=none→Q (.ref p) (upd H1 p (.tup xs))
def zlM (t:TA):TE:=fun σ H Q=>t σ H fun xs H1=>xs.length≤sizeLine∧∀ p,H1 p=none→Q (.ref p) (upd H1 p (.lst xs))
theorem zP {x1}(h:Bx (PA X es t)):Bx (PE X (.Tuple es x1 pos) (zlE t)):=by
 have h:=h.of
 refine⟨?_⟩
 intro pins s σ H Q I hq
 refine wpAny_Tuple_spliced (thn (h pos pins s σ H _ I hq) fun us s1 ⟨xs,H1,I1,r,z,q⟩=>⟨by rw[← r.length];exact z,?_⟩)
 have hf:H1 s1.heap.objs.size=none:=I1.hok.fresh (Nat.le_refl _)
 refine⟨.ref s1.heap.objs.size,upd H1 s1.heap.objs.size (.tup xs),I1.laid (t':=s1.toks) (fun b u e=>Heap.get?_push_of_some _ e) (Nat.le_refl _) ?_,rfl,q _ hf⟩
 exact⟨z,us,r,⟨_,Heap.get?_push_size _ rfl,rfl,_,rfl⟩⟩
theorem zA (h:Bx (PA X es t)):Bx (PE X (.List es pos) (zlM t)):=by
 have h:=h.of
 refine⟨?_⟩
 intro pins s σ H Q I hq
 refine wpAny_List_spliced (thn (h pos pins s σ H _ I hq) fun us s1 ⟨xs,H1,I1,r,z,q⟩=>⟨by rw[← r.length];exact z,?_⟩)
 have hf:H1 s1.heap.objs.size=none:=I1.hok.fresh (Nat.le_refl _)
 refine⟨.ref s1.heap.objs.size,upd H1 s1.heap.objs.size (.lst xs),I1.laid (t':=s1.toks) (fun b u e=>Heap.get?_push_of_some _ e) (Nat.le_refl _) ?_,rfl,q _ hf⟩
 exact⟨z,us,0,r,Heap.get?_push_size _ rfl⟩
end
abbrev Sp:=List V→Hp→VK→XK→Prop
abbrev CXT:=List Env→Hp→Shared→XK→Value→Shared→Prop
structure Env0 (P:Program) (w:World) (K:PySem.W.Frag) (mg:Str→Option Value) (base:Heap) (A:Around) (outer:List Env) (s:Shared) (H:Hp):Prop where
 frames:A.frames=some outer
 mod:Mod K mg base
 bs:∀ b o,base.get? b=some o→s.heap.get? b=some o∧H b=none
 bsz:base.objs.size≤s.heap.objs.size
 funs:s.heap.FunFrames base outer
 frf:∀ b∈frs outer,H b=none
 hok:HOk P w H s.heap
 bare:AllBare s.gens
def CE (outer:List Env) (P:Program) (w:World) (H:Hp) (s:Shared) (Q:VK) (u:Value) (s':Shared):Prop :=
 ∃ v H',s'.os=s.os∧AllBare s'.gens∧Un (frs outer) [] H H' s.heap s'.heap∧HOk P w H' s'.heap∧RelV v u∧Q v H'
def CR (CX:CXT) (outer:List Env) (P:Program) (w:World) (H:Hp) (s:Shared) (Q:VK) (E:XK) (r:Result) (s':Shared):Prop :=
 match r with
 |.ok (.ret u)=>CE outer P w H s Q u s'
 |.ok _=>False
 |.error e=>CX outer H s E e s'
structure FnOk (P:Program) (w:World) (K:PySem.W.Frag) (mg:Str→Option Value) (base:Heap) (CX:CXT) (k:Nat) (f:Addr) (fd:FuncData) (ps:List Str) (sp:Sp):Prop where
 len:∀ vs H Q E,sp vs H Q E→vs.length=ps.length
 run:∀ (A:Around) (outer:List Env) (s:Shared) (H:Hp) (args:Args) (us:List Value) (vs:List V) (Q:VK) (E:XK),Room k A→Env0 P w K mg base A outer s H→BindsTo s fd args (ps.zip us)→Vals vs us→sp vs H Q E →
  codeAny (model P w) A (.call (.ref f) args) (CR CX outer P w H s Q E) s
theorem FnOk.imp {P:Program}{w:World}{K:PySem.W.Frag}{mg:Str→Option Value}{base:Heap}{CX:CXT}{k:Nat}{f:Addr}{fd:FuncData}{ps:List Str}{sp sp':Sp}(F:FnOk P w K mg base CX k f fd ps sp)
  (h:∀ vs H Q E,sp' vs H Q E→sp vs H Q E):FnOk P w K mg base CX k f fd ps sp' :=
 ⟨fun vs H Q E q=>F.len vs H Q E (h _ _ _ _ q),fun A outer s H args us vs Q E hr he hb hv hs=>F.run A outer s H args us vs Q E hr he hb hv (h _ _ _ _ hs)⟩
theorem Env0.make {P:Program}{w:World}{K:PySem.W.Frag}{mg:Str→Option Value}{base:Heap}{A:Around}{outer:List Env}{s:Shared}{H:Hp}(e:Env0 P w K mg base A outer s H) (C:Addr) (us:List Value) (kw:List (Str×Value)) :
  Env0 P w K mg base (A.under (.builtin "type.__call__" ⟨.ref C::us,kw⟩)) outer s H:=⟨by first | exact e.frames | (simpa[Around.under,Code.envs,Code.isFrame,pushEnvs] using e.frames),e.mod,e.bs,e.bsz,e.funs,e.frf,e.hok,e.bare⟩
section
variable {X:Cx}{pins:List (Addr×Obj)}{σ:St}{H:Hp}{s s':Shared}
theorem Inv.env0 (I:Inv X pins σ H s):Env0 X.prog X.w X.K X.mg X.base X.A X.stack s H :=
 ⟨I.ok.frames,I.ok.mod,I.bs,Nat.le_trans I.ok.bsz I.sz,I.stack,I.stkFree,I.hok,I.bare⟩
theorem Inv.after {Q:VK}{u:Value}(I:Inv X pins σ H s) (h:CE X.stack X.prog X.w H s Q u s'):EP X pins σ Q u s':=by
 obtain⟨v,H',os,bare,un,hok,r,q⟩:=h
 obtain⟨hh,g,d,t,os'⟩:=s'
 obtain rfl:os'=s.os:=os
 exact⟨v,H',I.call (h':=hh) (g':=g) (d':=d) (t':=t) (ch:=[]) un hok bare (fun b z=>absurd z (by simp)),r,q⟩
end
def Zy (sp:Sp) (dvs:List V) (E:XK) (t:TA):TE:=fun σ H Q=>t σ H fun vs H1=>sp (vs++dvs) H1 Q E
def V8 (C:Addr) (m:Str) (sp:Sp) (dvs:List V) (E:XK) (ta:TE) (t:TA):TE:=fun σ H Q=>ta σ H fun x H1=>∃ a dx fs,x=.ref a∧H1 a=some (.ins C dx fs)∧fs.lookup m=none ∧
 t σ H1 fun vs H2=>sp (x::(vs++dvs)) H2 Q E
def V9 (C:Addr) (sp:Sp) (dvs:List V) (E:XK) (t:TA):TE:=fun σ H Q=>t σ H fun vs H1=>∀ x dx,H1 x=none→H1 dx=none→dx≠x →
 sp (.ref x::(vs++dvs)) (upd (upd H1 dx (.own x)) x (.ins C dx [])) (fun v H2=>v=.non∧Q (.ref x) H2) E
def Binds (K:PySem.W.Frag) (fd:FuncData) (ps:List Str) (ds:List Value):Prop :=
 ∀ (s:Shared) (us:List Value),K.In s.heap→(us++ds).length=ps.length→BindsTo s fd ⟨us,[]⟩ (ps.zip (us++ds))
theorem Binds.all {K:PySem.W.Frag}{fd:FuncData}{ps:List Str}(h:∀ us:List Value,us.length=ps.length→bindArgs fd ⟨us,[]⟩=pure (ps.zip us)):Binds K fd ps []:=fun s us _ hl=>by
 rw[List.append_nil] at hl ⊢
 exact .of_eq (h us hl)
def xS (CX:CXT) (X:Cx) (E:XK):Prop:=∀ (pins:List (Addr×Obj)) (σ:St) (H:Hp) (s:Shared) (e:Value) (s':Shared),Inv X pins σ H s→CX X.stack H s E e s'→X.xe e s'
section
variable {X:Cx}{CX:CXT}{k:Nat}{f C:Addr}{fd:FuncData}{ps:List Str}{sp:Sp}{dvs:List V}{ds:List Value}{E:XK}{x m:Str}{p pos apos:Pos}{e o:Expr}{es:List Expr}{ta:TE}{t:TA}
theorem uy {pins:List (Addr×Obj)}{σ:St}{H:Hp}{s:Shared}{Q:VK}{us:List Value}{vs:List V}(F:FnOk X.prog X.w X.K X.mg X.base CX k f fd ps sp) (hr:Room k X.A) (hb:Binds X.K fd ps ds) (hd:Vals dvs ds) (hx:xS CX X E)
  (I:Inv X pins σ H s) (r:Vals vs us) (h:sp (vs++dvs) H Q E):wpAny (model X.prog X.w) X.A (call (.ref f) us) (EP X pins σ Q) X.xe s:=by
 have r2:Vals (vs++dvs) (us++ds):=r.append hd
 have hl:(us++ds).length=ps.length:=by rw[← r2.length];exact F.len _ _ _ _ h
 refine wpAny_call (codeAny_mono (F.run X.A X.stack s H ⟨us,[]⟩ (us++ds) (vs++dvs) Q E hr I.env0 (hb s us I.kIn hl) r2 h) fun r s' hq=>?_)
 cases r with
 |error e=>exact hx pins σ H s e s' I hq
 |ok fl =>
  cases fl with
  |ret u=>exact I.after hq
  |next=>exact False.elim hq
  |brk=>exact False.elim hq
  |cont=>exact False.elim hq
theorem ZM (F:FnOk X.prog X.w X.K X.mg X.base CX k f fd ps sp) (hr:Room k X.A) (hg:Gl X x) (hm:X.mg x=some (.ref f)) (hk:PySem.W.keepIn X.K (.ref f)=true) (hb:Binds X.K fd ps ds) (hd:Vals dvs ds) (hx:xS CX X E)
  (ha:PA X (e::es) t) (hdb:(x == ("__debug__" : Str))=false:=by decide) (he:starEach (e::es) X.env=(false,eval e X.env)::starEach es X.env:=by rfl) (hpl:(backTo pos (starEach es X.env)).any (·.1)=false:=by rfl) :
  PE X (.Call (.Name x p) (e::es) [] pos) (Zy sp dvs E t):=by
 intro pins s σ H Q I h
 refine wpAny_Call_Name_kw (ld_glob I hg hm ?_ hdb)
 refine PySem.W.callWith_K (h₀:=X.base) I.ok.mod.kin hk (thn (ha pos pins s σ H _ I h) fun us s1 ⟨vs,H1,I1,r,q⟩=>⟨I1.kIn,?_⟩) he hpl
 exact uy F hr hb hd hx I1 r q
theorem WZ {pl:Sem Bool}(he:PE X o ta) (c:Cls X.K C) (hm:Meth X.K C m f) (F:FnOk X.prog X.w X.K X.mg X.base CX k f fd ps sp) (hr:Room k X.A) (hb:Binds X.K fd ps ds) (hd:Vals dvs ds) (hx:xS CX X E) (ha:PA X (e::es) t)
  (hst:starEach (e::es) X.env=(false,eval e X.env)::starEach es X.env:=by rfl) (hpl:(backTo pos (starEach es X.env)).any (·.1)=false:=by rfl)
  (ht:eval (.Call (.Attribute o m apos) (e::es) [] pos) X.env=(do
   let ov ← eval o X.env
   standAt apos.atName
   let (f,first) ← holding [ov] (getMethod ov m pl)
   callWith pos f first (backTo pos (starEach (e::es) X.env)) (backToKw pos (keywordEach [] X.env))):=by rfl) :
  PE X (.Call (.Attribute o m apos) (e::es) [] pos) (V8 C m sp dvs E ta t):=by
 intro pins s σ H Q I h
 refine PySem.W.methodCall_KW (pl:=pl) (thn (he pins s σ H _ I h) fun u s1 hq0=>?_) ht
 obtain⟨x,H1,I1,rx,a,dx,fs,ex,ea,l,q⟩:=hq0
 subst ex
 obtain rfl:u=Value.ref a:=rx
 refine xf I1 ea c hm l ?_
 refine PySem.W.callWith_K (first:=[.ref a]) (h₀:=X.base) I.ok.mod.kin hm.kp (thn (ha pos pins s1 σ H1 _ I1 q) fun us s2 ⟨vs,H2,I2,r,q2⟩=>⟨I2.kIn,?_⟩) hst hpl
 exact uy (us:=.ref a::us) (vs:=.ref a::vs) F hr hb hd hx I2 (.cons rfl r) q2
structure Mk (K:PySem.W.Frag) (C f:Addr):Prop where
 makes:PySem.W.makesIn K C=true
 init:PySem.W.findIn K (.ref C) "__init__" = some (some (.ref f))
 fn:PySem.W.isFn K (.ref f)=true
 kp:PySem.W.keepIn K (.ref C)=true
theorem YJ {pins:List (Addr×Obj)}{σ:St}{H:Hp}{s:Shared}{Q:VK}{us:List Value}{vs:List V}(M:Mk X.K C f) (F:FnOk X.prog X.w X.K X.mg X.base CX k f fd ps sp) (hr:Room (k+1) X.A) (hb:Binds X.K fd ps ds) (hd:Vals dvs ds)
  (hx:xS CX X E) (I:Inv X pins σ H s) (r:Vals vs us)
  (h:∀ x dx,H x=none→H dx=none→dx≠x→sp (.ref x::(vs++dvs)) (upd (upd H dx (.own x)) x (.ins C dx [])) (fun v H2=>v=.non∧Q (.ref x) H2) E) :
  wpAny (model X.prog X.w) X.A (call (.ref C) us) (EP X pins σ Q) X.xe s:=by
 have hq:=h (s.heap.objs.size+1) s.heap.objs.size (I.hok.fresh (Nat.le_succ _)) (I.hok.fresh (Nat.le_refl _)) (Nat.ne_of_lt (Nat.lt_succ_self _))
 have I2:=Inv.made (C:=C) I
 have r2:Vals (V.ref (s.heap.objs.size+1)::(vs++dvs)) (Value.ref (s.heap.objs.size+1)::(us++ds)):=.cons rfl (r.append hd)
 have hl:(Value.ref (s.heap.objs.size+1)::us++ds).length=ps.length:=by
  have e:=r2.length
  rw[F.len _ _ _ _ hq] at e
  exact e.symm
 refine wpAny_call (YY (f:=f) I.kIn M.makes M.init (beq_iff_eq.mp M.fn) (codeAny_mono (F.run _ X.stack _ _ ⟨Value.ref (s.heap.objs.size+1)::us,[]⟩ (Value.ref (s.heap.objs.size+1)::(us++ds)) _ _ E (hr.make C us [])
  (I2.env0.make C us []) (hb _ (Value.ref (s.heap.objs.size+1)::us) I2.kIn hl) r2 hq) fun r s' hq'=>?_))
 cases r with
 |error e=>exact hx pins σ _ _ e s' I2 hq'
 |ok fl =>
  cases fl with
  |ret u =>
   obtain⟨v,H',I3,rv,ev,q3⟩:=I2.after hq'
   subst ev
   exact⟨rv,⟨V.ref (s.heap.objs.size+1),H',I3,rfl,q3⟩⟩
  |next=>exact False.elim hq'
  |brk=>exact False.elim hq'
  |cont=>exact False.elim hq'
theorem W0 (M:Mk X.K C f) (F:FnOk X.prog X.w X.K X.mg X.base CX k f fd ps sp) (hr:Room (k+1) X.A) (hg:Gl X x) (hm:X.mg x=some (.ref C)) (hb:Binds X.K fd ps ds) (hd:Vals dvs ds) (hx:xS CX X E)
  (ha:PA X (e::es) t) (hdb:(x == ("__debug__" : Str))=false:=by decide) (he:starEach (e::es) X.env=(false,eval e X.env)::starEach es X.env:=by rfl) (hpl:(backTo pos (starEach es X.env)).any (·.1)=false:=by rfl) :
  PE X (.Call (.Name x p) (e::es) [] pos) (V9 C sp dvs E t):=by
 intro pins s σ H Q I h
 refine wpAny_Call_Name_kw (ld_glob I hg hm ?_ hdb)
 refine PySem.W.callWith_K (h₀:=X.base) I.ok.mod.kin M.kp (thn (ha pos pins s σ H _ I h) fun us s1 ⟨vs,H1,I1,r,q⟩=>⟨I1.kIn,?_⟩) he hpl
 exact YJ M F hr hb hd hx I1 r q
end
structure FnScope (N P:List Str) (sc:Scope):Prop where
 kind:sc.kind=.function
 co:sc.isCoroutine=false
 gen:sc.isGenerator=false
 nd:N.Nodup
 pre:N.take P.length=P
 par:∀ x∈P,sc.names.lookup x=some .local∨sc.names.lookup x=some .cell
 nofree:∀ y∈sc.names,y.2≠.free
theorem vM {kindOf:Str→Option NameKind}{x:Str}:∀ {binds:List (Str×Value)}{m:Str→Option Value},(∀ v,(x,v)∉binds)→bindL kindOf binds m x=m x
 |[],_,_=>rfl
 |(n,v)::r,m,h=>by
  unfold bindL
  rw[vM fun w hw=>h w (List.mem_cons_of_mem _ hw)]
  split
  ·have:x≠n:=by rintro rfl;exact h v List.mem_cons_self
   simp[this]
  ·rfl
theorem bindC_out {kindOf:Str→Option NameKind}{x:Str}:∀ {binds:List (Str×Value)}{m:Str→Option Value},(∀ v,(x,v)∉binds)→bindC kindOf binds m x=m x
 |[],_,_=>rfl
 |(n,v)::r,m,h=>by
  unfold bindC
  rw[bindC_out fun w hw=>h w (List.mem_cons_of_mem _ hw)]
  split
  ·rfl
  ·have:x≠n:=by rintro rfl;exact h v List.mem_cons_self
   simp[this]
theorem bindL_get {kindOf:Str→Option NameKind}{x:Str}{v:Value}:∀ {P:List Str}{vs:List Value}{i:Nat}{m:Str→Option Value},P.Nodup→P[i]?=some x→vs[i]?=some v→kindOf x=some .local →
  bindL kindOf (P.zip vs) m x=some v
 |[],_,_,_,_,h,_,_=>by simp at h
 |_::_,[],_,_,_,_,h,_=>by simp at h
 |p::P,w::vs,0,m,nd,h1,h2,hk=>by
  simp at h1 h2;subst h1;subst h2
  show bindL kindOf ((p,w)::P.zip vs) m p=_
  unfold bindL
  rw[vM fun v hv=>(List.nodup_cons.mp nd).1 (List.of_mem_zip hv).1,if_pos hk]
  simp
 |p::P,w::vs,i+1,m,nd,h1,h2,hk=>by
  show bindL kindOf ((p,w)::P.zip vs) m x=_
  unfold bindL
  exact bindL_get (i:=i) (List.nodup_cons.mp nd).2 (by simpa using h1) (by simpa using h2) hk
theorem vN {kindOf:Str→Option NameKind}{x:Str}{v:Value}:∀ {P:List Str}{vs:List Value}{i:Nat}{m:Str→Option Value},P.Nodup→P[i]?=some x→vs[i]?=some v→kindOf x≠some .local →
  bindC kindOf (P.zip vs) m x=some v
 |[],_,_,_,_,h,_,_=>by simp at h
 |_::_,[],_,_,_,_,h,_=>by simp at h
 |p::P,w::vs,0,m,nd,h1,h2,hk=>by
  simp at h1 h2;subst h1;subst h2
  show bindC kindOf ((p,w)::P.zip vs) m p=_
  unfold bindC
  rw[bindC_out fun v hv=>(List.nodup_cons.mp nd).1 (List.of_mem_zip hv).1,if_neg hk]
  simp
 |p::P,w::vs,i+1,m,nd,h1,h2,hk=>by
  show bindC kindOf ((p,w)::P.zip vs) m x=_
  unfold bindC
  exact vN (i:=i) (List.nodup_cons.mp nd).2 (by simpa using h1) (by simpa using h2) hk
def start (N:List Str) (vs:List V):St:=vs.map some++List.replicate (N.length-vs.length) none
def xR (CX:CXT) (P:Program) (w:World) (K:PySem.W.Frag) (mg:Str→Option Value) (base:Heap) (N:List Str) (qual:Str) (scope:Scope) (f:Addr) (cd:Value) (A:Around) (outer:List Env) (s:Shared) (H:Hp) (E:XK):Cx where
 prog:=P
 w:=w
 K:=K
 mg:=mg
 base:=base
 A:=A.deeper (envOfC qual scope s.heap.objs.size f cd)
 N:=N
 s₀:=s
 H₀:=H
 env:=envOfC qual scope s.heap.objs.size f cd
 outer:=outer
 stack:=envOfC qual scope s.heap.objs.size f cd::outer
 ex:=[]
 calm:=true
 fn:=fun _=>true
 pn:=[]
 xe:=fun e s'=>wpAny (model P w) (A.deeper (envOfC qual scope s.heap.objs.size f cd)) (leaving (envOfC qual scope s.heap.objs.size f cd) e) (fun _ s''=>CX outer H s E e s'') (fun e' s''=>CX outer H s E e' s'') s'
theorem uN {sc:Scope}{n:Nat}{x:Str}(h:sc.names.lookup x=some .cell):∃ c,(cellsFrom n sc.names []).lookup x=some c:=by
 have q:=PySem.W.cellsFrom_some sc.names n [] (.inl h)
 exact Option.isSome_iff_exists.mp q
theorem Z5 {CX:CXT}{P:Program}{w:World}{K:PySem.W.Frag}{mg:Str→Option Value}{base:Heap}{N ps:List Str}{qual:Str}{scope:Scope}{f:Addr}{cd:Value}{A:Around}{outer:List Env}{s s1:Shared}{H:Hp}{E:XK}{us:List Value}{vs:List V}
  (S:FnScope N ps scope) (hd:A.handled=none) (e0:Env0 P w K mg base A outer s H) (hl:vs.length=ps.length) (r:Vals vs us)
  (x:InCallC s s.heap.objs.size (bindL (envOfC qual scope s.heap.objs.size f cd).kindOf (ps.zip us) fun _=>none) (cellsFrom (s.heap.objs.size+1) scope.names []) (bindC (envOfC qual scope s.heap.objs.size f cd).kindOf (ps.zip us) fun _=>none) s1) :
  Inv (xR CX P w K mg base N qual scope f cd A outer s H E) [] (start N vs) H s1:=by
 have hpl:ps.length≤N.length:=by have:=congrArg List.length S.pre;rw[List.length_take] at this;omega
 obtain⟨h1,tk,rfl,hk⟩:=x.done
 have noA:∀ b:Addr,b∉(xR CX P w K mg base N qual scope f cd A outer s H E).ex:=fun b z=>absurd (show b∈([]:List Addr) from z) (by simp)
 refine⟨⟨e0.mod,S.kind,rfl,rfl,Nat.le_refl _,fun y z c h1 h2=>?_,fun y hy=>?_,fun y c _ h=>?_,fun _=>hd,Around.frames_deeper e0.frames,.inr ⟨rfl,rfl⟩,fun b z=>absurd z (noA b),e0.bs,e0.bsz,fun b _ _=>noA b,fun b z=>absurd z (noA b),e0.funs,e0.frf⟩,
  rfl,e0.bare,Un.kept hk,⟨_,x.toInCall.ns,fun i y v h1 h2 h3=>?_⟩,fun y c h=>⟨_,x.cell y c h⟩,e0.hok.fresh (Nat.le_refl _),fun y c h=>?_,fun p hp=>absurd (show p∈([]:List (Addr×Obj)) from hp) (by simp),e0.hok.kept hk,?_⟩
 ·exact name_of_addr x.apart (PySem.mem_of_lookup h1) (PySem.mem_of_lookup h2)
 ·have hy:scope.names.lookup y=some .cell∨scope.names.lookup y=some .free:=hy
  rcases hy with hy | hy
  ·exact uN hy
  ·exact absurd rfl (S.nofree _ (PySem.mem_of_lookup hy))
 ·exact Nat.le_of_lt (x.above y c (PySem.mem_of_lookup h))
 ·have hi:i<vs.length:=by
   unfold start at h2
   by_cases hi:i<vs.length
   ·exact hi
   ·rw[List.getElem?_append_right (by simpa using hi)] at h2
    rw[List.getElem?_replicate] at h2
    split at h2<;>cases h2
  have ha:vs[i]?=some v:=by
   unfold start at h2
   rw[List.getElem?_append_left (by simpa using hi),List.getElem?_map] at h2
   cases e:vs[i]? with
   |none=>rw[e] at h2;cases h2
   |some a=>rw[e] at h2;cases h2;rfl
  obtain⟨u,hu,rv⟩:=r.get ha
  have hp:ps[i]?=some y:=by
   rw[← S.pre,List.getElem?_take_of_lt (by omega)];exact h1
  have ndP:ps.Nodup:=by rw[← S.pre];exact S.nd.sublist (List.take_sublist _ _)
  refine⟨u,rv,?_⟩
  rcases S.par y (List.mem_of_getElem? hp) with k | k
  ·exact .inl ⟨k,bindL_get ndP hp hu k⟩
  ·obtain⟨c,e⟩:=uN (n:=s.heap.objs.size+1) k
   refine .inr ⟨.inl k,c,e,?_⟩
   have q:=x.cell y c e
   rw[vN ndP hp hu (by show scope.names.lookup y≠_;rw[k];decide)] at q
   exact q
 ·exact e0.hok.fresh (Nat.le_of_lt (x.above y c (PySem.mem_of_lookup h)))
 ·unfold start
  show _=N.length
  rw[List.length_append,List.length_map,List.length_replicate]
  omega
theorem zbh {CX:CXT}{P:Program}{w:World}{K:PySem.W.Frag}{mg:Str→Option Value}{base:Heap}{k:Nat}{f:Addr}{name qual:Str}{params:Arguments}{body:List Stmt}{scope:Scope}{dV kV doc pm cdv ct oc:Value}{an od:Option Addr}
  {osl:Array (Option Value)}{N ps:List Str}{sp:Sp}(lk:K.lookup f=some ⟨oc,od,.func (PySem.W.fnOf name qual params body scope dV kV doc pm an cdv ct),osl⟩) (hcd:PySem.W.codeIn K cdv qual=true) (S:FnScope N ps scope)
  (len:∀ vs H Q E,sp vs H Q E→vs.length=ps.length)
  (hbody:∀ (A:Around) (outer:List Env) (s:Shared) (H:Hp) (vs:List V) (Q:VK) (E:XK),Room k (A.deeper (envOfC qual scope s.heap.objs.size f cdv))→sp vs H Q E →
   ∃ t,PSs (xR CX P w K mg base N qual scope f cdv A outer s H E) body t∧t { nx:=fun _ H'=>Q .non H',rt:=Q } (start N vs) H) :
  FnOk P w K mg base CX (k+1) f (PySem.W.fnOf name qual params body scope dV kV doc pm an cdv ct) ps sp:=by
 refine⟨len,fun A outer s H args us vs Q E hr e0 hb r hsp=>?_⟩
 have hl:=len _ _ _ _ hsp
 have KX:K.In s.heap:=e0.mod.kin.keeps fun b o e=>(e0.bs b o e).1
 have lim:s.heap.NoLimit:=e0.mod.nolimit.keeps fun b o e=>(e0.bs b o e).1
 have hkind:∀ y∈ps.zip us,scope.names.lookup y.1=some .local∨(scope.names.lookup y.1=some .cell∧((cellsFrom (s.heap.objs.size+1) scope.names []).lookup y.1).isSome=true):=fun⟨n,v⟩ hy=>by
  rcases S.par n (List.of_mem_zip hy).1 with q | q
  ·exact .inl q
  ·exact .inr ⟨q,PySem.W.cellsFrom_some _ _ _ (.inl q)⟩
 refine codeAny_call_function hr.depth (KX _ _ lk) rfl S.co S.gen rfl (PySem.W.codeRec_of KX hcd) (hb _ _ _ _ ?_)
 refine wpAny_newFunctionEnv_cells S.kind hkind fun env he s1 x=>?_
 subst he
 refine⟨lim.keeps x.toInCall.keep,codeAny_func ?_⟩
 obtain⟨t,ht,hq⟩:=hbody A outer s H vs Q E (hr.deeper _) hsp
 have I:Inv (xR CX P w K mg base N qual scope f cdv A outer s H E) [] (start N vs) H s1:=Z5 S hr.hd e0 hl r x
 refine wpAny_mono (ht [] s1 (start N vs) H _ I hq) (fun fl s' hs=>?_) fun e s' hs=>hs
 have fin:∀ {σ':St}{H':Hp}{v:V}{u:Value},Inv (xR CX P w K mg base N qual scope f cdv A outer s H E) [] σ' H' s'→RelV v u→Q v H'→CE outer P w H s Q u s' :=
  fun {σ' H' v u} J rv q=>⟨v,H',J.os,J.bare,J.base,J.hok,rv,q⟩
 cases fl with
 |ret u =>
  obtain⟨v,σ',H',J,rv,q⟩:=hs
  exact fin J rv q
 |next =>
  obtain⟨σ',H',J,q⟩:=hs
  exact fin (v:=V.non) (u:=Value.none) J rfl q
 |brk =>
  obtain⟨_,_,_,q⟩:=hs
  exact False.elim q
 |cont =>
  obtain⟨_,_,_,q⟩:=hs
  exact False.elim q
section
variable {X:Cx}{x:Str}{p pos:Pos}{e:Expr}{es:List Expr}{t:TA}{id T:String}{r:List V→Hp→VK→Prop}
def tCB (r:List V→Hp→VK→Prop) (t:TA):TE:=fun σ H Q=>t σ H fun vs H1=>r vs H1 Q
theorem zi (hc:xj X (.builtin id) r) (hg:Gl X x) (hm:X.mg x=none) (hv:bootBuiltins x=some (.builtin id)) (ha:Bx (PA X (e::es) t)) (hn:x ≠ "__name__" := by decide) (hdb:(x == ("__debug__" : Str))=false:=by decide) (he:starEach (e::es) X.env=(false,eval e X.env)::starEach es X.env:=by rfl) (hpl:(backTo pos (starEach es X.env)).any (·.1)=false:=by rfl):Bx (PE X (.Call (.Name x p) (e::es) [] pos) (tCB r t)):=by
 have ha:=ha.of
 refine⟨?_⟩
 intro pins s σ H Q I h
 refine wpAny_Call_Name_kw (ld_blt I hg hm hv ?_ hn hdb)
 exact PyProof.Rows.callWith_builtin1 (thn (ha pos pins s σ H _ I h) fun us s1 ⟨vs,H1,I1,r1,q1⟩=>hc pins s1 σ H1 vs us Q I1 r1 q1) he hpl
theorem zT (hc:xj X (.type T) r) (hg:Gl X x) (hm:X.mg x=none) (hv:bootBuiltins x=some (.type T)) (ha:Bx (PA X (e::es) t)) (hn:x ≠ "__name__" := by decide) (hdb:(x == ("__debug__" : Str))=false:=by decide) (he:starEach (e::es) X.env=(false,eval e X.env)::starEach es X.env:=by rfl) (hpl:(backTo pos (starEach es X.env)).any (·.1)=false:=by rfl):Bx (PE X (.Call (.Name x p) (e::es) [] pos) (tCB r t)):=by
 have ha:=ha.of
 refine⟨?_⟩
 intro pins s σ H Q I h
 refine wpAny_Call_Name_kw (ld_blt I hg hm hv ?_ hn hdb)
 exact PyProof.Rows.callWith_type1 (thn (ha pos pins s σ H _ I h) fun us s1 ⟨vs,H1,I1,r1,q1⟩=>hc pins s1 σ H1 vs us Q I1 r1 q1) he hpl
end
end L2
namespace HT
open PySem PyProof.Rows
section
variable {prog:Program}{w:World}{A:Around}{E:Value→Shared→Prop}{s:Shared}
def sIx (n d:Nat):Option Int→Nat
 |none=>d
 |some v=>if v<0 then(v+(n:Int)).toNat else min v.toNat n
end
end HT
namespace L2
open PySem PySem.Spec PyProof.Rows
abbrev TO:=St→Hp→(Option Int→Hp→Prop)→Prop
def PO (X:Cx) (e:Option Expr) (t:TO):Prop :=
 ∀ (pins:List (Addr×Obj)) (s:Shared) (σ:St) (H:Hp) (Q:Option Int→Hp→Prop),Inv X pins σ H s→t σ H Q →
  wpAny (model X.prog X.w) X.A (evalPart e X.env) (fun u s'=>∃ o H',Inv X pins σ H' s'∧IsPart u o∧Q o H') X.xe s
def XW:TO:=fun _ H Q=>Q none H
def zcm (t:TE):TO:=fun σ H Q=>t σ H fun x H1=>∃ i,x=.int i∧Q (some i) H1
section
variable {X:Cx}{e:Expr}{te:TE}{lo hi:Option Expr}{tl th:TO}{pos p2:Pos}
theorem yf  : Bx (PO X none XW):=by
 refine⟨?_⟩
 intro pins s σ H Q I h
 rw[evalPart_none]
 exact wpAny_pure ⟨none,H,I,.none,h⟩
theorem w_po_some (h:Bx (PE X e te)):Bx (PO X (some e) (zcm te)):=by
 have h:=h.of
 refine⟨?_⟩
 intro pins s σ H Q I hw
 rw[evalPart_some]
 refine thn (h pins s σ H _ I hw) fun u s1 hq0=>?_
 obtain⟨x,H1,I1,r1,q1⟩:=hq0
 obtain⟨i,rfl,q⟩:=q1
 obtain⟨t,rfl⟩:=r1
 exact⟨some i,H1,I1,.int i t,q⟩
def SlR (X:Cx) (r:V→Option Int→Option Int→Hp→VK→Prop):Prop :=
 ∀ (pins:List (Addr×Obj)) (s:Shared) (σ:St) (H:Hp) (x:V) (v vl vu:Value) (lo hi:Option Int) (sl:Addr) (Q:VK),Inv X pins σ H s→RelV x v→s.heap.IsSliceOf sl vl vu .none→IsPart vl lo→IsPart vu hi→r x lo hi H Q →
  ∃ T id,typeLookup (.type T) "__getitem__" = pure (some (.builtin id))∧s.TypeIs v T∧wpAny (model X.prog X.w) X.A (getItem v (.ref sl)) (EP X pins σ Q) X.xe s
def tSl (r:V→Option Int→Option Int→Hp→VK→Prop) (te:TE) (tl th:TO):TE:=fun σ H Q=>te σ H fun x H1=>tl σ H1 fun l H2=>th σ H2 fun u H3=>r x l u H3 Q
theorem zV {r:V→Option Int→Option Int→Hp→VK→Prop}(hr:SlR X r) (he:Bx (PE X e te)) (hl:Bx (PO X lo tl)) (hu:Bx (PO X hi th)):Bx (PE X (.Subscript e (.Slice lo hi none p2) pos) (tSl r te tl th)):=by
 have he:=he.of
 have hl:=hl.of
 have hu:=hu.of
 refine⟨?_⟩
 intro pins s σ H Q I h
 refine Subscript_ (thn (he pins s σ H _ I h) fun v s1 hq0=>?_)
 obtain⟨x,H1,I1,r1,q1⟩:=hq0
 refine wpAny_Slice (thn (hl pins s1 σ H1 _ I1 q1) fun vl s2 ⟨l,H2,I2,pl,q2⟩=>thn (hu pins s2 σ H2 _ I2 q2) fun vu s3 hq0=>?_)
 obtain⟨u,H3,I3,pu,q3⟩:=hq0
 rw[evalPart_none]
 refine wpAny_pure ?_
 have I4:Inv X pins σ H3 { s3 with heap:=s3.heap.push { cls:=.type "slice",data:=.fields #[vl,vu,.none] } }:=I3.kept (t':=s3.toks) fun b ob q=>Heap.get?_push_of_some _ q
 obtain⟨T,id,hT,ht,hg⟩:=hr pins { s3 with heap:=s3.heap.push { cls:=.type "slice",data:=.fields #[vl,vu,.none] } } σ H3 x v vl vu l u s3.heap.objs.size Q I4 r1 (Heap.IsSliceOf.new ..) pl pu q3
 show wpAny (model X.prog X.w) X.A (subscriptTail e (.Slice lo hi none p2) v (.ref s3.heap.objs.size)) (EP X pins σ Q) X.xe { s3 with heap:=s3.heap.push { cls:=.type "slice",data:=.fields #[vl,vu,.none] } }
 exact tail_any (ops:=[.ref s3.heap.objs.size,v]) ht hT hg (by with_unfolding_all rfl)
def xF (xs:List V) (lo hi:Option Int):List V:=(xs.drop (HT.sIx xs.length 0 lo)).take (HT.sIx xs.length xs.length hi-HT.sIx xs.length 0 lo)
theorem yn (xs:List V) (lo hi:Option Int):(xF xs lo hi).length≤xs.length:=by
 unfold xF
 rw[List.length_take,List.length_drop]
 omega
end
def ixN (n:Nat) (i:Int):Option Nat:=if 0≤i then(if i<n then some i.toNat else none) else if -(n:Int)≤i then some (i+n).toNat else none
def atI {α:Type}(xs:List α) (i:Int):Option α:=(ixN xs.length i).bind fun j=>xs[j]?
theorem Vo {n:Nat}{i:Int}{j:Nat}(h:ixN n i=some j):seqIndex? i n=some j∧j<n∧-(n:Int)≤i∧i<n:=by
 unfold ixN at h
 by_cases h0:0≤i
 ·rw[if_pos h0] at h
  by_cases h1:i<n
  ·rw[if_pos h1] at h
   have e:i.toNat=j:=Option.some.inj h
   exact⟨by rw[seqIndex_of h0 h1,e],by omega,by omega,h1⟩
  ·rw[if_neg h1] at h;cases h
 ·rw[if_neg h0] at h
  by_cases h1 : -(n:Int)≤i
  ·rw[if_pos h1] at h
   have e:(i+n).toNat=j:=Option.some.inj h
   exact⟨by rw[seqIndex_neg (by omega) h1,e],by omega,h1,by omega⟩
  ·rw[if_neg h1] at h;cases h
theorem Yr {α:Type}{xs:List α}{i:Int}{v:α}(h:atI xs i=some v):∃ j,seqIndex? i xs.length=some j∧xs[j]?=some v∧j<xs.length∧-(xs.length:Int)≤i∧i<xs.length:=by
 unfold atI at h
 cases e:ixN xs.length i with
 |none=>rw[e] at h;cases h
 |some j =>
  rw[e] at h
  obtain⟨h1,h2,h3,h4⟩:=Vo e
  exact⟨j,h1,h,h2,h3,h4⟩
theorem zY {α:Type}{xs:List α}{j:Nat}{v:α}(h:xs[j]?=some v):atI xs (j:Int)=some v:=by
 have hj:j<xs.length:=(List.getElem?_eq_some_iff.mp h).1
 have e:ixN xs.length (j:Int)=some j:=by
  unfold ixN
  rw[if_pos (by omega),if_pos (by omega)];simp
 unfold atI;rw[e];exact h
def Vx (b:Expr):Prop:=∀ o i,subscripted b false o i=operate [o,i] (getItem o i)
def IxR (X:Cx) (r:R2):Prop :=
 ∀ (value slice:Expr) (pins:List (Addr×Obj)) (s:Shared) (σ:St) (H:Hp) (x y:V) (v u:Value) (Q:VK),Inv X pins σ H s→RelV x v→RelV y u→r x y H Q →
  subscripted slice false v u=operate [v,u] (getItem v u)→wpAny (model X.prog X.w) X.A (subscriptTail value slice v u) (EP X pins σ Q) X.xe s
def MtR (X:Cx) (id:String) (r:V→List V→Hp→VK→Prop):Prop :=
 ∀ (pins:List (Addr×Obj)) (s:Shared) (σ:St) (H:Hp) (x:V) (xs:List V) (v:Value) (us:List Value) (Q:VK),Inv X pins σ H s→RelV x v→Vals xs us→r x xs H Q →
  wpAny (model X.prog X.w) X.A (call (.builtin id) (v::us)) (EP X pins σ Q) X.xe s
section
variable {X:Cx}{a b:Expr}{ta tb:TE}{pos:Pos}
theorem zr {r:R2}(hr:IxR X r) (ha:Bx (PE X a ta)) (hb:Bx (PE X b tb)) (hs:Vx b):Bx (PE X (.Subscript a b pos) (tOp r ta tb)):=by
 have ha:=ha.of
 have hb:=hb.of
 refine⟨?_⟩
 intro pins s σ H Q I h
 exact Subscript_ (binT ha hb I h fun v u s2 x y H2 I2 rx ry q=>hr a b pins s2 σ H2 x y v u Q I2 rx ry q (hs _ _))
def zkl (K:PySem.W.Frag):R2:=fun x y H Q=>∃ p xs i v,x=.ref p∧y=.int i∧SqL K H p xs∧atI xs i=some v∧Q v H
def zmB (K:PySem.W.Frag):R2:=fun x y H Q=>∃ p xs i v,x=.ref p∧y=.int i∧SqT K H p xs∧atI xs i=some v∧Q v H
theorem zN:IxR X (zkl X.K):=by
 intro value slice pins s σ H x y v u Q I rx ry h hs
 obtain⟨p,xs,i,z,rfl,rfl,hq,he,q⟩:=h
 cases rx
 obtain⟨t,rfl⟩:=ry
 obtain⟨its,r,pl,hz⟩:=I.list hq
 obtain⟨j,h1,h2,h3,h4,h5⟩:=Yr he
 obtain⟨w,ew,rw'⟩:=r.get h2
 have hl:=r.length
 have hn:=uH
 have fin:EP X pins σ Q w s:=⟨z,H,I,rw',q⟩
 by_cases h0:0≤i
 ·have hj:i.toNat=j:=by
   rw[seqIndex_of h0 h5] at h1
   exact Option.some.inj h1
  exact item_listR pl.isList h0 (by omega) (by rw[hj];simpa using ew) fin hs
 ·have hj:(i+(its.toArray.size:Int)).toNat=j:=by
   rw[seqIndex_neg (by omega) h4] at h1
   rw[List.size_toArray,← hl]
   exact Option.some.inj h1
  exact subscriptTail_builtinR (x:=w) pl.isList.typeIs slot_list_getitem.lookup
   (wpAny_getItem_list_neg (Q:=fun r s'=>r=w∧EP X pins σ Q r s') pl.isList (by omega) (by rw[List.size_toArray]<;>omega) (by omega) (by rw[hj];simpa using ew) ⟨rfl,fin⟩) hs
theorem yc:IxR X (zmB X.K):=by
 intro value slice pins s σ H x y v u Q I rx ry h hs
 obtain⟨p,xs,i,z,rfl,rfl,hq,he,q⟩:=h
 cases rx
 obtain⟨t,rfl⟩:=ry
 obtain⟨its,r,pl,hz⟩:=I.tuple hq
 obtain⟨j,h1,h2,h3,h4,h5⟩:=Yr he
 obtain⟨w,ew,rw'⟩:=r.get h2
 have hl:=r.length
 have hn:=uH
 have fin:EP X pins σ Q w s:=⟨z,H,I,rw',q⟩
 exact subscriptTail_builtinR (x:=w) pl.typeIs slot_tuple_getitem.lookup
  (getItem_tuple (j:=j) (Q:=fun r s'=>r=w∧EP X pins σ Q r s') pl (by omega) (by omega) (by rw[List.size_toArray,← hl];exact h1) (by simpa using ew) ⟨rfl,fin⟩) hs
theorem vy (lo hi:Option Int) (n:Nat):(sliceBounds lo hi none n).1=((HT.sIx n 0 lo:Nat):Int)∧(sliceBounds lo hi none n).2.1=((HT.sIx n n hi:Nat):Int)∧(sliceBounds lo hi none n).2.2=1:=by
 refine⟨?_,?_,rfl⟩
 ·cases lo with
  |none=>simp[sliceBounds,HT.sIx]
  |some i =>
   simp only[sliceBounds,HT.sIx,Option.getD_none,show(1:Int)>0 by decide,if_true]
   by_cases h:i<0
   ·simp only[h,if_true]<;>omega
   ·simp only[h,if_false]<;>omega
 ·cases hi with
  |none=>simp[sliceBounds,HT.sIx]
  |some i =>
   simp only[sliceBounds,HT.sIx,Option.getD_none,show(1:Int)>0 by decide,if_true]
   by_cases h:i<0
   ·simp only[h,if_true]<;>omega
   ·simp only[h,if_false]<;>omega
theorem wX (its:List Value) (lo hi:Option Int):slicePick its.toArray lo hi none=((its.drop (HT.sIx its.length 0 lo)).take (HT.sIx its.length its.length hi-HT.sIx its.length 0 lo)).toArray:=by
 obtain⟨h1,h2,h3⟩:=vy lo hi its.toArray.size
 unfold slicePick
 rw[h1,h2,h3]
 simp only[sliceRange_one,pick_run,List.size_toArray]<;>rfl
def zmA (K:PySem.W.Frag):V→Option Int→Option Int→Hp→VK→Prop:=fun x lo hi H Q=>∃ a xs,x=.ref a∧SqL K H a xs∧∀ p,H p=none→Q (.ref p) (upd H p (.lst (xF xs lo hi)))
theorem yC:SlR X (zmA X.K):=by
 intro pins s σ H x v vl vu lo hi sl Q I rx hs pl pu h
 obtain⟨a,xs,rfl,hx,q⟩:=h
 cases rx
 obtain⟨its,r,ht,hz⟩:=I.list hx
 have hlen:=r.length
 refine⟨"list",_,slot_list_getitem.lookup,ht.isList.typeIs,?_⟩
 refine wpAny_getItem_list_slice ht.isList hs pl pu .none (by simp) ?_ (by rw[List.size_toArray]<;>omega)
 rw[wX,← hlen]
 refine⟨.ref s.heap.objs.size,_,I.laid (t':=s.toks) (o:=.lst (xF xs lo hi)) (fun b ob q=>Heap.get?_push_of_some _ q) (Nat.le_refl _) ?_,rfl,q _ (I.hok.fresh (Nat.le_refl _))⟩
 exact⟨Nat.le_trans (yn xs lo hi) hz,_,0,(r.drop (HT.sIx xs.length 0 lo)).take (HT.sIx xs.length xs.length hi-HT.sIx xs.length 0 lo),Heap.get?_push_size _ rfl⟩
def wA:V→Bool
 |.non=>true
 |.bl _=>true
 |.int _=>true
 |.str _=>true
 |_=>false
def eqV:V→V→Bool
 |.non,.non=>true
 |.bl a,.bl b=>a == b
 |.bl a,.int b=>(if a then 1 else 0) == b
 |.int a,.bl b=>a == (if b then 1 else 0)
 |.int a,.int b=>a == b
 |.str a,.str b=>a == b
 |_,_=>false
theorem eqAt_V {A:Around}{s:Shared}{y x:V}{u v:Value}(ry:RelV y u) (rx:RelV x v) (fy:wA y=true) (fx:wA x=true):SeqAt.EqAt A s u v (eqV y x):=by
 cases y with
 |non =>
  cases ry
  cases x with
  |non=>cases rx;exact SeqAt.EqAt.same _
  |bl b=>cases rx;exact SeqAt.EqAt.none_bool b
  |int b=>obtain⟨t,rfl⟩:=rx;exact SeqAt.EqAt.none_int b t
  |str b=>obtain⟨t,rfl⟩:=rx;exact SeqAt.EqAt.none_str b t
  |_=>exact absurd (show false=true from fx) Bool.false_ne_true
 |bl a =>
  cases ry
  cases x with
  |non=>cases rx;exact SeqAt.EqAt.bool_none a
  |bl b=>cases rx;exact SeqAt.EqAt.bool_bool a b
  |int b=>obtain⟨t,rfl⟩:=rx;exact SeqAt.EqAt.bool_int a b t
  |str b=>obtain⟨t,rfl⟩:=rx;exact SeqAt.EqAt.bool_str a b t
  |_=>exact absurd (show false=true from fx) Bool.false_ne_true
 |int a =>
  obtain⟨t',rfl⟩:=ry
  cases x with
  |non=>cases rx;exact SeqAt.EqAt.int_none a t'
  |bl b=>cases rx;exact SeqAt.EqAt.int_bool a t' b
  |int b=>obtain⟨t,rfl⟩:=rx;exact SeqAt.EqAt.int_int a t' b t
  |str b=>obtain⟨t,rfl⟩:=rx;exact SeqAt.EqAt.int_str a t' b t
  |_=>exact absurd (show false=true from fx) Bool.false_ne_true
 |str a =>
  obtain⟨t',rfl⟩:=ry
  cases x with
  |non=>cases rx;exact SeqAt.EqAt.str_none a t'
  |bl b=>cases rx;exact SeqAt.EqAt.str_bool a t' b
  |int b=>obtain⟨t,rfl⟩:=rx;exact SeqAt.EqAt.str_int a t' b t
  |str b=>obtain⟨t,rfl⟩:=rx;exact SeqAt.EqAt.str_str a t' b t
  |_=>exact absurd (show false=true from fx) Bool.false_ne_true
 |_=>exact absurd (show false=true from fy) Bool.false_ne_true
def eqU (x:V) (u:Value):Bool:=match u with
 |.none=>eqV .non x
 |.bool b=>eqV (.bl b) x
 |.int i _=>eqV (.int i) x
 |.str z _=>eqV (.str z) x
 |_=>false
theorem XH {x y:V}{u:Value}(r:RelV y u) (f:wA y=true):eqU x u=eqV y x:=by
 cases y with
 |non=>cases r;rfl
 |bl b=>cases r;rfl
 |int i=>obtain⟨t,rfl⟩:=r;rfl
 |str z=>obtain⟨t,rfl⟩:=r;rfl
 |_=>exact absurd (show false=true from f) Bool.false_ne_true
theorem wC {x:V}:∀ {xs:List V}{us:List Value},Vals xs us→xs.all wA=true→us.any (eqU x)=xs.any fun y=>eqV y x
 |_,_,.nil,_=>rfl
 |y::xs,u::us,.cons r t,f=>by
  rw[List.all_cons,Bool.and_eq_true] at f
  rw[List.any_cons,List.any_cons,XH r f.1,wC t f.2]
theorem xB {A:Around}{s:Shared}{x:V}{v:Value}(rx:RelV x v) (fx:wA x=true):∀ {xs:List V}{us:List Value},Vals xs us→xs.all wA=true→∀ u∈us,SeqAt.EqAt A s u v (eqU x u)
 |_,_,.nil,_=>fun u hu=>by cases hu
 |y::xs,u::us,.cons r t,f=>fun u' hu=>by
  rw[List.all_cons,Bool.and_eq_true] at f
  rcases List.mem_cons.mp hu with rfl | hu
  ·rw[XH r f.1];exact eqAt_V r rx f.1 fx
  ·exact xB rx fx t f.2 u' hu
def inV (x:V) (xs:List V):Bool:=xs.any fun y=>eqV y x
def rIn (K:PySem.W.Frag) (neg:Bool):R2:=fun x y H Q=>∃ p xs,y=.ref p∧(SqL K H p xs∨SqT K H p xs)∧wA x=true∧xs.all wA=true∧Q (.bl (if neg then !inV x xs else inV x xs)) H
theorem xA:OpR X (compareOp .In) (rIn X.K false):=by
 intro pins s σ H x y v u Q I rx ry h
 obtain⟨p,xs,rfl,hq,fx,fs,q⟩:=h
 cases ry
 rcases hq with hq | hq
 ·obtain⟨its,r,pl,hz⟩:=I.list hq
  refine SeqAt.in_listAt (eqU x) pl.isList (fun w hw=>xB rx fx r fs w (by simpa using hw)) ⟨.bl _,H,I,rfl,?_⟩
  rw[show its.toArray.any (eqU x)=its.any (eqU x) by simp,wC r fs]
  exact q
 ·obtain⟨its,r,pl,hz⟩:=I.tuple hq
  refine SeqAt.in_tupleAt (eqU x) pl (fun w hw=>xB rx fx r fs w (by simpa using hw)) ⟨.bl _,H,I,rfl,?_⟩
  rw[show its.toArray.any (eqU x)=its.any (eqU x) by simp,wC r fs]
  exact q
theorem vA:OpR X (compareOp .NotIn) (rIn X.K true):=by
 intro pins s σ H x y v u Q I rx ry h
 obtain⟨p,xs,rfl,hq,fx,fs,q⟩:=h
 cases ry
 rcases hq with hq | hq
 ·obtain⟨its,r,pl,hz⟩:=I.list hq
  refine SeqAt.notIn_listAt (eqU x) pl.isList (fun w hw=>xB rx fx r fs w (by simpa using hw)) ⟨.bl _,H,I,rfl,?_⟩
  rw[show its.toArray.any (eqU x)=its.any (eqU x) by simp,wC r fs]
  exact q
 ·obtain⟨its,r,pl,hz⟩:=I.tuple hq
  refine SeqAt.notIn_tupleAt (eqU x) pl (fun w hw=>xB rx fx r fs w (by simpa using hw)) ⟨.bl _,H,I,rfl,?_⟩
  rw[show its.toArray.any (eqU x)=its.any (eqU x) by simp,wC r fs]
  exact q
theorem zD:xj X (.builtin "len") (fun xs H Q=>∃ p ys,xs=[.ref p]∧(SqL X.K H p ys∨SqT X.K H p ys)∧Q (.int ys.length) H):=by
 intro pins s σ H xs us Q I r h
 obtain⟨p,ys,rfl,hq,q⟩:=h
 obtain⟨u,rfl,rx⟩:=uW r
 cases rx
 have hn:=uH
 rcases hq with hq | hq
 ·obtain⟨its,r',pl,hz⟩:=I.list hq
  have hlen:=r'.length
  exact Calls.call_len_list pl.isList (by simp only[List.size_toArray]<;>omega) ⟨.int ys.length,H,I.tok _,⟨s.toks+1,by rw[List.size_toArray,hlen]⟩,q⟩
 ·obtain⟨its,r',pl,hz⟩:=I.tuple hq
  have hlen:=r'.length
  exact len_tuple pl (by simp only[List.size_toArray]<;>omega) ⟨.int ys.length,H,I.tok _,⟨s.toks+1,by rw[List.size_toArray,hlen]⟩,q⟩
theorem yF:xj X (.type "list") (fun xs H Q=>∃ p ys,xs=[.ref p]∧(SqL X.K H p ys∨SqT X.K H p ys)∧∀ l,H l=none→Q (.ref l) (upd H l (.lst ys))):=by
 intro pins s σ H xs us Q I r h
 obtain⟨p,ys,rfl,hq,q⟩:=h
 obtain⟨u,rfl,rx⟩:=uW r
 cases rx
 have fin:∀ (its:List Value),Vals ys its→ys.length≤sizeLine→∀ (h':Heap) (c':Nat),(∀ b o',s.heap.get? b=some o'→h'.get? b=some o') →
   h'.get? s.heap.objs.size=some { cls:=.type "list",dict:=none,data:=.seq its.toArray c',slots:=#[] }→EP X pins σ Q (.ref s.heap.objs.size) { s with heap:=h' }:=fun its r' hz h' c' kp e =>
  ⟨.ref s.heap.objs.size,_,I.laid (t':=s.toks) kp (Nat.le_refl _) (show ObjOk X.prog X.w _ h' _ (.lst ys) from⟨hz,its,c',r',e⟩),rfl,q _ (I.hok.fresh (Nat.le_refl _))⟩
 rcases hq with hq | hq
 ·obtain⟨its,r',pl,hz⟩:=I.list hq
  have hlen:=r'.length
  obtain⟨o,ho,hc,n,hd⟩:=pl.isList
  exact call_list_seq p (.inl rfl) ho hc hd (fun h' c' kp e=>fin its r' hz h' c' kp e) (by simp only[List.size_toArray]<;>omega)
 ·obtain⟨its,r',pl,hz⟩:=I.tuple hq
  have hlen:=r'.length
  obtain⟨o,ho,hc,n,hd⟩:=pl
  exact call_list_seq p (.inr rfl) ho hc hd (fun h' c' kp e=>fin its r' hz h' c' kp e) (by simp only[List.size_toArray]<;>omega)
theorem yR:xj X (.type "tuple") (fun xs H Q=>∃ p ys,xs=[.ref p]∧((SqL X.K H p ys∧∀ l,H l=none→Q (.ref l) (upd H l (.tup ys)))∨(SqT X.K H p ys∧Q (.ref p) H))):=by
 intro pins s σ H xs us Q I r h
 obtain⟨p,ys,rfl,h⟩:=h
 obtain⟨u,rfl,rx⟩:=uW r
 cases rx
 rcases h with⟨hq,q⟩ | ⟨hq,q⟩
 ·obtain⟨its,r',pl,hz⟩:=I.list hq
  have hlen:=r'.length
  refine call_tuple_list pl.isList (fun h' kp=>?_) (by simp only[List.size_toArray]<;>omega)
  have I1:Inv X pins σ H { s with heap:=h' }:=I.kept (t':=s.toks) kp
  have I2:Inv X pins σ (upd H h'.objs.size (.tup ys)) { s with heap:=h'.push { cls:=.type "tuple",data:=.seq its.toArray } } :=
   I1.laid (t':=s.toks) (fun b o e=>Heap.get?_push_of_some _ e) (Nat.le_refl _) (show ObjOk X.prog X.w _ _ _ (.tup ys) from⟨hz,its,r',IsTup.new _ _⟩)
  exact⟨.ref h'.objs.size,_,I2,rfl,q _ (I1.hok.fresh (Nat.le_refl _))⟩
 ·obtain⟨its,r',pl,hz⟩:=I.tuple hq
  exact call_tuple_same pl ⟨.ref p,H,I,rfl,q⟩
def tyV (K:PySem.W.Frag) (T:String) (x:V) (H:Hp):Prop:=match x with
 |.str _=>T = "str"
 |.int _=>T = "int"
 |.ref p=>(T = "list" ∧ ∃ xs,SqL K H p xs)∨(T = "tuple" ∧ ∃ o,K.lookup p=some o∧o.cls=.type "tuple" ∧ o.dict=none) ∨
   (T = "dict" ∧ ((∃ kvs,H p=some (.dK kvs))∨∃ kvs,H p=some (.dT kvs)))∨(T = "set" ∧ ∃ S n,H p=some (.set S n))
 |_=>False
theorem V1 {pins:List (Addr×Obj)}{σ:St}{H:Hp}{s:Shared}{T:String}{x:V}{v:Value}(I:Inv X pins σ H s) (r:RelV x v) (ty:tyV X.K T x H) :
  s.TypeIs v T∧∀ a,v=.ref a→∃ ob,s.heap.get? a=some ob∧ob.dict=none:=by
 cases x with
 |str z =>
  obtain⟨t,rfl⟩:=r
  cases (show T = "str" from ty)
  exact⟨typeIs_str s z t,fun _ e=>nomatch e⟩
 |int i =>
  obtain⟨t,rfl⟩:=r
  cases (show T = "int" from ty)
  exact⟨typeIs_int s i t,fun _ e=>nomatch e⟩
 |ref p =>
  cases r
  rcases ty with⟨rfl,xs,hq⟩ | ⟨rfl,o,hk,hc,hd⟩ | ⟨rfl,hk⟩ | ⟨rfl,S,n,hk⟩
  ·obtain⟨its,_,pl,_⟩:=I.list hq
   refine⟨pl.isList.typeIs,fun a e=>?_⟩
   cases e
   obtain⟨o,n,e,c,hd,_⟩:=pl
   exact⟨o,e,hd⟩
  ·refine⟨⟨o,I.kIn p o hk,hc⟩,fun a e=>?_⟩
   cases e
   exact⟨o,I.kIn _ o hk,hd⟩
  ·have z:∃ o,s.heap.get? p=some o∧o.ExactDict:=by
    rcases hk with⟨kvs,hk⟩ | ⟨kvs,hk⟩
    ·obtain⟨_,_,_,_,o,_,_,e,ex,_⟩:=I.hok p _ hk
     exact⟨o,e,ex⟩
    ·obtain⟨_,_,_,_,o,_,_,e,ex,_⟩:=I.hok p _ hk
     exact⟨o,e,ex⟩
   obtain⟨o,e,ex⟩:=z
   refine⟨⟨o,e,ex.1⟩,fun a e2=>?_⟩
   cases e2
   exact⟨o,e,ex.2.1⟩
  ·obtain⟨o,_,_,_,e,ex,_⟩:=I.hok p _ hk
   refine⟨⟨o,e,ex.1⟩,fun a e2=>?_⟩
   cases e2
   exact⟨o,e,ex.2.1⟩
 |_=>exact False.elim ty
def tBM (K:PySem.W.Frag) (T:String) (r:V→List V→Hp→VK→Prop) (to:TE) (t:TA):TE:=fun σ H Q=>to σ H fun x H1=>tyV K T x H1∧t σ H1 fun xs H2=>r x xs H2 Q
variable {o e:Expr}{es:List Expr}{to:TE}{t:TA}{name:Str}{apos cpos:Pos}{T id:String}{r:V→List V→Hp→VK→Prop}
theorem zdr (pa:PlainAttrs T) (slot:Slot T name id) (hty:typeOf (.builtin id)=pure (.type "method_descriptor")) (hm:MtR X id r) (ho:PE X o to) (ha:PA X (e::es) t)
  (hbase:attributeBase o name X.env (eval o X.env)=eval o X.env:=by rfl)
  (hfew:((backTo cpos (starEach (e::es) X.env)).all (fun x=>!x.1)&&(backToKw cpos (keywordEach [] X.env)).all (fun x=>x.1.isSome)
   && decide ((e::es).length+([]:List Keyword).length+(if ([]:List Keyword).isEmpty then 0 else 1)<30))=true:=by rfl)
  (hline:(apos.endLine == cpos.line)=true:=by rfl) (hs:starEach (e::es) X.env=(false,eval e X.env)::starEach es X.env:=by rfl) (hplain:(backTo cpos (starEach es X.env)).any (·.1)=false:=by rfl) :
  PE X (.Call (.Attribute o name apos) (e::es) [] cpos) (tBM X.K T r to t):=by
 intro pins s σ H Q I h
 refine wpAny_Call_method_late hbase hfew hline rfl (thn (ho pins s σ H _ I h) fun v s1 hq0=>?_)
 obtain⟨x,H1,I1,r1,ty,q1⟩:=hq0
 obtain⟨h1,h2⟩:=V1 I1 r1 ty
 refine⟨T,id,pa,slot,hty,h1,h2,?_⟩
 have hA:=ha cpos pins s1 σ H1 _ I1 q1
 rw[hs] at hA ⊢
 refine Calls.callWith_builtin (by show(false||(backTo cpos (starEach es X.env)).any (·.1))=false;rw[hplain]<;>rfl) (Calls.evalArgs_plain ?_)
 exact thn hA fun us s2 ⟨vs,H2,I2,r2,q2⟩=>hm pins s2 σ H2 x vs v us Q I2 r1 r2 q2
end
def MtM (X:Cx) (id:String) (r:V→List V→Hp→VK→Prop):Prop :=
 ∀ (pins:List (Addr×Obj)) (s:Shared) (σ:St) (H:Hp) (x:V) (xs:List V) (v:Value) (us:List Value) (Q:VK),Inv X pins σ H s→RelV x v→Vals xs us→r x xs H Q →
  wpAny (model X.prog X.w) X.A (call (.builtin id) (v::us)) (EP X pins σ Q) X.xe s
theorem Vals.one:∀ {x:V}{us:List Value},Vals [x] us→∃ u,us=[u]∧RelV x u
 |_,_,.cons r .nil=>⟨_,rfl,r⟩
theorem Vals.two:∀ {x y:V}{us:List Value},Vals [x,y] us→∃ u v,us=[u,v]∧RelV x u∧RelV y v
 |_,_,_,.cons r (.cons q .nil)=>⟨_,_,rfl,r,q⟩
theorem Vals.eraseIdx:∀ {xs:List V}{us:List Value}(i:Nat),Vals xs us→Vals (xs.eraseIdx i) (us.eraseIdx i)
 |_,_,_,.nil=>.nil
 |_,_,0,.cons _ t=>t
 |_,_,i+1,.cons r t=>.cons r (Vals.eraseIdx i t)
theorem Vals.reverse {xs:List V}{us:List Value}(h:Vals xs us):Vals xs.reverse us.reverse:=by
 induction h with
 |nil=>exact .nil
 |cons r t ih=>rw[List.reverse_cons,List.reverse_cons];exact Vals.append ih (.cons r .nil)
theorem vE {α:Type}:∀ (l:List α) (i:Nat),(l.eraseIdx i).length≤l.length
 |[],_=>Nat.le_refl _
 |_::_,0=>Nat.le_succ _
 |_::r,i+1=>Nat.succ_le_succ (vE r i)
section
variable {X:Cx}{pins:List (Addr×Obj)}{σ:St}{H:Hp}{s:Shared}{l b:Addr}{xs ys zs:List V}
theorem Inv.lset {its its':List Value}{n:Nat}{f:Array Value→Array Value}{t':Nat}(I:Inv X pins σ H s) (hH:H l=some (.lst xs))
  (e:s.heap.get? l=some { cls:=.type "list",data:=.seq its.toArray n }) (hf:f its.toArray=its'.toArray) (hv:Vals ys its') (hz:ys.length≤sizeLine) :
  Inv X pins σ (upd H l (.lst ys)) { s with heap:=s.heap.update l (Obj.mapSeq f),toks:=t' }:=by
 have q:=PySem.IsL.update e f
 rw[hf] at q
 refine I.write (x:=l) (e:=l) (by rw[hH];exact trivial) (.inl rfl) (fun b' u hb hu=>(Heap.get?_update_other s.heap (Obj.mapSeq f) (Ne.symm hb)).trans hu) ⟨_,q⟩ ?_
 exact⟨hz,its',_,hv,q⟩
theorem Inv.lnew {its:List Value}{t':Nat}(I:Inv X pins σ H s) (hv:Vals ys its) (hz:ys.length≤sizeLine) :
  Inv X pins σ (upd H s.heap.objs.size (.lst ys)) { s with heap:=s.heap.push { cls:=.type "list",data:=.seq its.toArray },toks:=t' } :=
 I.laid (fun _ _ q=>Heap.get?_push_of_some _ q) (Nat.le_refl _) ⟨hz,its,0,hv,Heap.get?_push_size _ rfl⟩
theorem Inv.fresh (I:Inv X pins σ H s):H s.heap.objs.size=none:=I.hok.fresh (Nat.le_refl _)
theorem Inv.lstM (I:Inv X pins σ H s) (hH:H l=some (.lst xs)):xs.length≤sizeLine∧∃ (its:List Value) (n:Nat),Vals xs its∧xs.length=its.length∧s.heap.get? l=some { cls:=.type "list",data:=.seq its.toArray n }:=by
 obtain⟨z,its,n,r,e⟩:=I.hok l _ hH
 exact⟨z,its,n,r,r.length,e⟩
theorem YV {n:Nat}(h:n≤sizeLine):Builtin.List.listTooLong n=false:=by
 unfold Builtin.List.listTooLong
 exact decide_eq_false (by omega)
end
section
variable {X:Cx}
def WU:V→List V→Hp→VK→Prop:=fun x vs H Q=>∃ l xs y,x=.ref l∧vs=[y]∧H l=some (.lst xs)∧xs.length<sizeLine∧Q .non (upd H l (.lst (xs++[y])))
theorem zL:MtM X "list.append" WU:=by
 intro pins s σ H x vs v us Q I rx rv h
 obtain⟨l,xs,y,rfl,rfl,hH,hz,q⟩:=h
 cases rx
 obtain⟨u,rfl,ru⟩:=rv.one
 obtain⟨z,its,n,r,hl,e⟩:=I.lstM hH
 refine call_meets F.slot_list_append ⟨_,e,rfl⟩ F.entry_list_append (F.args_list_append_2 _ _) (PySem.list_append l its.toArray n u (by rw[List.size_toArray];omega)) ⟨e,?_⟩
 refine⟨.non,_,I.lset (its':=its++[u]) hH e (by simp) (r.append (.cons ru .nil)) ?_,rfl,q⟩
 rw[List.length_append,List.length_singleton]
 omega
def WT:V→List V→Hp→VK→Prop:=fun x vs H Q=>∃ l b xs zs,x=.ref l∧vs=[.ref b]∧H l=some (.lst xs)∧H b=some (.lst zs)∧xs.length+zs.length≤sizeLine∧Q .non (upd H l (.lst (xs++zs)))
theorem za4:MtM X "list.extend" WT:=by
 intro pins s σ H x vs v us Q I rx rv h
 obtain⟨l,b,xs,zs,rfl,rfl,hH,hB,hz,q⟩:=h
 cases rx
 obtain⟨u,rfl,ru⟩:=rv.one
 cases ru
 obtain⟨z,its,n,r,hl,e⟩:=I.lstM hH
 obtain⟨z2,its2,n2,r2,hl2,e2⟩:=I.lstM hB
 have hsz:its.toArray.size+its2.toArray.size≤sizeLine:=by rw[List.size_toArray,List.size_toArray];omega
 have hlong:¬ (!its.toArray.isEmpty&&Builtin.List.listTooLong (its.toArray.size+its2.toArray.size))=true:=by
  rw[YV hsz,Bool.and_false]
  exact Bool.false_ne_true
 refine call_meets F.slot_list_extend ⟨_,e,rfl⟩ F.entry_list_extend (F.args_list_extend_2 _ _)
  (AutoSeq1.list_extend_list_list_0 l its.toArray n b its2.toArray n2 hlong (by rw[List.size_toArray];omega) (by omega)) ⟨e,e2,?_⟩
 refine⟨.non,_,I.lset (its':=its++its2) hH e (by simp) (r.append r2) ?_,rfl,q⟩
 rw[List.length_append]
 omega
def Uv:V→List V→Hp→VK→Prop:=fun x vs H Q=>∃ l xs i k y,x=.ref l∧vs=[.int i]∧H l=some (.lst xs)∧-(2 ^ 63)≤i∧i<2 ^ 63∧seqIndex? i xs.length=some k∧xs[k]?=some y∧Q y (upd H l (.lst (xs.eraseIdx k)))
theorem uF:MtM X "list.pop" Uv:=by
 intro pins s σ H x vs v us Q I rx rv h
 obtain⟨l,xs,i,k,y,rfl,rfl,hH,h1,h2,hk,hy,q⟩:=h
 cases rx
 obtain⟨u,rfl,ru⟩:=rv.one
 obtain⟨t,rfl⟩:=ru
 obtain⟨z,its,n,r,hl,e⟩:=I.lstM hH
 obtain⟨w,hw,rw'⟩:=r.get hy
 refine call_meets F.slot_list_pop ⟨_,e,rfl⟩ F.entry_list_pop (F.args_list_pop_2 _ _)
  (MeetsSeq.list_pop_at l its.toArray n i t k w (fitsIndex_both h1 h2) (by rw[List.size_toArray,← hl];exact hk) (by rw[← Array.getElem?_toList];exact hw) (by rw[List.size_toArray];omega)) ⟨e,?_⟩
 refine⟨y,_,I.lset (its':=its.eraseIdx k) hH e ?_ (r.eraseIdx k) ?_,rw',q⟩
 ·show its.toArray.eraseIdxIfInBounds k=(its.eraseIdx k).toArray
  rw[List.eraseIdxIfInBounds_toArray]
 ·have:=vE xs k
  omega
def zmE:R2:=fun x y H Q=>∃ l b xs zs,x=.ref l∧y=.ref b∧H l=some (.lst xs)∧H b=some (.lst zs)∧xs.length+zs.length≤sizeLine∧∀ p,H p=none→Q (.ref p) (upd H p (.lst (xs++zs)))
theorem xk:OpR X (binaryOp .Add) zmE:=by
 intro pins s σ H x y v u Q I rx ry h
 obtain⟨l,b,xs,zs,rfl,rfl,hH,hB,hz,q⟩:=h
 cases rx
 cases ry
 obtain⟨z,its,n,r,hl,e⟩:=I.lstM hH
 obtain⟨z2,its2,n2,r2,hl2,e2⟩:=I.lstM hB
 refine PySem.P.add_list e e2 ?_ (by rw[List.size_toArray,List.size_toArray];omega)
 have ea:its.toArray++its2.toArray=(its++its2).toArray:=by simp
 rw[ea]
 exact⟨.ref _,_,I.lnew (t':=s.toks) (r.append r2) (by rw[List.length_append];omega),rfl,q _ I.fresh⟩
end
section
variable {κ:Type} [DecidableEq κ]
def yL (kvs:List (κ×V)) (k:κ):Option V:=(kvs.find? fun kv=>decide (kv.1=k)).map (·.2)
def putK (kvs:List (κ×V)) (k:κ) (v:V):List (κ×V) :=
 if (kvs.any fun kv=>decide (kv.1=k))=true then kvs.map (fun kv=>if kv.1=k then(kv.1,v) else kv) else kvs++[(k,v)]
theorem xW {p:κ×V}{r:List (κ×V)}{k:κ}(e:p.1=k):yL (p::r) k=some p.2:=by simp[yL,List.find?_cons,e]
theorem xX {p:κ×V}{r:List (κ×V)}{k:κ}(e:¬ p.1=k):yL (p::r) k=yL r k:=by simp[yL,List.find?_cons,e]
theorem yE (k:κ):∀ kvs:List (κ×V),(kvs.any fun kv=>decide (kv.1=k))=(yL kvs k).isSome
 |[]=>rfl
 |p::r=>by
  rw[List.any_cons]
  by_cases e:p.1=k
  ·simp only[xW e,decide_eq_true e,Bool.true_or,Option.isSome_some]
  ·rw[xX e,decide_eq_false e,Bool.false_or];exact yE k r
theorem ym (kvs:List (κ×V)) (k:κ) (v:V):(putK kvs k v).length≤kvs.length+1:=by
 unfold putK
 split
 ·rw[List.length_map];omega
 ·rw[List.length_append,List.length_cons,List.length_nil];omega
theorem putK_new {kvs:List (κ×V)}{k:κ}(v:V) (h:yL kvs k=none):putK kvs k v=kvs++[(k,v)]:=by
 unfold putK
 rw[yE,h]
 exact if_neg (by decide)
theorem RelO.isSome_eq {o:Option V}{u:Option Value}(r:RelO o u):o.isSome=u.isSome:=by
 cases o with
 |none=>cases u with
  |none=>rfl
  |some _=>exact(show False from r).elim
 |some _=>cases u with
  |none=>exact(show False from r).elim
  |some _=>rfl
theorem RelO.getD {o:Option V}{u:Option Value}{d:V}{d':Value}(r:RelO o u) (rd:RelV d d'):RelV (o.getD d) (u.getD d'):=by
 cases o with
 |none=>cases u with
  |none=>exact rd
  |some _=>exact(show False from r).elim
 |some _=>cases u with
  |none=>exact(show False from r).elim
  |some _=>exact r
theorem KV.val {kvs:List (κ×V)}{vs:List (κ×Value)}(r:KV kvs vs) (k:κ):RelO (yL kvs k) (valueAt vs k):=by
 unfold KV at r
 induction r with
 |nil=>exact True.intro
 | @cons p q ps qs h t ih =>
  obtain⟨h1,h2⟩:=h
  by_cases e:p.1=k
  ·have e':q.1=k:=h1.symm.trans e
   have b:valueAt (q::qs) k=some q.2:=by simp[valueAt,List.find?_cons,e']
   rw[xW e,b];exact h2
  ·have e':¬ q.1=k:=fun z=>e (h1.trans z)
   have b:valueAt (q::qs) k=valueAt qs k:=by simp[valueAt,List.find?_cons,e']
   rw[xX e,b];exact ih
theorem KV.any {kvs:List (κ×V)}{vs:List (κ×Value)}(r:KV kvs vs) (k:κ):(kvs.any fun kv=>decide (kv.1=k))=vs.any fun kv=>decide (kv.1=k):=by
 unfold KV at r
 induction r with
 |nil=>rfl
 |cons h t ih=>rw[List.any_cons,List.any_cons,ih,h.1]
theorem KV.repl {kvs:List (κ×V)}{vs:List (κ×Value)}(r:KV kvs vs) (k:κ){y:V}{u:Value}(ry:RelV y u) :
  KV (kvs.map fun kv=>if kv.1=k then(kv.1,y) else kv) (vs.map fun kv=>if kv.1=k then(kv.1,u) else kv):=by
 unfold KV at r ⊢
 induction r with
 |nil=>exact .nil
 | @cons p q ps qs h t ih =>
  rw[List.map_cons,List.map_cons]
  refine .cons ?_ ih
  obtain⟨h1,h2⟩:=h
  by_cases e:p.1=k
  ·rw[if_pos e,if_pos (h1.symm.trans e)];exact⟨h1,ry⟩
  ·rw[if_neg e,if_neg (fun z=>e (h1.trans z))];exact⟨h1,h2⟩
theorem KV.put {kvs:List (κ×V)}{vs:List (κ×Value)}(r:KV kvs vs) (k:κ){y:V}{u:Value}(ry:RelV y u):KV (putK kvs k y) (stored vs k u):=by
 unfold putK stored
 rw[r.any k]
 by_cases e:(vs.any fun kv=>decide (kv.1=k))=true
 ·rw[if_pos e,if_pos e];exact r.repl k ry
 ·rw[if_neg e,if_neg e];exact Paired.snoc r ⟨rfl,ry⟩
theorem KV.length {kvs:List (κ×V)}{vs:List (κ×Value)}(r:KV kvs vs):kvs.length=vs.length:=Paired.length r
end
theorem wF {P:Program}{w:World}{k:Key}{u:Value}(r:RelV (kV k) u):(zB P w).is k u=true:=by
 cases k with
 |inl i=>obtain⟨t,e⟩:=(show ∃ t,u=Value.int i t from r);subst e;exact v4 P w i t
 |inr x=>obtain⟨t,e⟩:=(show ∃ t,u=Value.str x t from r);subst e;exact v3 P w x t
theorem vF {P:Program}{w:World}:∀ {ks:List Key}{us:List Value},Vals (ks.map kV) us→ItemsAre (zB P w) ks us
 |[],_,r=>by rw[List.map_nil] at r;cases r;exact .nil
 |k::ks,_,r=>by
  rw[List.map_cons] at r
  cases r with
  |cons h t=>exact .cons (wF h) (vF t)
abbrev KT (H:Hp):List (List Key×V)→List (List Key×Addr×Value)→Prop:=Paired fun p q=>p.1=q.1∧H q.2.1=some (.tup (p.1.map kV))∧RelV p.2 q.2.2
theorem KT.val {H:Hp}{kvs:List (List Key×V)}{xs:List (List Key×Addr×Value)}(r:KT H kvs xs) (k:List Key):RelO (yL kvs k) ((atKey xs k).map (·.2)):=by
 induction r with
 |nil=>exact True.intro
 | @cons p q ps qs h t ih =>
  obtain⟨h1,_,h2⟩:=h
  by_cases e:p.1=k
  ·have e':q.1=k:=h1.symm.trans e
   have b:atKey (q::qs) k=some q.2:=by simp[atKey,List.find?_cons,e']
   rw[xW e,b];exact h2
  ·have e':¬ q.1=k:=fun z=>e (h1.trans z)
   have b:atKey (q::qs) k=atKey qs k:=by simp[atKey,List.find?_cons,e']
   rw[xX e,b];exact ih
theorem KT.repl {H:Hp}{kvs:List (List Key×V)}{xs:List (List Key×Addr×Value)}(r:KT H kvs xs) (k:List Key){y:V}{u:Value}(ry:RelV y u) :
  KT H (kvs.map fun kv=>if kv.1=k then(kv.1,y) else kv) (xs.map (putAt k u)):=by
 induction r with
 |nil=>exact .nil
 | @cons p q ps qs h t ih =>
  rw[List.map_cons,List.map_cons]
  refine .cons ?_ ih
  obtain⟨h1,h2,h3⟩:=h
  unfold putAt
  by_cases e:p.1=k
  ·rw[if_pos e,if_pos (h1.symm.trans e)];exact⟨h1,h2,ry⟩
  ·rw[if_neg e,if_neg (fun z=>e (h1.trans z))];exact⟨h1,h2,h3⟩
theorem KT.put {H:Hp}{kvs:List (List Key×V)}{xs:List (List Key×Addr×Value)}(r:KT H kvs xs) (k:List Key){b:Addr}{y:V}{u:Value}(hb:H b=some (.tup (k.map kV))) (ry:RelV y u) :
  KT H (putK kvs k y) (storedH xs k b u):=by
 have e:(kvs.any fun kv=>decide (kv.1=k))=(atKey xs k).isSome:=by
  rw[yE,(r.val k).isSome_eq,Option.isSome_map]
 unfold putK storedH
 rw[e]
 by_cases q:(atKey xs k).isSome=true
 ·rw[if_pos q,if_pos q];exact r.repl k ry
 ·rw[if_neg q,if_neg q];exact Paired.snoc r ⟨rfl,hb,ry⟩
theorem KT.keeps {H H':Hp}{kvs:List (List Key×V)}{xs:List (List Key×Addr×Value)}(r:KT H kvs xs) (ht:∀ b ys,H b=some (.tup ys)→H' b=some (.tup ys)):KT H' kvs xs :=
 Paired.mapP r fun _ _ z=>⟨z.1,ht _ _ z.2.1,z.2.2⟩
section
variable {P:Program}{w:World}{H:Hp}{h:Heap}{a:Addr}
theorem Ur {u:HO}(ok:HOk P w H h) (e:Rd H a u):ObjOk P w H h a u:=e.ok ok
theorem ve {kvs:List (Key×V)}(ok:HOk P w H h) (e:Rd H a (.dK kvs)):kvs.length≤sizeLine∧(a == sysModules)=false∧∃ vs,KV kvs vs∧h.DictOf (zB P w) a vs :=
 show ObjOk P w H h a (.dK kvs) from Ur ok e
theorem ub {kvs:List (Key×V)}(ok:HOk P w H h) (e:H a=some (.dK kvs)):kvs.length≤sizeLine∧(a == sysModules)=false∧∃ vs,KV kvs vs∧h.DictOf (zB P w) a vs:=ve ok (.inl e)
theorem xP {ks:List Key}(ok:HOk P w H h) (e:H a=some (.tup (ks.map kV))):(tupleKind (zB P w)).is h ks a:=by
 obtain⟨_,its,r,o,h1,h2,n,h3⟩:=(show ObjOk P w H h a (.tup (ks.map kV)) from ok a _ e)
 exact⟨o,its.toArray,n,h1,h2,h3,by simpa using vF r⟩
theorem wG {kvs:List (List Key×V)}(ok:HOk P w H h) (e:Rd H a (.dT kvs)):kvs.length≤sizeLine∧(a == sysModules)=false ∧
  ∃ xs,KT H kvs xs∧h.DictOfH (tupleKind (zB P w)) a xs:=by
 obtain⟨z,y,xs,r,o,es,ep,h1,h2,h3,h4,h5⟩:=(show ObjOk P w H h a (.dT kvs) from Ur ok e)
 refine⟨z,y,xs,r,o,es,ep,h1,h2,h3,h4,fun x hx=>?_,h5⟩
 have all:∀ {l:List (List Key×V)}{m:List (List Key×Addr×Value)},KT H l m→∀ x∈m,(tupleKind (zB P w)).is h x.1 x.2.1:=by
  intro l m q
  induction q with
  |nil=>intro x hx;exact nomatch hx
  | @cons p q ps qs hq t ih =>
   intro x hx
   rcases List.mem_cons.mp hx with e | hx
   ·subst e
    exact xP ok (by rw[← hq.1];exact hq.2.1)
   ·exact ih x hx
 exact all r x hx
theorem Zd {kvs:List (List Key×V)}(ok:HOk P w H h) (e:H a=some (.dT kvs)):kvs.length≤sizeLine∧(a == sysModules)=false ∧
  ∃ xs,KT H kvs xs∧h.DictOfH (tupleKind (zB P w)) a xs:=wG ok (.inl e)
end
def DGet (H:Hp) (a:Addr) (y:V) (r:Option V):Prop :=
 (∃ kvs k,Rd H a (.dK kvs)∧y=kV k∧r=yL kvs k)∨∃ kvs k b,Rd H a (.dT kvs)∧y=.ref b∧H b=some (.tup (k.map kV))∧r=yL kvs k
def DPut (H:Hp) (a:Addr) (y v:V) (H':Hp):Prop :=
 (∃ kvs k,H a=some (.dK kvs)∧y=kV k∧kvs.length<sizeLine∧H'=upd H a (.dK (putK kvs k v))) ∨
 ∃ kvs k b,H a=some (.dT kvs)∧y=.ref b∧H b=some (.tup (k.map kV))∧kvs.length<sizeLine∧H'=upd H a (.dT (putK kvs k v))
theorem DGet.k {H:Hp}{a:Addr}{kvs:List (Key×V)}{k:Key}(e:H a=some (.dK kvs)):DGet H a (kV k) (yL kvs k):=.inl ⟨kvs,k,.inl e,rfl,rfl⟩
theorem DGet.t {H:Hp}{a b:Addr}{kvs:List (List Key×V)}{k:List Key}(e:H a=some (.dT kvs)) (eb:H b=some (.tup (k.map kV))):DGet H a (.ref b) (yL kvs k):=.inr ⟨kvs,k,b,.inl e,rfl,eb,rfl⟩
theorem DPut.k {H:Hp}{a:Addr}{kvs:List (Key×V)}{k:Key}{v:V}(e:H a=some (.dK kvs)) (hl:kvs.length<sizeLine):DPut H a (kV k) v (upd H a (.dK (putK kvs k v))):=.inl ⟨kvs,k,e,rfl,hl,rfl⟩
theorem DPut.t {H:Hp}{a b:Addr}{kvs:List (List Key×V)}{k:List Key}{v:V}(e:H a=some (.dT kvs)) (eb:H b=some (.tup (k.map kV))) (hl:kvs.length<sizeLine) :
  DPut H a (.ref b) v (upd H a (.dT (putK kvs k v))):=.inr ⟨kvs,k,b,e,rfl,eb,hl,rfl⟩
section
variable {X:Cx}{pins:List (Addr×Obj)}{σ:St}{H:Hp}{s:Shared}{a:Addr}{y v:V}{u r:Value}{o:Option V}{A:Around}{E:Value→Shared→Prop}
theorem Inv.big (I:Inv X pins σ H s):sysModules<s.heap.objs.size:=by
 have h:mainGlobals<s.heap.objs.size:=(I.mod.glob.keeps I.bk).lt
 exact Nat.lt_trans (by decide) h
theorem Yj {Q:Value→Shared→Prop}(hu:A.units+1<cLine) (I:Inv X pins σ H s) (g:DGet H a y (some v)) (ry:RelV y u) (h:∀ w' s',Inv X pins σ H s'→RelV v w'→Q w' s') :
  wpAny (model X.prog X.w) A (getItem (.ref a) u) Q E s:=by
 rcases g with⟨kvs,k,e,ey,l⟩ | ⟨kvs,k,b,e,ey,eb,l⟩
 ·subst ey
  obtain⟨z,hd,vs,rel,dd⟩:=ve I.hok e
  obtain⟨w',hw,rw'⟩:=RelO.some_of (v:=v) (o:=valueAt vs k) (by rw[l];exact rel.val k)
  exact wpAny_getItem_of (wF ry) dd.mapOf hw (h w' _ (I.tok _) rw')
 ·subst ey
  cases (show u=Value.ref b from ry)
  obtain⟨z,hd,xs,rel,dd⟩:=wG I.hok e
  obtain⟨w',hw,rw'⟩:=RelO.some_of (v:=v) (o:=(atKey xs k).map (·.2)) (by rw[l];exact rel.val k)
  obtain⟨p,hp,hp2⟩:=Option.map_eq_some_iff.mp hw
  refine wpAny_getItem_heap (tupleKind_room_in1 hu) (xP I.hok eb) dd hp ?_
  rw[hp2]
  exact h w' _ (I.tok _) rw'
theorem zmQ {Q:Value→Shared→Prop}(hu:A.units+1<cLine) (I:Inv X pins σ H s) (g:DGet H a y o) (ry:RelV y u) (h:∀ s',Inv X pins σ H s'→Q (.bool o.isSome) s') :
  wpAny (model X.prog X.w) A (compareOp .In u (.ref a)) Q E s:=by
 rcases g with⟨kvs,k,e,ey,l⟩ | ⟨kvs,k,b,e,ey,eb,l⟩
 ·subst ey
  obtain⟨z,hd,vs,rel,dd⟩:=ve I.hok e
  refine wpAny_in_of (wF ry) hd dd.mapOf ?_
  rw[← (rel.val k).isSome_eq,← l]
  exact h _ (I.tok _)
 ·subst ey
  cases (show u=Value.ref b from ry)
  obtain⟨z,hd,xs,rel,dd⟩:=wG I.hok e
  refine wpAny_in_heap (tupleKind_room_in1 hu) (xP I.hok eb) hd dd ?_
  have q:=(rel.val k).isSome_eq
  rw[Option.isSome_map] at q
  rw[← q,← l]
  exact h _ (I.tok _)
theorem Vs {Q:Value→Shared→Prop}(hu:A.units+1<cLine) (I:Inv X pins σ H s) (g:DGet H a y o) (ry:RelV y u) (h:∀ s',Inv X pins σ H s'→Q (.bool (!o.isSome)) s') :
  wpAny (model X.prog X.w) A (compareOp .NotIn u (.ref a)) Q E s:=by
 rcases g with⟨kvs,k,e,ey,l⟩ | ⟨kvs,k,b,e,ey,eb,l⟩
 ·subst ey
  obtain⟨z,hd,vs,rel,dd⟩:=ve I.hok e
  refine wpAny_notIn_of (wF ry) hd dd.mapOf ?_
  rw[← (rel.val k).isSome_eq,← l]
  exact h _ (I.tok _)
 ·subst ey
  cases (show u=Value.ref b from ry)
  obtain⟨z,hd,xs,rel,dd⟩:=wG I.hok e
  refine wpAny_notIn_heap (tupleKind_room_in1 hu) (xP I.hok eb) hd dd ?_
  have q:=(rel.val k).isSome_eq
  rw[Option.isSome_map] at q
  rw[← q,← l]
  exact h _ (I.tok _)
theorem xr {h':Heap}{t':Nat}{ob:HO}(I:Inv X pins σ H s) (mu:Mut (H a)) (hs:Heap.SameBut a s.heap h') (he:∃ q,h'.get? a=some q) (new:ObjOk X.prog X.w (upd H a ob) h' a ob) :
  Inv X pins σ (upd H a ob) { s with heap:=h',toks:=t' } :=
 I.write (x:=a) (e:=a) mu (.inl rfl) (fun b q hb z=>(hs.2 b hb).trans z) he new
theorem vG {P:Program}{w:World}{H':Hp}{h':Heap}{kvs:List (Key×V)}{vs:List (Key×Value)}(z:kvs.length≤sizeLine) (hd:(a == sysModules)=false) (rel:KV kvs vs) (dd:h'.DictOf (zB P w) a vs) :
  ObjOk P w H' h' a (.dK kvs):=⟨z,hd,vs,rel,dd⟩
theorem Yi {H':Hp}{Q:Unit→Shared→Prop}(hu:A.units+1<cLine) (I:Inv X pins σ H s) (g:DPut H a y v H') (ry:RelV y u) (rv:RelV v r) (h:∀ s',Inv X pins σ H' s'→Q () s') :
  wpAny (model X.prog X.w) A (setItem (.ref a) u r) Q E s:=by
 rcases g with⟨kvs,k,e,ey,l,eH⟩ | ⟨kvs,k,b,e,ey,eb,l,eH⟩
 ·subst ey eH
  obtain⟨z,hd,vs,rel,dd⟩:=ub I.hok e
  have hz:vs.length≤sizeLine:=by rw[← rel.length];exact z
  have hl:(putK kvs k v).length≤sizeLine:=by have:=ym kvs k v;omega
  refine wpAny_setItem_pairs (hsz:=hz) (wF ry) dd fun h' dd' hs=>h _ ?_
  have he:∃ q,h'.get? a=some q:=let ⟨q,_,_,hq,_⟩:=dd';⟨q,hq⟩
  exact xr I (by rw[e];exact True.intro) hs he (vG hl hd (rel.put k rv) dd')
 ·subst ey eH
  cases (show u=Value.ref b from ry)
  obtain⟨z,hd,xs,rel,dd⟩:=Zd I.hok e
  have hz:xs.length≤sizeLine:=by rw[← Paired.length rel];exact z
  have hl:(putK kvs k v).length≤sizeLine:=by have:=ym kvs k v;omega
  refine wpAny_setItem_heap (hsz:=hz) (tupleKind_room_in1 hu) (xP I.hok eb) dd fun h' dd' hs=>h _ ?_
  obtain⟨q,es,ep,hq,h2,h3,h4,_,h5⟩:=dd'
  refine xr I (by rw[e];exact True.intro) hs ⟨q,hq⟩ ⟨hl,hd,_,(rel.put k eb rv).keeps fun c ys ec=>?_,q,es,ep,hq,h2,h3,h4,h5⟩
  rw[upd_ne (Vh ec e (fun z=>nomatch z))]
  exact ec
end
section
variable {X:Cx}{pins:List (Addr×Obj)}{σ:St}{H:Hp}{s:Shared}{a:Addr}{kvs:List (Key×V)}{k:Key}{u:Value}{A:Around}{E:Value→Shared→Prop}
theorem zgA {Q:Value→Shared→Prop}(I:Inv X pins σ H s) (e:Rd H a (.dK kvs)) (h:∀ t s',Inv X pins σ H s'→Q (.int kvs.length t) s'):wpAny (model X.prog X.w) A (call (.builtin "len") [.ref a]) Q E s:=by
 obtain⟨z,hd,vs,rel,dd⟩:=ve I.hok e
 refine call_len_dict hd dd (by rw[← rel.length];rw[sizeLine_eq] at z;omega) ?_
 rw[← rel.length]
 exact h _ _ (I.tok _)
end
def zlB (i:Expr):Prop:=∀ ov iv,subscripted i false ov iv=operate [ov,iv] (getItem ov iv)
theorem subD_of {prog:Program}{w:World}{A:Around}{E:Value→Shared→Prop}{s:Shared}{env:Env}{value slice:Expr}{pos:Pos}{T id:String}{Q:Value→Shared→Prop}
  (hl:typeLookup (.type T) "__getitem__" = pure (some (.builtin id))) (hs:zlB slice)
  (h:wpAny (model prog w) A (eval value env) (fun o s₁=>wpAny (model prog w) A (eval slice env) (fun i s₂=>s₂.TypeIs o T∧wpAny (model prog w) A (getItem o i) Q E s₂) E s₁) E s) :
  wpAny (model prog w) A (eval (.Subscript value slice pos) env) Q E s:=by
 refine Subscript_ (wpAny_mono h (fun o s₁ h₁=>wpAny_mono h₁ (fun i s₂ h₂=>?_) fun _ _ x=>x) fun _ _ x=>x)
 obtain⟨hT,h₂⟩:=h₂
 unfold subscriptTail
 refine wpAny_bind ?_
 rw[getitemInPython_of_ne hT.not_modules]
 refine wpAny_bind (wpAny_specialOf hT hl ?_)
 have fin:wpAny (model prog w) A (subscripted slice false o i) (fun r s₃=>wpAny (model prog w) A (letTemporaryGo value o r >>= fun _=>pure r) Q E s₃) E s₂:=by
  rw[hs o i]
  exact wpAny_operating (wpAny_mono h₂ (fun r s₃ h₃=>wpAny_bind (wpAny_letTemporaryGo (wpAny_pure h₃))) fun _ _ x=>x)
 first
  |exact wpAny_pure (wpAny_bind fin)
  |exact wpAny_bind (wpAny_pure (wpAny_bind fin))
  |exact wpAny_bind fin
theorem uc {X:Cx}{pins:List (Addr×Obj)}{σ:St}{H:Hp}{s:Shared}{a:Addr}{y:V}{o:Option V}(I:Inv X pins σ H s) (g:DGet H a y o):s.TypeIs (.ref a) "dict" := by
 rcases g with⟨kvs,k,e,_,_⟩ | ⟨kvs,k,b,e,_,_,_⟩
 ·obtain⟨_,_,vs,_,dd⟩:=ve I.hok e
  exact dd.typeIs
 ·obtain⟨_,_,xs,_,dd⟩:=wG I.hok e
  exact dd.typeIs
def zcv (td ty:TE):TE:=fun σ H Q=>td σ H fun x H1=>ty σ H1 fun y H2=>∃ a v,x=.ref a∧DGet H2 a y (some v)∧Q v H2
def zlQ (ty td:TE):TE:=fun σ H Q=>ty σ H fun y H1=>td σ H1 fun x H2=>∃ a o,x=.ref a∧DGet H2 a y o∧Q (.bl o.isSome) H2
def XX (ty td:TE):TE:=fun σ H Q=>ty σ H fun y H1=>td σ H1 fun x H2=>∃ a o,x=.ref a∧DGet H2 a y o∧Q (.bl (!o.isSome)) H2
def zdj (td ty tv:TE):TS:=fun D σ H=>tv σ H fun v H1=>td σ H1 fun x H2=>ty σ H2 fun y H3=>∃ a H4,x=.ref a∧DPut H3 a y v H4∧D.nx σ H4
section
variable {X:Cx}{o i e value:Expr}{pos pos' tpos:Pos}{td ty tv:TE}
theorem yH (hu:X.A.units+1<cLine) (ho:Bx (PE X o td)) (hi:Bx (PE X i ty)) (hs:zlB i):Bx (PE X (.Subscript o i pos) (zcv td ty)):=by
 have ho:=ho.of
 have hi:=hi.of
 refine⟨?_⟩
 intro pins s σ H Q I h
 refine subD_of PySem.F.slot_dict_getitem.lookup hs (thn (ho pins s σ H _ I h) fun u s1 ⟨x,H1,I1,rx,q1⟩=>thn (hi pins s1 σ H1 _ I1 q1) fun iv s2 hq0=>?_)
 obtain⟨y,H2,I2,ry,a,v,ex,g,q2⟩:=hq0
 subst ex
 obtain rfl:u=Value.ref a:=rx
 exact⟨uc I2 g,Yj hu I2 g ry fun w' s3 I3 rw'=>⟨v,H2,I3,rw',q2⟩⟩
theorem xV (hu:X.A.units+1<cLine) (hi:Bx (PE X i ty)) (ho:Bx (PE X o td)):Bx (PC X .In i o (zlQ ty td)):=by
 have hi:=hi.of
 have ho:=ho.of
 refine⟨?_⟩
 intro pins s σ H Q I h
 refine thn (hi pins s σ H _ I h) fun iv s1 ⟨y,H1,I1,ry,q1⟩=>thn (ho pins s1 σ H1 _ I1 q1) fun u s2 hq0=>?_
 obtain⟨x,H2,I2,rx,a,ov,ex,g,q2⟩:=hq0
 subst ex
 obtain rfl:u=Value.ref a:=rx
 exact zmQ hu I2 g ry fun s3 I3=>⟨.bl ov.isSome,H2,I3,rfl,q2⟩
theorem yN (hu:X.A.units+1<cLine) (hi:Bx (PE X i ty)) (ho:Bx (PE X o td)):Bx (PC X .NotIn i o (XX ty td)):=by
 have hi:=hi.of
 have ho:=ho.of
 refine⟨?_⟩
 intro pins s σ H Q I h
 refine thn (hi pins s σ H _ I h) fun iv s1 ⟨y,H1,I1,ry,q1⟩=>thn (ho pins s1 σ H1 _ I1 q1) fun u s2 hq0=>?_
 obtain⟨x,H2,I2,rx,a,ov,ex,g,q2⟩:=hq0
 subst ex
 obtain rfl:u=Value.ref a:=rx
 exact Vs hu I2 g ry fun s3 I3=>⟨.bl (!ov.isSome),H2,I3,rfl,q2⟩
theorem yr (hu:X.A.units+1<cLine) (ho:Bx (PE X o td)) (hi:Bx (PE X i ty)) (hv:Bx (PE X value tv)) (hs:swapsWith value (some (.Subscript o i pos')) pos.line X.env=pure false):Bx (PS X (.Assign [.Subscript o i pos'] value pos) (zdj td ty tv)):=by
 have ho:=ho.of
 have hi:=hi.of
 have hv:=hv.of
 refine⟨?_⟩
 intro pins s σ H D I h
 refine wpAny_Assign_Subscript (thn (hv pins s σ H _ I h) fun r s1 ⟨v,H1,I1,rv,q1⟩=>thn (ho pins s1 σ H1 _ I1 q1) fun u s2 ⟨x,H2,I2,rx,q2⟩=>thn (hi pins s2 σ H2 _ I2 q2) fun iv s3 hq0=>?_) hs
 obtain⟨y,H3,I3,ry,a,H4,ex,g,q3⟩:=hq0
 subst ex
 obtain rfl:u=Value.ref a:=rx
 exact Yi hu I3 g ry rv fun s4 I4=>⟨σ,H4,I4,q3⟩
end
theorem uM {P:Program}{w:World}{H:Hp}(h:Heap) (hb:sysModules<h.objs.size):ObjOk P w H (h.push { cls:=.type "dict",data:=.dict #[] }) h.objs.size (.dK []) :=
 ⟨Nat.zero_le _,beq_eq_false_iff_ne.mpr (Ne.symm (Nat.ne_of_lt hb)),[],.nil,Heap.DictOf.new h⟩
theorem Xi {P:Program}{w:World}{H:Hp}(h:Heap) (hb:sysModules<h.objs.size):ObjOk P w H (h.push { cls:=.type "dict",data:=.dict #[] }) h.objs.size (.dT []) :=
 ⟨Nat.zero_le _,beq_eq_false_iff_ne.mpr (Ne.symm (Nat.ne_of_lt hb)),[],.nil,_,#[],0,Heap.get?_push_size _ rfl,⟨rfl,rfl,rfl⟩,rfl,rfl,List.nodup_nil⟩
def Uc:TE:=fun _ H Q=>∀ p,H p=none→Q (.ref p) (upd H p (.dK []))
def Ub:TE:=fun _ H Q=>∀ p,H p=none→Q (.ref p) (upd H p (.dT []))
section
variable {X:Cx}{pos:Pos}
theorem xb  : Bx (PE X (.Dict [] [] pos) Uc):=by
 exact⟨fun pins s σ H Q I h =>
  wpAny_Dict_empty ⟨.ref s.heap.objs.size,_,I.laid (a:=s.heap.objs.size) (o:=.dK []) (t':=s.toks) (fun _ _ q=>Heap.get?_push_of_some _ q) (Nat.le_refl _) (uM s.heap I.big),rfl,h _ (I.hok.fresh (Nat.le_refl _))⟩⟩
theorem yk  : Bx (PE X (.Dict [] [] pos) Ub):=by
 exact⟨fun pins s σ H Q I h =>
  wpAny_Dict_empty ⟨.ref s.heap.objs.size,_,I.laid (a:=s.heap.objs.size) (o:=.dT []) (t':=s.toks) (fun _ _ q=>Heap.get?_push_of_some _ q) (Nat.le_refl _) (Xi s.heap I.big),rfl,h _ (I.hok.fresh (Nat.le_refl _))⟩⟩
end
def Zx:List (TE×TE)→St→Hp→(List (V×V)→Hp→Prop)→Prop
 |[],_,H,Q=>Q [] H
 |(tk,tv)::r,σ,H,Q=>tk σ H fun x H1=>tv σ H1 fun y H2=>Zx r σ H2 fun ps H3=>Q ((x,y)::ps) H3
abbrev VV:List (V×V)→List (Value×Value)→Prop:=Paired fun p q=>RelV p.1 q.1∧RelV p.2 q.2
def PPs (X:Cx) (pos:Pos) (keys:List (Option Expr)) (values:List Expr) (trs:List (TE×TE)):Prop :=
 ∀ (pins:List (Addr×Obj)) (s:Shared) (σ:St) (H:Hp) (Q:List (V×V)→Hp→Prop),Inv X pins σ H s→Zx trs σ H Q →
  wpAny (model X.prog X.w) X.A (evalPairs (pairTrees keys values X.env pos)) (fun vs s'=>∃ ps H',Inv X pins σ H' s'∧VV ps vs∧Q ps H') X.xe s
theorem Zo {X:Cx}{pos:Pos}:Bx (PPs X pos [] [] []):=by
 exact⟨fun pins s σ H Q I h=>pairTrees_nil_walk ⟨[],H,I,.nil,h⟩⟩
theorem uT {X:Cx}{pos:Pos}{k v:Expr}{ks:List (Option Expr)}{vs:List Expr}{tk tv:TE}{trs:List (TE×TE)}(hk:Bx (PE X k tk)) (hv:Bx (PE X v tv)) (hr:Bx (PPs X pos ks vs trs)):Bx (PPs X pos (some k::ks) (v::vs) ((tk,tv)::trs)):=by
 have hk:=hk.of
 have hv:=hv.of
 have hr:=hr.of
 exact⟨fun pins s σ H Q I h =>
  pairTrees_cons_walk (thn (hk pins s σ H _ I h) fun u s1 ⟨x,H1,I1,rx,q1⟩=>thn (hv pins s1 σ H1 _ I1 q1) fun w2 s2 ⟨y,H2,I2,ry,q2⟩ =>
   thn (hr pins s2 σ H2 _ I2 q2) fun ws s3 ⟨ps,H3,I3,rel,q3⟩=>⟨(x,y)::ps,H3,I3,.cons ⟨rx,ry⟩ rel,q3⟩)⟩
def mergeK (kvs more:List (Key×V)):List (Key×V):=more.foldl (fun acc kv=>putK acc kv.1 kv.2) kvs
theorem KV.merge:∀ {more:List (Key×V)}{rs:List (Key×Value)}{kvs:List (Key×V)}{vs:List (Key×Value)},KV more rs→KV kvs vs→KV (mergeK kvs more) (merged vs rs):=by
 intro more rs kvs vs r
 unfold KV at r
 induction r generalizing kvs vs with
 |nil=>intro q;exact q
 | @cons p q ps qs h t ih =>
  intro r0
  have e:KV (putK kvs p.1 p.2) (stored vs q.1 q.2):=by
   have:=r0.put p.1 h.2
   rw[← h.1];exact this
  exact ih e
theorem xC:∀ (more kvs:List (Key×V)),(mergeK kvs more).length≤kvs.length+more.length
 |[],kvs=>by show kvs.length≤kvs.length+0;omega
 |p::r,kvs=>by
  have h1:=xC r (putK kvs p.1 p.2)
  have h2:=ym kvs p.1 p.2
  show(mergeK (putK kvs p.1 p.2) r).length≤_
  rw[List.length_cons];omega
theorem wQ {P:Program}{w:World}:∀ {kvs:List (Key×V)}{ws:List (Value×Value)},VV (kvs.map fun kv=>(kV kv.1,kv.2)) ws→∃ rs,Carries (zB P w) ws rs∧KV kvs rs
 |[],_,r=>by rw[List.map_nil] at r;cases r;exact⟨[],True.intro,.nil⟩
 |p::kvs,_,r=>by
  rw[List.map_cons] at r
  cases r with
  | @cons a b as bs h t =>
   obtain⟨rs,c,q⟩:=wQ (P:=P) (w:=w) t
   obtain⟨b1,b2⟩:=b
   exact⟨(p.1,b2)::rs,⟨wF h.1,rfl,c⟩,.cons ⟨rfl,h.2⟩ q⟩
def zcs (trs:List (TE×TE)):TE:=fun σ H Q=>∀ p,H p=none→Zx trs σ (upd H p (.dK [])) fun ps H2=>H2 p=some (.dK [])∧∃ kvs:List (Key×V),ps=kvs.map (fun kv=>(kV kv.1,kv.2))∧kvs.length≤15∧Q (.ref p) (upd H2 p (.dK (mergeK [] kvs)))
theorem Zq {X:Cx}{pos:Pos}{keys:List (Option Expr)}{values:List Expr}{trs:List (TE×TE)}(h:Bx (PPs X pos keys values trs)) (hall:keys.all (·.isSome)=true) (hl:keys.length=values.length) (h0:keys≠[]) (h15:keys.length≤15):Bx (PE X (.Dict keys values pos) (zcs trs)):=by
 have h:=h.of
 refine⟨?_⟩
 intro pins s σ H Q I q
 have hn:=I.hok.fresh (Nat.le_refl s.heap.objs.size)
 have I1:=I.laid (a:=s.heap.objs.size) (o:=.dK []) (h':=s.heap.push { cls:=.type "dict",data:=.dict #[] }) (t':=s.toks) (fun _ _ q=>Heap.get?_push_of_some _ q) (Nat.le_refl _) (uM s.heap I.big)
 refine wpAny_Dict_walk (knd:=zB X.prog X.w) hall hl h0 h15 (thn (h pins _ σ _ _ I1 (q _ hn)) fun ws s2 hq0=>?_)
 obtain⟨ps,H2,I2,rel,e,kvs,ep,lk,q2⟩:=hq0
 subst ep
 obtain⟨rs,c,rk⟩:=wQ (P:=X.prog) (w:=X.w) rel
 obtain⟨z,hd,vs0,r0,dd⟩:=ub I2.hok e
 cases r0
 refine⟨rs,c,dd,fun h' dd' hs=>⟨.ref s.heap.objs.size,_,?_,rfl,q2⟩⟩
 have hz:(mergeK [] kvs).length≤sizeLine:=by
  have h1:=xC kvs []
  rw[List.length_nil] at h1
  rw[sizeLine_eq];omega
 have he:∃ q,h'.get? s.heap.objs.size=some q:=let ⟨q,_,_,hq,_⟩:=dd';⟨q,hq⟩
 exact xr I2 (by rw[e];exact True.intro) hs he (vG hz hd (rk.merge .nil) dd')
structure M1 (X:Cx) (o:Expr) (m:Str) (apos:Pos) (e:Expr) (cpos:Pos):Prop where
 base:attributeBase o m X.env (eval o X.env)=eval o X.env
 few:((backTo cpos (starEach [e] X.env)).all (fun x=>!x.1)&&(backToKw cpos (keywordEach [] X.env)).all (fun x=>x.1.isSome)
  && decide (([e]:List Expr).length+([]:List Keyword).length+(if ([]:List Keyword).isEmpty then 0 else 1)<30))=true
 line:(apos.endLine == cpos.line)=true
 trees:backTo cpos (starEach [e] X.env)=[(false,eval e X.env)]
structure M2 (X:Cx) (o:Expr) (m:Str) (apos:Pos) (e f:Expr) (cpos:Pos):Prop where
 base:attributeBase o m X.env (eval o X.env)=eval o X.env
 few:((backTo cpos (starEach [e,f] X.env)).all (fun x=>!x.1)&&(backToKw cpos (keywordEach [] X.env)).all (fun x=>x.1.isSome)
  && decide (([e,f]:List Expr).length+([]:List Keyword).length+(if ([]:List Keyword).isEmpty then 0 else 1)<30))=true
 line:(apos.endLine == cpos.line)=true
 trees:backTo cpos (starEach [e,f] X.env)=[(false,eval e X.env),(false,eval f X.env)]
def IsD (H:Hp) (a:Addr):Prop:=(∃ kvs,Rd H a (.dK kvs))∨∃ kvs,Rd H a (.dT kvs)
theorem xQ {X:Cx}{pins:List (Addr×Obj)}{σ:St}{H:Hp}{s:Shared}{a:Addr}(I:Inv X pins σ H s) (d:IsD H a) :
  s.TypeIs (.ref a) "dict" ∧ (∀ b,Value.ref a=.ref b→∃ ob,s.heap.get? b=some ob∧ob.dict=none)∧(a == sysModules)=false:=by
 rcases d with⟨kvs,e⟩ | ⟨kvs,e⟩
 ·obtain⟨_,hd,vs,_,dd⟩:=ve I.hok e
  refine⟨dd.typeIs,fun b q=>?_,hd⟩
  cases q
  obtain⟨ob,_,_,h1,h2,_⟩:=dd
  exact⟨ob,h1,h2.2.1⟩
 ·obtain⟨_,hd,xs,_,dd⟩:=wG I.hok e
  refine⟨dd.typeIs,fun b q=>?_,hd⟩
  cases q
  obtain⟨ob,_,_,h1,h2,_⟩:=dd
  exact⟨ob,h1,h2.2.1⟩
section
variable {X:Cx}{pins:List (Addr×Obj)}{σ:St}{H:Hp}{s:Shared}{a:Addr}{y d:V}{u r:Value}{o:Option V}{A:Around}{E:Value→Shared→Prop}
theorem zbl {Q:Value→Shared→Prop}(hu:A.units+1<cLine) (I:Inv X pins σ H s) (g:DGet H a y o) (ry:RelV y u) (h:∀ w' s',Inv X pins σ H s'→RelV (o.getD .non) w'→Q w' s') :
  wpAny (model X.prog X.w) A (call (.builtin "dict.get") [.ref a,u]) Q E s:=by
 rcases g with⟨kvs,k,e,ey,l⟩ | ⟨kvs,k,b,e,ey,eb,l⟩
 ·subst ey
  obtain⟨z,hd,vs,rel,dd⟩:=ve I.hok e
  refine call_meetsIn PySem.F.slot_dict_get dd.typeIs PySem.F.entry_dict_get (PySem.F.args_dict_get_2 _ _) (meets_dict_get (zB X.prog X.w) a (wF ry) hd) ⟨_,dd.mapOf,h _ _ (I.tok _) ?_⟩
  rw[l]
  exact(rel.val k).getD rfl
 ·subst ey
  cases (show u=Value.ref b from ry)
  obtain⟨z,hd,xs,rel,dd⟩:=wG I.hok e
  refine call_meetsIn PySem.F.slot_dict_get dd.typeIs PySem.F.entry_dict_get (PySem.F.args_dict_get_2 _ _) (meetsH_dict_get (tupleKind (zB X.prog X.w)) a b hd) ⟨tupleKind_room_in1 hu,k,xs,xP I.hok eb,dd,h _ _ (I.tok _) ?_⟩
  rw[l]
  exact(rel.val k).getD rfl
theorem zbk {Q:Value→Shared→Prop}(hu:A.units+1<cLine) (I:Inv X pins σ H s) (g:DGet H a y o) (ry:RelV y u) (rd:RelV d r) (h:∀ w' s',Inv X pins σ H s'→RelV (o.getD d) w'→Q w' s') :
  wpAny (model X.prog X.w) A (call (.builtin "dict.get") [.ref a,u,r]) Q E s:=by
 rcases g with⟨kvs,k,e,ey,l⟩ | ⟨kvs,k,b,e,ey,eb,l⟩
 ·subst ey
  obtain⟨z,hd,vs,rel,dd⟩:=ve I.hok e
  refine call_meetsIn PySem.F.slot_dict_get dd.typeIs PySem.F.entry_dict_get (PySem.F.args_dict_get_3 _ _ _) (meets_dict_get_default (zB X.prog X.w) a (wF ry) hd r) ⟨_,dd.mapOf,h _ _ (I.tok _) ?_⟩
  rw[l]
  exact(rel.val k).getD rd
 ·subst ey
  cases (show u=Value.ref b from ry)
  obtain⟨z,hd,xs,rel,dd⟩:=wG I.hok e
  refine call_meetsIn PySem.F.slot_dict_get dd.typeIs PySem.F.entry_dict_get (PySem.F.args_dict_get_3 _ _ _) (meetsH_dict_get_default (tupleKind (zB X.prog X.w)) a b hd r) ⟨tupleKind_room_in1 hu,k,xs,xP I.hok eb,dd,h _ _ (I.tok _) ?_⟩
  rw[l]
  exact(rel.val k).getD rd
end
def Ue (td ty:TE):TE:=fun σ H Q=>td σ H fun x H1=>∃ a,x=.ref a∧IsD H1 a∧ty σ H1 fun y H2=>∃ o,DGet H2 a y o∧Q (o.getD .non) H2
def Ud (td ty tx:TE):TE:=fun σ H Q=>td σ H fun x H1=>∃ a,x=.ref a∧IsD H1 a∧ty σ H1 fun y H2=>tx σ H2 fun z H3=>∃ o,DGet H3 a y o∧Q (o.getD z) H3
section
variable {X:Cx}{o e f:Expr}{apos cpos:Pos}{td ty tx:TE}
theorem wI (hu:X.A.units+1<cLine) (ho:Bx (PE X o td)) (he:Bx (PE X e ty)) (m:M1 X o "get" apos e cpos):Bx (PE X (.Call (.Attribute o "get" apos) [e] [] cpos) (Ue td ty)):=by
 have ho:=ho.of
 have he:=he.of
 refine⟨?_⟩
 intro pins s σ H Q I h
 refine wpAny_Call_method m.base m.few m.line PySem.F.plainAttrs_dict PySem.F.slot_dict_get PySem.F.type_dict_get (thn (ho pins s σ H _ I h) fun u s1 hq0=>?_)
 obtain⟨x,H1,I1,rx,a,ex,d,q1⟩:=hq0
 subst ex
 obtain rfl:u=Value.ref a:=rx
 obtain⟨t1,t2,_⟩:=xQ I1 d
 refine⟨t1,t2,?_⟩
 rw[m.trees]
 refine Calls.callWith_builtin rfl (Calls.evalArgs_plain (Calls.spliced_cons (thn (he pins s1 σ H1 _ I1 q1) fun iv s2 ⟨y,H2,I2,ry,ov,g,q2⟩=>Calls.spliced_nil ?_)))
 exact zbl hu I2 g ry fun w' s3 I3 rw'=>⟨_,H2,I3,rw',q2⟩
theorem uU (hu:X.A.units+1<cLine) (ho:Bx (PE X o td)) (he:Bx (PE X e ty)) (hf:Bx (PE X f tx)) (m:M2 X o "get" apos e f cpos):Bx (PE X (.Call (.Attribute o "get" apos) [e,f] [] cpos) (Ud td ty tx)):=by
 have ho:=ho.of
 have he:=he.of
 have hf:=hf.of
 refine⟨?_⟩
 intro pins s σ H Q I h
 refine wpAny_Call_method m.base m.few m.line PySem.F.plainAttrs_dict PySem.F.slot_dict_get PySem.F.type_dict_get (thn (ho pins s σ H _ I h) fun u s1 hq0=>?_)
 obtain⟨x,H1,I1,rx,a,ex,d,q1⟩:=hq0
 subst ex
 obtain rfl:u=Value.ref a:=rx
 obtain⟨t1,t2,_⟩:=xQ I1 d
 refine⟨t1,t2,?_⟩
 rw[m.trees]
 refine Calls.callWith_builtin rfl (Calls.evalArgs_plain (Calls.spliced_cons (thn (he pins s1 σ H1 _ I1 q1) fun iv s2 ⟨y,H2,I2,ry,q2⟩ =>
  Calls.spliced_cons (thn (hf pins s2 σ H2 _ I2 q2) fun fv s3 ⟨z,H3,I3,rz,ov,g,q3⟩=>Calls.spliced_nil ?_))))
 exact zbk hu I3 g ry rz fun w' s4 I4 rw'=>⟨_,H3,I4,rw',q3⟩
end
end L2
namespace Att
open PySem PySem.W PySem.Calls PyProof.Rows
theorem wz {P:Params}{h:Heap}:∀ (ns:LI) (vs:List Value),WellAll P h vs (ns.map WData.int)→IntsAre vs ns:=by
 intro ns
 induction ns with
 |nil =>
  intro vs w
  rw[List.map_nil] at w
  cases w
  exact .nil
 |cons n ns ih =>
  intro vs w
  rw[List.map_cons] at w
  cases w with
  |cons a b =>
   cases a
   exact .cons _ _ (ih _ b)
theorem ZE {l:OpenLaw}{n:Nat}(hn:l.most=some n){P:Params}{h:Heap}{args:List WData}{vals:List Value}
  (hpre:l.row.toRowW.claim.pre args=true) (hwl:WellAll P h vals args) :
  ∃ a vs ns,vals=[Value.ref a]∧args=[WData.list (ns.map WData.int)]∧h.get? a=some { cls:=.type "list",data:=.seq vs.toArray }∧IntsAre vs ns∧ns.length≤n:=by
 have hsh:WShape.hasAll [] args [.list .int]=true:=(pre_splitW hpre).1
 have hc:l.pre.holds [] { args:=args }=true:=(pre_splitW hpre).2
 obtain⟨d,r,rfl,h1,h2⟩:=hasAllW_cons hsh
 obtain rfl:=hasAllW_nil h2
 obtain⟨xs,rfl,h3⟩:=hasW_list h1
 obtain⟨ns,rfl⟩:=items_int h3
 have hlen:ns.length≤n:=by
  unfold OpenLaw.pre at hc
  have h4:(WTm.not (.lt (.lit (.int (n:Int))) (.len (.arg 0)))).holds [] { args:=[.list (ns.map .int)] }=true:=by
   have h4:=(holds_andW hc).1
   rw[hn] at h4
   exact h4
  have h5:=condW_of h4 (w_not (w_lt w_lit (w_len_list (w_arg rfl))))
  rw[List.length_map] at h5
  refine Nat.le_of_not_lt fun q=>?_
  have q':(n:Int)<((ns.length:Nat):Int):=by omega
  first
   |(rw[decide_eq_true q'] at h5;exact absurd h5 (by decide))
   |(simp at h5;omega)
 cases hwl with
 |cons w1 w2 =>
  cases w2
  cases w1 with
  |list ho hall=>exact⟨_,_,ns,rfl,rfl,ho,wz ns _ hall,hlen⟩
theorem ZI (l:OpenLaw) (args:List WData):l.row.toRowW.claim.post args (.bool true) args=true :=
 postW_of (r:=l.row.toRowW) (X:=(true == true))
  (show WShape.has [] (.bool true) .bool=true by first | rfl | decide | simp[WShape.has,WShape.arms,WShape.armsAll])
  (show(WTm.eq .res (.lit (.bool true))).value [] { args:=args,res:=some (.bool true),after:=args }=some (.bool (true == true)) from w_eq_bool (w_res rfl) w_lit) rfl
theorem attach_call {l:OpenLaw}{n:Nat}{q:Program}{loose:List Str}{XP:(Str→Option Value)→Heap→Prop}{YP:World→Heap→Prop}{d:DefRec}
  (hn:l.most=some n) (hdf:d.params.defaults=[])
  (call:∀ (w:World) (s₀ s₁:Shared) (mg mb:Str→Option Value) (fa:Addr) (o:Obj) (pm cd doc:Value) (a:Addr) (vs:List Value) (ns:LI),
   Ground q loose [] XP w s₀ mg mb s₁.heap→YP w s₁.heap →
   s₁.heap.get? fa=some o→o.data=.func (docDef d.name d.params d.body d.scope pm cd doc)→s₁.heap.CodeRec cd d.name→mg d.name=some (.ref fa) →
   s₁.heap.get? a=some { cls:=.type "list",data:=.seq vs.toArray }→IntsAre vs ns→ns.length≤n→s₁.gens = #[] →
   codeAny (model l.prog w) callerA (.call (.ref fa) ⟨[.ref a],[]⟩) (fun r s'=>r=.ok (.ret (.bool true))∧OldK s₁.heap s'.heap∧s'.os=s₁.os∧AllBare s'.gens) s₁) :
  WalkO q loose XP YP l.row.toRowW d [] (fun f vs=>PySem.call f vs):=by
 intro w s₀ s₁ mg mb G Y fa o pm cd doc dV kV ho hd hcd hD hmg hg args vals as hpre hlay hrd hwl hlo
 obtain rfl:dV=.none:=Dflts.none hD hdf
 obtain rfl:kV=.none:=Dflts.noKw hD
 obtain⟨a,vs,ns,rfl,rfl,hobj,hints,hlen⟩:=ZE hn hpre hwl
 refine enter_call (codeAny_mono (call w s₀ s₁ mg mb fa o pm cd doc a vs ns G Y ho (fd_plain hd) hcd hmg hobj hints hlen hg) fun r s' hq=>?_)
 obtain⟨rfl,h2,h3,h4⟩:=hq
 exact⟨.inl ⟨.bool true,.bool true,[],rfl,fun _=>rfl,.bool true,ZI l _,fun _=>⟨List.Pairwise.nil,fun _ hm=>(nomatch hm)⟩⟩,h2,h3,h4⟩
end Att
namespace L2
open PySem PySem.Spec PyProof.Rows
theorem vp:∀ {vs:List Value}{ns:LI},IntsAre vs ns→Vals (ns.map V.int) vs
 |_,_,.nil=>.nil
 |_,_,.cons n t h=>.cons ⟨t,rfl⟩ (vp h)
def zbq (H:Hp):Prop:=∀ b,H b=none∨∃ o xs,H b=some (.frz o (.lst xs))
theorem Y9 {P:Program}{w:World}{K:PySem.W.Frag}{mg mb:Str→Option Value}{CX:CXT}{k:Nat}{fa a:Addr}{fd:FuncData}{x:Str}{sp:Sp}{s₁:Shared}{vs:List Value}{ns:LI}
  (KX:K.In s₁.heap) (hns:s₁.heap.Ns mainGlobals mg) (hb:s₁.heap.Ns builtinsNs mb) (hbb:∀ x:Str,x ≠ "__name__" → mb x=bootBuiltins x) (hlim:s₁.heap.NoLimit) (hg:s₁.gens = #[])
  (ha:s₁.heap.get? a=some { cls:=.type "list",data:=.seq vs.toArray }) (hi:IntsAre vs ns) (hl:ns.length≤sizeLine) (hr:Room k callerA)
  (F:∀ base:Heap,K.In base→base.Ns mainGlobals mg→FnOk P w K mg base CX k fa fd [x] sp) (hbind:∀ (s:Shared) (u:Value),BindsTo s fd ⟨[u],[]⟩ [(x,u)])
  (hsp:∀ H:Hp,zbq H→SqL K H a (ns.map V.int)→sp [.ref a] H (fun v _=>v=.bl true) fun _ _ _=>False)
  (hCX:∀ H e s',CX [] H s₁ (fun _ _ _=>False) e s'→False) :
  codeAny (model P w) callerA (.call (.ref fa) ⟨[.ref a],[]⟩) (fun r s'=>r=.ok (.ret (.bool true))∧OldK s₁.heap s'.heap∧s'.os=s₁.os∧AllBare s'.gens) s₁:=by
 have rv:=vp hi
 have lenV:=hi.length
 -- from an abstract heap in which nothing but the script may be tracked
 have core:∀ H:Hp,zbq H→SqL K H a (ns.map V.int)→HOk P w H s₁.heap→(∀ b,H b≠none→b=a)→(H a≠none→K.lookup a=none) →
   codeAny (model P w) callerA (.call (.ref fa) ⟨[.ref a],[]⟩) (fun r s'=>r=.ok (.ret (.bool true))∧OldK s₁.heap s'.heap∧s'.os=s₁.os∧AllBare s'.gens) s₁:=by
  intro H hO hS hok hA hK
  have base_of:∀ {b:Addr}{o:Obj},s₁.heap.get? b=some o→H b=none→(Xd s₁.heap H).get? b=some o:=fun e n=>Xc e n
  have noA:∀ {b:Addr}{o:Obj}{es:Array DictEntry}{ep:Nat},s₁.heap.get? b=some o→o.data=.dict es ep→H b=none:=fun {b o es ep} e d=>by
   cases q:H b with
   |none=>rfl
   |some u =>
    have e':b=a:=hA b (by rw[q];simp)
    subst e'
    rw[ha] at e;cases e
    have d':Data.seq vs.toArray _=Data.dict es ep:=d
    cases d'
  have nsK:∀ {b:Addr}{m:Str→Option Value},s₁.heap.Ns b m→(Xd s₁.heap H).Ns b m:=fun {b m} ⟨o,es,ep,e,d,r⟩=>⟨o,es,ep,base_of e (noA e d),d,r⟩
  have hKb:K.In (Xd s₁.heap H):=fun b o e=>base_of (KX b o e) (by
   cases q:H b with
   |none=>rfl
   |some u =>
    have e':b=a:=hA b (by rw[q];simp)
    subst e'
    rw[hK (by rw[q];simp)] at e;cases e)
  have hM:Mod K mg (Xd s₁.heap H):=⟨hKb,nsK hns,⟨mb,nsK hb,hbb⟩,let ⟨mc,h1,h2⟩:=hlim;⟨mc,nsK h1,h2⟩⟩
  have e0:Env0 P w K mg (Xd s₁.heap H) callerA [] s₁ H:=⟨rfl,hM,fun b o e=>Ve e,Nat.le_of_eq (Z8 _ _),trivial,fun b hb=>absurd (show b∈([]:List Addr) from hb) (by simp),hok,.of_eq hg⟩
  refine codeAny_mono ((F _ hKb (nsK hns)).run callerA [] s₁ H ⟨[.ref a],[]⟩ [.ref a] [.ref a] _ _ hr e0 (hbind s₁ (.ref a)) (.cons rfl .nil) (hsp H hO hS)) fun r s' h=>?_
  cases r with
  |error e=>exact(hCX H e s' h).elim
  |ok fl =>
   cases fl with
   |next=>exact False.elim h
   |brk=>exact False.elim h
   |cont=>exact False.elim h
   |ret u =>
    obtain⟨v,H',os,bare,un,hok',r',q⟩:=h
    have q':v=.bl true:=q
    subst q'
    obtain rfl:u=Value.bool true:=r'
    refine⟨rfl,OldK.of_keep fun b o e=>?_,os,bare⟩
    cases q:H b with
    |none=>exact un.keep b o e q (by intro z;exact absurd (show b∈([]:List Addr) from z) (by simp)) (by simp)
    |some u =>
     rcases hO b with z | ⟨ob,xs,z⟩
     ·rw[q] at z;cases z
     ·have z2:=un.frzs b ob _ z
      obtain⟨e1,_⟩:=hok b _ z
      obtain⟨e2,_⟩:=hok' b _ z2
      rw[e] at e1;cases e1
      exact e2
 cases hk:K.lookup a with
 |some o =>
  -- the script is one of the module's own objects
  have e:=KX a o hk
  rw[ha] at e
  cases e
  refine core (fun _=>none) (fun _=>.inl rfl) (.inr ⟨_,vs.toArray,_,hk,rfl,rfl,rfl,by rw[List.size_toArray,lenV];exact hl,by simpa using rv⟩) (fun b u z=>by have z':(none:Option HO)=some u:=z;cases z') (fun b z=>absurd rfl z) fun z=>absurd rfl z
 |none =>
  refine core (fun b=>if b=a then some (.frz { cls:=.type "list",data:=.seq vs.toArray } (.lst (ns.map V.int))) else none) (fun b=>?_) (.inl (.inr ⟨{ cls:=.type "list",data:=.seq vs.toArray },if_pos rfl⟩)) (fun b u z=>?_) (fun b z=>?_) fun _=>hk
  ·by_cases hb:b=a
   ·exact .inr ⟨_,_,if_pos hb⟩
   ·exact .inl (if_neg hb)
  ·by_cases hb:b=a
   ·have z':=(if_pos hb).symm.trans z
    cases z'
    subst hb
    exact⟨ha,by rw[List.length_map];exact hl,vs,_,rv,ha⟩
   ·have z':=(if_neg hb).symm.trans z
    cases z'
  ·by_cases hb:b=a
   ·exact hb
   ·exact absurd (if_neg hb) z
abbrev KOf {K:PySem.W.Frag}{h:Heap}(_:K.In h):PySem.W.Frag:=K
theorem XN {l:PySem.W.OpenLaw}{n k:Nat}{q:Program}{loose:List Str}{XP:(Str→Option Value)→Heap→Prop}{YP:World→Heap→Prop}{d:DefRec}{K:Params→PySem.W.Frag}{CX:World→CXT}{sp:World→Sp}{x:Str}
  (hn:l.most=some n) (hn2:n≤sizeLine) (hdf:d.params.defaults=[]) (hr:Room k callerA)
  (hY:∀ (w:World) (h:Heap),YP w h→(K w.params).In h)
  (F:∀ (w:World) (mg:Str→Option Value) (fa:Addr) (h:Heap),(K w.params).In h→h.Ns mainGlobals mg→mg d.name=some (.ref fa) →
   ∃ fd:FuncData,(∀ (s:Shared) (u:Value),BindsTo s fd ⟨[u],[]⟩ [(x,u)]) ∧
    ∀ base:Heap,(K w.params).In base→base.Ns mainGlobals mg→FnOk l.prog w (K w.params) mg base (CX w) k fa fd [x] (sp w))
  (hsp:∀ (w:World) (H:Hp) (a:Addr) (ns:LI),ns.length≤n→zbq H→SqL (K w.params) H a (ns.map V.int)→sp w [.ref a] H (fun v _=>v=.bl true) fun _ _ _=>False)
  (hCX:∀ (w:World) (H:Hp) (s:Shared) (e:Value) (s':Shared),CX w [] H s (fun _ _ _=>False) e s'→False) :
  PySem.W.WalkO q loose XP YP l.row.toRowW d [] (fun f vs=>PySem.call f vs):=by
 refine Att.attach_call hn hdf fun w s₀ s₁ mg mb fa o pm cd doc a vs ns G Y ho hd hcd hmg hobj hints hlen hg=>?_
 have KX:=hY w _ Y
 obtain⟨fd,hb,hF⟩:=F w mg fa _ KX G.T.g hmg
 exact Y9 KX G.T.g G.T.b G.T.builtins G.T.nolimit hg hobj hints (Nat.le_trans hlen hn2) hr hF hb (fun H hO hS=>hsp w H a ns hlen hO hS) fun H e s'=>hCX w H s₁ e s'
theorem walk_ofK {l:PySem.W.OpenLaw}{n k:Nat}{q:Program}{loose:List Str}{XP:(Str→Option Value)→Heap→Prop}{YP:World→Heap→Prop}{d:DefRec}{K:Params→PySem.W.Frag}{CX:CXT}{sp:PySem.W.Frag→Sp}{x:Str}
  (hn:l.most=some n) (hn2:n≤sizeLine) (hdf:d.params.defaults=[]) (hr:Room k callerA)
  (hY:∀ (w:World) (h:Heap),YP w h→(K w.params).In h)
  (F:∀ (w:World) (mg:Str→Option Value) (fa:Addr) (h:Heap),(K w.params).In h→h.Ns mainGlobals mg→mg d.name=some (.ref fa) →
   ∃ fd:FuncData,(∀ (s:Shared) (u:Value),BindsTo s fd ⟨[u],[]⟩ [(x,u)]) ∧
    ∀ base:Heap,(K w.params).In base→base.Ns mainGlobals mg→FnOk l.prog w (K w.params) mg base CX k fa fd [x] (sp (K w.params)))
  (hsp:∀ (K:PySem.W.Frag) (H:Hp) (a:Addr) (ns:LI),ns.length≤n→zbq H→SqL K H a (ns.map V.int)→sp K [.ref a] H (fun v _=>v=.bl true) fun _ _ _=>False)
  (hCX:∀ (H:Hp) (s:Shared) (e:Value) (s':Shared),CX [] H s (fun _ _ _=>False) e s'→False) :
  PySem.W.WalkO q loose XP YP l.row.toRowW d [] (fun f vs=>PySem.call f vs) :=
 XN (K:=K) (CX:=fun _=>CX) (sp:=fun w=>sp (K w.params)) hn hn2 hdf hr hY F (fun w H a ns h1 h2 h3=>hsp (K w.params) H a ns h1 h2 h3) fun _ H s e s'=>hCX H s e s'
def inClass (s:Stmt) (j:Nat):Stmt:=match s with
 |.ClassDef _ _ _ body _ _ _ _ _ _ _=>body.getD j (.Pass ⟨0,0,0,0⟩)
 |_=>.Pass ⟨0,0,0,0⟩
def defArgs (s:Stmt):Arguments:=match s with
 |.FunctionDef _ a _ _ _ _ _ _ _ _=>a
 |_=>{ posonlyargs:=[],args:=[],vararg:=none,kwonlyargs:=[],kw_defaults:=[],kwarg:=none,defaults:=[] }
def defBody (s:Stmt):List Stmt:=match s with
 |.FunctionDef _ _ b _ _ _ _ _ _ _=>b
 |_=>[]
def defScope (s:Stmt):Scope:=match s with
 |.FunctionDef _ _ _ _ _ _ sc _ _ _=>sc
 |_=>{ kind:=.function,names:=[],isGenerator:=false,isCoroutine:=false }
abbrev CX0:CXT:=fun _ _ _ _ _ _=>False
abbrev E0:XK:=fun _ _ _=>False
theorem YO {X:Cx}:xS CX0 X E0:=fun _ _ _ _ _ _ _ h=>h.elim
structure Fun (K:PySem.W.Frag) (x qual:Str) (st:Stmt) (f:Addr) (fd:FuncData):Prop where
 ex:∃ (oc:Value) (od:Option Addr) (kV doc pm:Value) (an:Option Addr) (cdv ct:Value) (osl:Array (Option Value)),
  fd=PySem.W.fnOf x qual (defArgs st) (defBody st) (defScope st) .none kV doc pm an cdv ct∧K.lookup f=some ⟨oc,od,.func fd,osl⟩∧PySem.W.codeIn K cdv qual=true
 kp:PySem.W.keepIn K (.ref f)=true
section
variable {P:Program}{w:World}{K:PySem.W.Frag}{mg:Str→Option Value}{base:Heap}
theorem Fun.ok {x qual:Str}{st:Stmt}{f:Addr}{fd:FuncData}{N ps:List Str}{k:Nat}{sp:Sp}(F:Fun K x qual st f fd) (S:FnScope N ps (defScope st)) (len:∀ vs H Q E,sp vs H Q E→vs.length=ps.length)
  (hbody:∀ (cdv:Value) (A:Around) (outer:List Env) (s:Shared) (H:Hp) (vs:List V) (Q:VK) (E:XK),Room k (A.deeper (envOfC qual (defScope st) s.heap.objs.size f cdv))→sp vs H Q E →
   ∃ t,PSs (xR CX0 P w K mg base N qual (defScope st) f cdv A outer s H E).nox (defBody st) t∧t { nx:=fun _ H'=>Q .non H',rt:=Q } (start N vs) H):FnOk P w K mg base CX0 (k+1) f fd ps sp:=by
 obtain⟨oc,od,kV,doc,pm,an,cdv,ct,osl,rfl,lk,hcd⟩:=F.ex
 refine zbh lk hcd S len fun A outer s H vs Q E hr hsp=>?_
 obtain⟨t,h,q⟩:=hbody cdv A outer s H vs Q E hr hsp
 exact⟨t,h.nox,q⟩
theorem Fun.binds {x qual:Str}{st:Stmt}{f:Addr}{fd:FuncData}{ps:List Str}(F:Fun K x qual st f fd)
  (h:∀ (kV doc pm:Value) (an:Option Addr) (cdv ct:Value) (us:List Value),us.length=ps.length→bindArgs (PySem.W.fnOf x qual (defArgs st) (defBody st) (defScope st) .none kV doc pm an cdv ct) ⟨us,[]⟩=pure (ps.zip us)):Binds K fd ps []:=by
 obtain⟨oc,od,kV,doc,pm,an,cdv,ct,osl,rfl,lk,hcd⟩:=F.ex
 exact .all (h kV doc pm an cdv ct)
theorem fun_mk {x qual:Str}{st:Stmt}{f:Addr}{oc:Value}{od an:Option Addr}{osl:Array (Option Value)}{kV doc pm cdv ct:Value}(l:K.lookup f=some ⟨oc,od,.func (PySem.W.fnOf x qual (defArgs st) (defBody st) (defScope st) .none kV doc pm an cdv ct),osl⟩)
  (c:PySem.W.codeIn K cdv qual=true) (k:PySem.W.keepIn K (.ref f)=true):Fun K x qual st f (PySem.W.fnOf x qual (defArgs st) (defBody st) (defScope st) .none kV doc pm an cdv ct):=⟨⟨oc,od,kV,doc,pm,an,cdv,ct,osl,rfl,l,c⟩,k⟩
end
theorem yQ {A:Around}{k:Nat}(hr:Room k A):A.units+1<cLine:=Nat.lt_of_le_of_lt (Nat.add_le_add_left (by decide:1≤64) _) hr.units
theorem zj {n:Nat}(h:n≤1000):n<sizeLine:=Nat.lt_of_le_of_lt h (by decide)
section
variable {X:Cx}
theorem zf (i:Nat){x:Str}{pos:Pos}(hN:X.N[i]?=some x:=by rfl) (hv:Vis X.env.scope x:=by first | exact Or.inl rfl | exact Or.inr (Or.inl rfl) | exact Or.inr (Or.inr rfl)) (hd:(x == ("__debug__" : Str))=false:=by decide) (hcd:(x == ("__classdict__" : Str))=false:=by decide):Bx (PE X (.Name x pos) (zgG i)):=by
 exact⟨Uz hN hv hd hcd⟩
theorem vK:xj X (.builtin "len") (fun xs H Q=>∃ a kvs,xs=[V.ref a]∧H a=some (.dK kvs)∧Q (.int kvs.length) H):=by
 intro pins s σ H xs us Q I r h
 obtain⟨a,kvs,rfl,ha,q⟩:=h
 obtain⟨u,rfl,ru⟩:=uW r
 cases ru
 exact zgA I (.inl ha) fun t s' I'=>⟨.int kvs.length,H,I',⟨t,rfl⟩,q⟩
end
theorem zmL {A B:Prop}(h:B):if false=true then A else B:=by
 rw[if_neg Bool.false_ne_true]
 exact h
theorem xH {A B:Prop}(h:A):if true=true then A else B:=by
 rw[if_pos rfl]
 exact h
theorem ite2 {c A B:Prop} [Decidable c] (h1:c→A) (h2:¬ c→B):if c then A else B:=by
 by_cases h:c
 ·rw[if_pos h]
  exact h1 h
 ·rw[if_neg h]
  exact h2 h
def Same (H H':Hp):Prop:=∀ b o,H b=some o→H' b=some o
theorem Same.refl (H:Hp):Same H H:=fun _ _ h=>h
theorem Same.trans {H H1 H2:Hp}(a:Same H H1) (b:Same H1 H2):Same H H2:=fun c o h=>b c o (a c o h)
theorem Same.free {H H':Hp}(e:Same H H'){l:Addr}(h:H' l=Option.none):H l=Option.none:=by
 cases q:H l with
 |none=>rfl
 |some o =>
  rw[e l o q] at h
  cases h
section
variable {κ:Type} [DecidableEq κ]
theorem uo {kvs:List (κ×V)}{k:κ}(h:yL kvs k=none):¬ k∈kvs.map (·.1):=by
 intro m
 obtain⟨p,hp,e⟩:=List.mem_map.mp m
 have q:(kvs.any fun kv=>decide (kv.1=k))=true:=List.any_eq_true.mpr ⟨p,hp,decide_eq_true e⟩
 rw[yE,h] at q
 exact absurd q (by simp)
end
end L2
set_option maxHeartbeats 4000000
namespace L2
open PySem PySem.Spec PyProof.Rows
def zcl (t u:TS):TS:=fun D σ H=>∃ M:St→Hp→Prop,t { D with nx:=M } σ H∧∀ σ' H',M σ' H'→u D σ' H'
theorem wf {X:Cx}{st:Stmt}{rest:List Stmt}{t u:TS}(h1:Bx (PS X st t)) (h2:Bx (PSs X rest u)):Bx (PSs X (st::rest) (zcl t u)):=by
 have h1:=h1.of
 have h2:=h2.of
 refine⟨?_⟩
 intro pins s σ H D I h
 obtain⟨M,h,hM⟩:=h
 refine wpAny_execs_cons (thn (h1 pins s σ H { D with nx:=M } I h) fun f s1 q=>?_)
 cases f with
 |next =>
  obtain⟨σ',H',I',q⟩:=q
  exact h2 pins s1 σ' H' D I' (hM σ' H' q)
 |brk=>exact q
 |cont=>exact q
 |ret u=>exact q
theorem iteB {c:Bool}{A B:Prop}(hc:c=true) (h:A):if c=true then A else B:=by rw[if_pos hc];exact h
theorem iteN {c:Bool}{A B:Prop}(hc:c=false) (h:B):if c=true then A else B:=by rw[hc];exact zmL h
def PTs (X:Cx) (ifs:List Expr) (t:TT):Prop :=
 ∀ (pins:List (Addr×Obj)) (s:Shared) (σ:St) (H:Hp) (Q:Bool→Hp→Prop),Inv X pins σ H s→t σ H Q →
  wpAny (model X.prog X.w) X.A (forIn ifs true fun c r=>if r=true then do let ok ← isTrue c X.env (eval c X.env);pure (ForInStep.yield ok) else pure (ForInStep.yield r)) (TP X pins σ Q) X.xe s
def zcj:TT:=fun _ H Q=>Q true H
theorem VS {τ:St}{H:Hp}{A B:Hp→Prop}(h:A H):zcj τ H (fun b H5=>if b=true then A H5 else B H5):=by
 show if true=true then A H else B H
 exact xH h
theorem yG {X:Cx}:Bx (PTs X [] zcj):=by
 exact⟨fun _ _ _ H _ I h=>wpAny_tests_nil ⟨H,I,h⟩⟩
theorem yT {X:Cx}{c:Expr}{t:TT}(h:Bx (PT X c t)):Bx (PTs X [c] t):=by
 have h:=h.of
 exact⟨fun pins s σ H Q I hw=>wpAny_tests_one (h pins s σ H Q I hw)⟩
section
variable {prog:Program}{w:World}{A:Around}{R:Result→Shared→Prop}{s:Shared}
abbrev NoE:Value→Shared→Prop:=fun _ _=>False
theorem zdU {α:Type}{m:Sem α}{Q:α→Shared→Prop}{E:Value→Shared→Prop}{s:Shared}(h:wpAny (model prog w) A m Q NoE s):wpAny (model prog w) A m Q E s :=
 wpAny_mono h (fun _ _ q=>q) fun _ _ z=>z.elim
def Ys (prog:Program) (w:World) (A:Around) (env:Env) (tg:Expr) (ifs:List Expr) (elt:Expr) (it acc:Value) (again:Shared→Prop) (v:Value) (s1:Shared):Prop :=
 wpAny (model prog w) A (letOwnedTupleGo tg it v) (fun _ s2=>wpAny (model prog w) A (assign tg env v) (fun _ s3 =>
  wpAny (model prog w) A (forIn ifs true fun c r=>if r=true then do let ok ← isTrue c env (eval c env);pure (ForInStep.yield ok) else pure (ForInStep.yield r)) (fun ok s4 =>
   if ok=true then wpAny (model prog w) A (eval elt env) (fun x s5=>wpAny (model prog w) A (call (.builtin "list.append") [acc,x]) (fun _ s6=>again s6) NoE s5) NoE s4
   else again s4) NoE s3) NoE s2) NoE s1
theorem Ze {elt tg iter:Expr}{ifs:List Expr}{scope:Scope}{pos:Pos}{it acc:Value}{env:Env}(J:Nat→Shared→Prop)
  (turn:∀ n s,J n s→wpAny (model prog w) A (pyNext it) (fun r s1=>match r with
   |none=>R (.ok .next) s1
   |some v=>Ys prog w A env tg ifs elt it acc (fun s6=>∃ m,m<n∧J m s6) v s1) NoE s)
  (n:Nat) (h:J n s):codeAny (model prog w) A (.compLoop (.ListComp elt [⟨tg,iter,ifs,0⟩] scope pos) 0 it acc env) R s:=by
 refine codeAny_loop rfl J (fun n s hJ=>?_) n h
 show wpAny _ A ((compTurn (.ListComp elt [⟨tg,iter,ifs,0⟩] scope pos) 0 it acc env).onRaise (fun x=>do noteFrame x env;theTreesLotGoes x)) _ _ s
 refine wpAny_noted (zdU ?_)
 rw[compTurn_list]
 refine wpAny_bind (wpAny_standAt (wpAny_bind (thn (turn n s hJ) fun r s1 h1=>?_)))
 cases r with
 |none=>exact wpAny_pure h1
 |some v =>
  refine wpAny_bind (thn h1 fun _ s2 h2=>wpAny_bind (thn h2 fun _ s3 h3=>wpAny_bind (thn h3 fun ok s4 h4=>?_)))
  cases ok with
  |false=>exact wpAny_pure ⟨rfl,h4⟩
  |true=>exact wpAny_bind (wpAny_bind (thn h4 fun x s5 h5=>wpAny_bind (thn h5 fun _ s6 h6=>wpAny_pure (wpAny_pure ⟨rfl,h6⟩))))
end
theorem ue {env:Env}:∀ (names:List (Str×NameKind)) (acc:List (Str×Addr)),(∀ y∈names,y.2=.free→∃ c,env.cells.lookup y.1=some c)→(∀ x c,acc.lookup x=some c→env.cells.lookup x=some c) →
  ∃ cl,(forIn names acc (fun(y:Str×NameKind) (cs:List (Str×Addr))=>(if (y.2 == NameKind.free)=true then(do let c ← cellOf env y.1;pure (ForInStep.yield ((y.1,c)::cs))) else pure (ForInStep.yield cs):Sem (ForInStep (List (Str×Addr))))))=(pure cl:Sem (List (Str×Addr))) ∧
   (∀ x c,cl.lookup x=some c→env.cells.lookup x=some c)∧(∀ x,(acc.lookup x).isSome=true→(cl.lookup x).isSome=true)∧(∀ y∈names,y.2=.free→(cl.lookup y.1).isSome=true)
 |[],acc,_,h2=>⟨acc,rfl,h2,fun _ h=>h,fun y hy=>by cases hy⟩
 |(n,k)::r,acc,h1,h2=>by
  have h1':∀ y∈r,y.2=.free→∃ c,env.cells.lookup y.1=some c:=fun y hy=>h1 y (List.mem_cons_of_mem _ hy)
  by_cases hk:k=.free
  ·subst hk
   obtain⟨c,hc⟩:=h1 (n,.free) List.mem_cons_self rfl
   have h2':∀ x c',(((n,c)::acc:List (Str×Addr)).lookup x)=some c'→env.cells.lookup x=some c':=fun x c' e=>by
    rw[List.lookup_cons] at e
    by_cases hx:(x == n)=true
    ·rw[hx] at e
     cases e
     rw[beq_iff_eq.mp hx]
     exact hc
    ·rw[Bool.not_eq_true] at hx
     rw[hx] at e
     exact h2 x c' e
   obtain⟨cl,e,p1,p2,p3⟩:=ue r ((n,c)::acc) h1' h2'
   refine⟨cl,?_,p1,fun x hx=>p2 x ?_,fun y hy hf=>?_⟩
   ·rw[List.forIn_cons]
    have q:cellOf env n=pure c:=by unfold cellOf;rw[hc]
    simp only[beq_self_eq_true,if_true,q,pure_bind]
    exact e
   ·rw[List.lookup_cons]
    cases q:x == n with
    |true=>rfl
    |false=>exact hx
   ·rcases List.mem_cons.mp hy with rfl | hy
    ·exact p2 n (by rw[List.lookup_cons,beq_self_eq_true];rfl)
    ·exact p3 y hy hf
  ·obtain⟨cl,e,p1,p2,p3⟩:=ue r acc h1' h2
   have hb:(k == NameKind.free)=false:=by simpa using hk
   refine⟨cl,?_,p1,p2,fun y hy hf=>?_⟩
   ·rw[List.forIn_cons]
    simp only[hb,Bool.false_eq_true,if_false,pure_bind]
    exact e
   ·rcases List.mem_cons.mp hy with rfl | hy
    ·exact absurd hf hk
    ·exact p3 y hy hf
structure Clos (env:Env) (scope:Scope) (cl:List (Str×Addr)):Prop where
 eq:closureFor scope env=pure cl
 sub:∀ x c,cl.lookup x=some c→env.cells.lookup x=some c
 all:∀ y∈scope.names,y.2=.free→(cl.lookup y.1).isSome=true
theorem Ym {env:Env}{scope:Scope}(h:∀ y∈scope.names,y.2=.free→∃ c,env.cells.lookup y.1=some c):∃ cl,Clos env scope cl:=by
 obtain⟨cl,e,p1,p2,p3⟩:=ue (env:=env) scope.names [] h (fun x c z=>by simp at z)
 refine⟨cl,⟨?_,p1,p3⟩⟩
 have q:closureFor scope env=(forIn scope.names [] (fun(y:Str×NameKind) (cs:List (Str×Addr))=>(if (y.2 == NameKind.free)=true then(do let c ← cellOf env y.1;pure (ForInStep.yield ((y.1,c)::cs))) else pure (ForInStep.yield cs):Sem (ForInStep (List (Str×Addr))))) >>= fun s=>pure s):=rfl
 rw[q,e,pure_bind]
abbrev xm (X:Cx) (scope:Scope) (N':List Str) (cl:List (Str×Addr)) (C:Addr) (s₀:Shared) (H₀:Hp) (fp:List Addr):Cx :=
 { X with N:=N',s₀:=s₀,H₀:=H₀,env:=compEnvC scope cl C X.env,outer:=X.stack,ex:=fp,fn:=fun _=>false,pn:=[],xe:=NoE }
structure Blk where
 cl:List (Str×Addr)
 C:Addr
 s₀:Shared
 H₀:Hp
 fp:List Addr
abbrev cxB (X:Cx) (scope:Scope) (N':List Str) (b:Blk):Cx:=xm X scope N' b.cl b.C b.s₀ b.H₀ b.fp
def Z4:Option NameKind→Bool
 |some .cell=>true
 |some .free=>true
 |_=>false
theorem wb {k:Option NameKind}(h:Z4 k=true):k=some .cell∨k=some .free:=by
 cases k with
 |none=>cases h
 |some k=>cases k<;>first | exact .inl rfl | exact .inr rfl | cases h
def Xo (N:List Str) (kd kd':Str→Option NameKind) (N':List Str) (t:Nat):List Nat→Nat→Bool
 |[],k=>N'.length == t+k
 |j::r,k=>(match N[j]?,N'[t+k]? with
  |some x,some y=>(x == y)&&Z4 (kd x)&&Z4 (kd' x)
  |_,_=>false)&&Xo N kd kd' N' t r (k+1)
theorem vJ {N:List Str}{kd kd':Str→Option NameKind}{N':List Str}{t:Nat}:∀ {caps:List Nat}{k:Nat},Xo N kd kd' N' t caps k=true→N'.length=t+k+caps.length
 |[],k,h=>by
  have:=beq_iff_eq.mp h
  simpa using this
 |j::r,k,h=>by
  have:=vJ (Bool.and_eq_true_iff.mp h).2
  rw[List.length_cons]
  omega
theorem uP {N:List Str}{kd kd':Str→Option NameKind}{N':List Str}{t:Nat}:∀ {caps:List Nat}{k i j:Nat},Xo N kd kd' N' t caps k=true→caps[i]?=some j →
  ∃ x,N[j]?=some x∧N'[t+k+i]?=some x∧Z4 (kd x)=true∧Z4 (kd' x)=true
 |[],_,_,_,_,e=>by simp at e
 |j::r,k,0,j',h,e=>by
  simp at e
  subst e
  have h1:=(Bool.and_eq_true_iff.mp h).1
  cases q:N[j]? with
  |none=>rw[q] at h1;cases h1
  |some x =>
   cases q':N'[t+k]? with
   |none=>rw[q,q'] at h1;cases h1
   |some y =>
    rw[q,q'] at h1
    obtain⟨h2,h3⟩:=Bool.and_eq_true_iff.mp h1
    obtain⟨h4,h5⟩:=Bool.and_eq_true_iff.mp h2
    obtain rfl:x=y:=beq_iff_eq.mp h4
    exact⟨x,rfl,rfl,h5,h3⟩
 |j::r,k,i+1,j',h,e=>by
  obtain⟨x,a,b,c,d⟩:=uP (i:=i) (Bool.and_eq_true_iff.mp h).2 (by simpa using e)
  refine⟨x,a,?_,c,d⟩
  have q:t+(k+1)+i=t+k+(i+1):=by omega
  rw[← q]
  exact b
structure CompOk (X:Cx) (scope:Scope) (N':List Str) (t:Nat) (caps:List Nat):Prop where
 kind:scope.kind=.function
 shape:(scope.names.all fun y=>(y.2 == .local&&scope.names.lookup y.1 == some .local)||(y.2 == .free&&Z4 (X.env.kindOf y.1))||(y.2 == .globalImplicit))=true
 cap:Xo X.N X.env.kindOf (compEnvC scope [] 0 X.env).kindOf N' t caps 0=true
theorem CompOk.at {X:Cx}{scope:Scope}{N':List Str}{t:Nat}{caps:List Nat}(S:CompOk X scope N' t caps){y:Str×NameKind}(hy:y∈scope.names) :
  y.2≠.cell∧(y.2=.local→scope.names.lookup y.1=some .local)∧(y.2=.free→Z4 (X.env.kindOf y.1)=true):=by
 have h:=List.all_eq_true.mp S.shape y hy
 obtain⟨n,k⟩:=y
 cases k<;>simp at h<;>simp[h]
def zbo (t:Nat) (caps:List Nat) (σ:St):St:=List.replicate t none++caps.map fun j=>(σ[j]?).join
theorem xK {scope:Scope}{env:Env}{x:Str}:∀ {names:List (Str×NameKind)},(∀ y∈names,y.2≠.cell)→Z4 ((names.map fun(y:Str×NameKind)=>if (y.2 == NameKind.free&&env.scope.kind == .function&&env.kindOf y.1 == some .cell)=true then(y.1,NameKind.cell) else(y.1,y.2)).lookup x)=true →
  (x,NameKind.free)∈names
 |[],_,h=>by simp[Z4] at h
 |(n,k)::r,hn,h=>by
  have hr:∀ y∈r,y.2≠.cell:=fun y hy=>hn y (List.mem_cons_of_mem _ hy)
  have hk:k≠.cell:=hn (n,k) List.mem_cons_self
  rw[List.map_cons] at h
  by_cases hx:(x == n)=true
  ·obtain rfl:x=n:=beq_iff_eq.mp hx
   have q:k=.free:=by
    by_cases hf:k=.free
    ·exact hf
    ·exfalso
     have hb:(k == NameKind.free)=false:=by simpa using hf
     simp only[hb,Bool.false_and,Bool.false_eq_true,if_false,List.lookup_cons,beq_self_eq_true] at h
     cases k<;>simp[Z4] at h hk hf
   subst q
   exact List.mem_cons_self
  ·rw[Bool.not_eq_true] at hx
   refine List.mem_cons_of_mem _ (xK (scope:=scope) (env:=env) hr ?_)
   by_cases hc:(k == NameKind.free&&env.scope.kind == .function&&env.kindOf n == some .cell)=true
   ·simp only[hc,if_true,List.lookup_cons,hx] at h
    exact h
   ·rw[Bool.not_eq_true] at hc
    simp only[hc,Bool.false_eq_true,if_false,List.lookup_cons,hx] at h
    exact h
def Zi (J:It) (g:TG) (tc:TT) (te:TE) (Q:VK) (D:Addr) (τ0:St) (H0:Hp):Prop :=
 ∃ W:Nat→Nat→List V→St→Hp→Prop,(∃ m,W 0 m [] τ0 H0)∧∀ i m ys τ H,W i m ys τ H →
  (J.stop i H∧Q (.ref D) H)∨(J.go i H∧∃ N:List V→St→Hp→Prop,(∀ zs τ' H',N zs τ' H'→∃ m',m'<m∧W (i+1) m' zs τ' H')∧∀ x H3,J.yld i H x H3→g x τ H3 fun τ2 H4=>tc τ2 H4 fun b H5 =>
   if b=true then te τ2 H5 fun y H6=>H6 D=some (.lst ys)∧ys.length<sizeLine∧N (ys++[y]) τ2 (upd H6 D (.lst (ys++[y]))) else N ys τ2 H5)
def Ug (wi:TI) (g:Blk→TG) (tc:Blk→TT) (te:Blk→TE) (t:Nat) (caps:List Nat):TE:=fun σ H Q =>
 wi σ H fun J H1=>∀ D,H1 D=none→∀ b:Blk,Zi J (g b) (tc b) (te b) Q D (zbo t caps σ) (upd H1 D (.lst []))
theorem ud {J:It}{g:TG}{tc:TT}{te:TE}{Q:VK}{D:Addr}{τ0:St}{H0:Hp}(n:Nat) (Pv:Nat→List V→St→Hp→Prop) (h0:Pv 0 [] τ0 H0)
  (hst:∀ zs τ H,Pv n zs τ H→J.stop n H∧Q (.ref D) H)
  (hgo:∀ i zs τ H,i<n→Pv i zs τ H→J.go i H∧∀ x H3,J.yld i H x H3→g x τ H3 fun τ2 H4=>tc τ2 H4 fun b H5 =>
   if b=true then te τ2 H5 fun y H6=>H6 D=some (.lst zs)∧zs.length<sizeLine∧Pv (i+1) (zs++[y]) τ2 (upd H6 D (.lst (zs++[y]))) else Pv (i+1) zs τ2 H5):Zi J g tc te Q D τ0 H0:=by
 refine⟨fun i m zs τ H=>m=n-i∧i≤n∧Pv i zs τ H,⟨n,by simp,Nat.zero_le _,h0⟩,?_⟩
 rintro i m zs τ H ⟨rfl,hi,p⟩
 by_cases hlt:i<n
 ·obtain⟨go,step⟩:=hgo i zs τ H hlt p
  exact .inr ⟨go,Pv (i+1),fun zs' τ' H' p'=>⟨n-(i+1),by omega,rfl,hlt,p'⟩,step⟩
 ·have e:i=n:=by omega
  subst e
  exact .inl (hst zs τ H p)
theorem yh {K:PySem.W.Frag}{a:Addr}{xs:List V}{g:TG}{tc:TT}{te:TE}{Q:VK}{D:Addr}{τ0:St}{H0:Hp}(Pv:Nat→List V→St→Hp→Prop) (h0:Pv 0 [] τ0 H0) (hl:∀ i zs τ H,Pv i zs τ H→SqL K H a xs)
  (hs:∀ i x zs τ H,xs[i]?=some x→Pv i zs τ H→g x τ H fun τ2 H4=>tc τ2 H4 fun b H5 =>
   if b=true then te τ2 H5 fun y H6=>H6 D=some (.lst zs)∧zs.length<sizeLine∧Pv (i+1) (zs++[y]) τ2 (upd H6 D (.lst (zs++[y]))) else Pv (i+1) zs τ2 H5)
  (hd:∀ zs τ H,Pv xs.length zs τ H→Q (.ref D) H):Zi (Itl K a) g tc te Q D τ0 H0 :=
 ud xs.length Pv h0 (fun zs τ H p=>⟨⟨xs,hl _ _ _ _ p,Nat.le_refl _⟩,hd zs τ H p⟩) fun i zs τ H hi p=>⟨⟨xs,xs[i],hl _ _ _ _ p,by simp[hi]⟩,fun x H3 y=>by
  obtain⟨e,y⟩:=y
  subst e
  exact hs i x zs τ _ (y xs (hl _ _ _ _ p)) p⟩
theorem Xm {K:PySem.W.Frag}{a:Addr}{xs:List V}{g:TG}{tc:TT}{te:TE}{Q:VK}{D:Addr}{τ0:St}{H0:Hp}(Pv:Nat→List V→St→Hp→Prop) (h0:Pv 0 [] τ0 H0) (hl:∀ i zs τ H,Pv i zs τ H→SqT K H a xs)
  (hs:∀ i x zs τ H,xs[i]?=some x→Pv i zs τ H→g x τ H fun τ2 H4=>tc τ2 H4 fun b H5 =>
   if b=true then te τ2 H5 fun y H6=>H6 D=some (.lst zs)∧zs.length<sizeLine∧Pv (i+1) (zs++[y]) τ2 (upd H6 D (.lst (zs++[y]))) else Pv (i+1) zs τ2 H5)
  (hd:∀ zs τ H,Pv xs.length zs τ H→Q (.ref D) H):Zi (Itt K a) g tc te Q D τ0 H0 :=
 ud xs.length Pv h0 (fun zs τ H p=>⟨⟨xs,hl _ _ _ _ p,Nat.le_refl _⟩,hd zs τ H p⟩) fun i zs τ H hi p=>⟨⟨xs,xs[i],hl _ _ _ _ p,by simp[hi]⟩,fun x H3 y=>by
  obtain⟨e,y⟩:=y
  subst e
  exact hs i x zs τ _ (y xs (hl _ _ _ _ p)) p⟩
section
variable {X:Cx}{tg iter elt:Expr}{ifs:List Expr}{scope:Scope}{pos:Pos}{N':List Str}{t:Nat}{caps:List Nat}{g:Blk→TG}{tc:Blk→TT}{te:Blk→TE}{wi:TI}
theorem FpOk.heap {pins:List (Addr×Obj)}{H H':Hp}{b:Addr}(f:FpOk X pins H b) (h:H' b=none):FpOk X pins H' b:=⟨h,f.2⟩
theorem vH {cl:List (Str×Addr)}{J:It}{fp:List Addr}{it:Addr}{tn:Nat→Heap→Prop}{pins:List (Addr×Obj)}{σ:St}{H2:Hp}{s2:Shared}{Q:VK}{E:Value→Shared→Prop}
  (hc:X.calm=true) (S:CompOk X scope N' t caps) (L:Clos X.env scope cl)
  (hg:∀ b,PG (cxB X scope N' b) tg (g b)) (ht:∀ b,PTs (cxB X scope N' b) ifs (tc b)) (he:∀ b,PE (cxB X scope N' b) elt (te b))
  (I2:Inv X pins σ H2 s2) (T:Turn X.prog X.w X.K tg J fp it tn) (st2:tn 0 s2.heap) (f2:∀ b∈fp,FpOk X pins H2 b)
  (R:∀ D,H2 D=none→∀ b,Zi J (g b) (tc b) (te b) Q D (zbo t caps σ) (upd H2 D (.lst []))) :
  wpAny (model X.prog X.w) X.A (newList []) (fun acc s3=>wpAny (model X.prog X.w) X.A (newFunctionEnv scope X.env.globals cl [] X.env.qual none .none (some X.env)) (fun cenv s4 =>
   codeAny (model X.prog X.w) X.A (.compStart (.ListComp elt [⟨tg,iter,ifs,0⟩] scope pos) 0 (.ref it) acc { cenv with scope:=relabel scope X.env })
    (fun r s'=>∃ (D:Addr) (H':Hp) (m:Str→Option Value),acc=.ref D∧r=.ok .next∧Inv X pins σ H' s'∧s'.heap.Ns cenv.locals m∧FpOk X pins H' cenv.locals∧Q (.ref D) H') s4) E s3) E s2:=by
 refine wpAny_newObj_type ?_
 have I3:Inv X pins σ (upd H2 s2.heap.objs.size (.lst [])) { s2 with heap:=s2.heap.push { cls:=.type "list",data:=.seq ([]:List Value).toArray } }:=I2.lnew (t':=s2.toks) .nil (Nat.zero_le _)
 have hD:H2 s2.heap.objs.size=none:=I2.fresh
 have R:=R _ hD
 generalize hs3:({ s2 with heap:=s2.heap.push { cls:=.type "list",data:=.seq ([]:List Value).toArray } }:Shared)=s3 at I3 ⊢
 generalize hH3:upd H2 s2.heap.objs.size (.lst [])=H3 at I3 R
 generalize hDD:s2.heap.objs.size=D at R ⊢
 have k3:∀ b o,s2.heap.get? b=some o→s3.heap.get? b=some o:=fun b o e=>by rw[← hs3];exact Heap.get?_push_of_some _ e
 have st3:tn 0 s3.heap:=T.keep 0 _ _ st2 fun b _ o e=>k3 b o e
 have fpn:∀ b∈fp,H3 b=none:=fun b hb=>by
  obtain⟨o,e,_⟩:=T.obj 0 _ st2 b hb
  rw[← hH3,upd_ne (Nat.ne_of_lt (Heap.lt_size e))]
  exact(f2 b hb).1
 have f3:∀ b∈fp,FpOk X pins H3 b:=fun b hb=>(f2 b hb).heap (fpn b hb)
 refine wpAny_newFunctionEnv (fun y hy=>(S.at hy).1) (by intro y hy;simp at hy) (fun h4 hns hsb=>?_) S.kind
 generalize hC:s3.heap.objs.size=C at hns hsb ⊢
 have k4:∀ b o,s3.heap.get? b=some o→h4.get? b=some o:=fun b o e=>hsb.extBut b o (by rw[← hC];exact Nat.ne_of_lt (Heap.lt_size e)) (Heap.get?_push_of_some _ e)
 have cellsub:∀ x c,(xm X scope N' cl C s3 H3 fp).env.cells.lookup x=some c→X.env.cells.lookup x=some c:=L.sub
 have hnc:∀ y∈scope.names,y.2≠.cell:=fun y hy=>(S.at hy).1
 have fC:∀ {H':Hp},H' C=none→FpOk X pins H' C:=fun h=>by rw[← hC] at h ⊢;exact I3.fpOk (Nat.le_refl _) h
 have I4:Inv (xm X scope N' cl C s3 H3 fp) [] (zbo t caps σ) H3 { s3 with heap:=h4,toks:=s3.toks+([]:List (Str×Value)).length }:=by
  refine⟨⟨I3.ok.mod,S.kind,I3.ok.glob,I3.ok.blt,Nat.le_of_eq hC,fun x y c h1 h2=>I3.ok.inj x y c (L.sub _ _ h1) (L.sub _ _ h2),fun x hx=>?_,fun x c h _=>absurd (show false=true from h) Bool.false_ne_true,I3.ok.hd,I3.ok.frames,.inl rfl,fun b hb=>⟨?_,fun x c e=>(f3 b hb).2.2.2.2.1 x c (L.sub x c e)⟩,
    I3.bs,Nat.le_trans I3.ok.bsz I3.sz,fun b o e hb=>?_,fun b hb z=>?_,I3.stack,I3.stkFree⟩,
   rfl,I3.bare,Un.kept k4,⟨_,hns,fun i x v e1 e2 e3=>?_⟩,fun x c e=>?_,(by rw[← hC];exact I3.fresh),fun x c e=>I3.freeC x c (L.sub x c e),fun p hp=>?_,I3.hok.kept k4,?_⟩
  ·have hx':Z4 ((relabel scope X.env).names.lookup x)=true:=by
    rcases hx with q | q
    ·rw[show(relabel scope X.env).names.lookup x=some .cell from q];rfl
    ·rw[show(relabel scope X.env).names.lookup x=some .free from q];rfl
   exact Option.isSome_iff_exists.mp (L.all _ (xK (scope:=scope) hnc hx') rfl)
  ·obtain⟨o,e,_⟩:=T.obj 0 _ st3 b hb
   rw[← hC]
   exact Nat.ne_of_lt (Heap.lt_size e)
  ·rcases(f3 b hb).2.2.2.1 with z | z
   ·exact I3.ok.noex b o e z
   ·exact absurd (Nat.lt_of_lt_of_le (Nat.lt_of_lt_of_le (Heap.lt_size e) I3.ok.bsz) z) (Nat.lt_irrefl _)
  ·rcases List.mem_cons.mp (I3.stkSub b z) with q | q
   ·exact(f3 b hb).2.1 q
   ·exact(f3 b hb).2.2.1 q
  ·-- a name that was taken over
   unfold zbo at e2
   by_cases hi:i<t
   ·rw[List.getElem?_append_left (by simpa using hi),List.getElem?_replicate] at e2
    simp[hi] at e2
   ·rw[List.getElem?_append_right (by simpa using hi),List.length_replicate,List.getElem?_map] at e2
    cases q:caps[i-t]? with
    |none=>rw[q] at e2;simp at e2
    |some j =>
     rw[q] at e2
     obtain⟨y,c1,c2,c3,c4⟩:=uP S.cap q
     have ei:t+0+(i-t)=i:=by omega
     rw[ei] at c2
     have exy:x=y:=Option.some.inj ((show N'[i]?=some x from e1).symm.trans c2)
     subst exy
     have e2':σ[j]?=some (some v):=by
      have e2:(σ[j]?).join=some v:=Option.some.inj e2
      cases r:σ[j]? with
      |none=>rw[r] at e2;cases e2
      |some z =>
       rw[r] at e2
       have e2:z=some v:=e2
       rw[e2]
     obtain⟨m,hn,hl⟩:=I3.loc
     have cf:=wb c3
     obtain⟨u,ru,lk⟩:=hl j x v c1 e2' (.inr (by
      rcases cf with z | z
      ·exact .inl z
      ·exact .inr z))
     refine⟨u,ru,.inr ⟨wb c4,?_⟩⟩
     rcases lk with⟨z,_⟩ | ⟨_,c,ec,zc⟩
     ·rcases cf with w | w<;>(rw[z] at w;cases w)
     ·have hfree:=xK (scope:=scope) (env:=X.env) (x:=x) hnc c4
      obtain⟨c',ec'⟩:=Option.isSome_iff_exists.mp (L.all _ hfree rfl)
      have:=L.sub _ _ ec'
      rw[show X.env.cells.lookup x=some c from ec] at this
      cases this
      obtain⟨o,ho,hd⟩:=zc
      exact⟨c,ec',o,k4 _ _ ho,hd⟩
  ·obtain⟨v,o,ho,hd⟩:=I3.cell x c (L.sub x c e)
   exact⟨v,o,k4 _ _ ho,hd⟩
  ·exact absurd (show p∈([]:List (Addr×Obj)) from hp) (by simp)
  ·unfold zbo
   rw[List.length_append,List.length_replicate,List.length_map,vJ S.cap]
   omega
 obtain⟨W,⟨m0,w0⟩,turn⟩:=R ⟨cl,C,s3,H3,fp⟩
 -- back to the frame outside
 have back:∀ {τ:St}{H':Hp}{s':Shared},Inv (xm X scope N' cl C s3 H3 fp) [] τ H' s'→Inv X pins σ H' s':=fun {τ H' s'} J=>by
  refine I3.call' (ch:=fp) (J.os.trans ?_) J.base J.hok J.bare fun b hb=>⟨(f3 b hb).2.2.2.1,(f3 b hb).2.1,(f3 b hb).2.2.2.2.1,(f3 b hb).2.2.2.2.2⟩
  rfl
 have stat:∀ {H':Hp},(∀ b∈fp,H' b=none)→∀ b∈fp,FpOk (xm X scope N' cl C s3 H3 fp) [] H' b:=fun {H'} hn b hb=>by
  refine⟨hn b hb,(I4.ok.exf b hb).1,I4.ok.exfs b hb,.inl hb,(I4.ok.exf b hb).2,fun p hp=>?_⟩
  exact absurd (show p∈([]:List (Addr×Obj)) from hp) (by simp)
 have loop:codeAny (model X.prog X.w) X.A (.compLoop (.ListComp elt [⟨tg,iter,ifs,0⟩] scope pos) 0 (.ref it) (.ref D) (compEnvC scope cl C X.env))
   (fun r s'=>∃ (D':Addr) (H':Hp) (m:Str→Option Value),Value.ref D=.ref D'∧r=.ok .next∧Inv X pins σ H' s'∧s'.heap.Ns C m∧FpOk X pins H' C∧Q (.ref D') H') { s3 with heap:=h4,toks:=s3.toks+([]:List (Str×Value)).length }:=by
  refine Ze (fun n s'=>∃ i ys τ H',Inv (xm X scope N' cl C s3 H3 fp) [] τ H' s'∧tn i s'.heap∧(∀ b∈fp,H' b=none)∧W i n ys τ H') ?_ m0 ⟨0,[],_,H3,I4,T.keep 0 _ _ st3 fun b _ o e=>k4 b o e,fpn,w0⟩
  rintro n s5 ⟨i,ys,τ,H5,I5,st5,fr5,w5⟩
  rcases turn i n ys τ H5 w5 with⟨stop,q⟩ | ⟨go,N,hN,step⟩
  ·refine thn (T.done (xm X scope N' cl C s3 H3 fp) rfl rfl rfl hc i [] s5 τ H5 NoE I5 (stat fr5) st5 stop) fun r s6 ⟨hr,I6⟩=>?_
   subst hr
   obtain⟨m,hm,_⟩:=id I6.loc
   exact⟨D,H5,m,rfl,rfl,back I6,hm,fC I6.free,q⟩
  ·refine thn (T.item (xm X scope N' cl C s3 H3 fp) rfl rfl rfl hc i [] s5 τ H5 NoE I5 (stat fr5) st5 go) fun r s6 ⟨u,hr,h6⟩=>?_
   subst hr
   refine thn h6 fun _ s7 hq0=>?_
   obtain⟨x,H7,I7,r7,y7,st7,fr7⟩:=hq0
   have I7':=I7.pinned (stat fr7) (T.obj _ _ st7)
   have again:∀ {τ9:St}{H9:Hp}{s9:Shared}{ys9:List V}{m':Nat},Inv (xm X scope N' cl C s3 H3 fp) ([]++vz fp s7.heap) τ9 H9 s9→m'<n→W (i+1) m' ys9 τ9 H9 →
     ∃ m,m<n∧∃ i ys τ H',Inv (xm X scope N' cl C s3 H3 fp) [] τ H' s9∧tn i s9.heap∧(∀ b∈fp,H' b=none)∧W i m ys τ H':=fun {τ9 H9 s9 ys9 m'} I9 hm w9=>by
    refine⟨m',hm,i+1,ys9,τ9,H9,I9.unpinned,T.keep _ _ _ st7 fun b hb o e=>(I9.pin (b,o) (List.mem_append_right _ (List.mem_append_right _ (xc hb e)))).1,fun b hb=>?_,w9⟩
    obtain⟨o,e,_⟩:=T.obj _ _ st7 b hb
    exact(I9.pin (b,o) (List.mem_append_right _ (List.mem_append_right _ (xc hb e)))).2.1
   refine thn (hg ⟨cl,C,s3,H3,fp⟩ _ s7 τ H7 x u _ I7' r7 (step x H7 y7)) fun _ s8 hq0=>?_
   obtain⟨τ8,H8,I8,q8⟩:=hq0
   refine thn (ht ⟨cl,C,s3,H3,fp⟩ _ s8 τ8 H8 _ I8 q8) fun ok s9 hq0=>?_
   obtain⟨H9,I9,q9⟩:=hq0
   cases ok with
   |false =>
    obtain⟨m',hm,w9⟩:=hN _ _ _ (show N ys τ8 H9 from q9)
    exact again I9 hm w9
   |true =>
    refine thn (he ⟨cl,C,s3,H3,fp⟩ _ s9 τ8 H9 _ I9 q9) fun y s10 hq0=>?_
    obtain⟨z,H10,I10,r10,hl,hz,q10⟩:=hq0
    refine thn (zL _ s10 τ8 H10 (.ref D) [z] (.ref D) [y] (fun v H11=>v=.non∧H11=upd H10 D (.lst (ys++[z]))) I10 rfl (.cons r10 .nil) ⟨D,ys,z,rfl,rfl,hl,hz,rfl,rfl⟩) fun _ s11 hq0=>?_
    obtain⟨v,H11,I11,_,_,e11⟩:=hq0
    subst e11
    obtain⟨m',hm,w10⟩:=hN _ _ _ q10
    exact again I11 hm w10
 exact codeAny_compStart_list loop (T.self _ 0 _ _ _ (T.keep 0 _ _ st3 fun b _ o e=>k4 b o e) loop)
theorem yt (hc:X.calm=true) (S:CompOk X scope N' t caps) (hi:Bx (PI X tg iter wi)) (hg:∀ b,Bx (PG (cxB X scope N' b) tg (g b))) (ht:∀ b,Bx (PTs (cxB X scope N' b) ifs (tc b))) (he:∀ b,Bx (PE (cxB X scope N' b) elt (te b))) (hs:∀ x,foldedSetIterable iter X.env x=pure x:=by intro _;rfl):Bx (PE X (.ListComp elt [⟨tg,iter,ifs,0⟩] scope pos) (Ug wi g tc te t caps)):=by
 have hi:=hi.of
 have hg:=fun x0=>(hg x0).of
 have ht:=fun x0=>(ht x0).of
 have he:=fun x0=>(he x0).of
 refine⟨?_⟩
 intro pins s σ H Q I h
 obtain⟨cl,L⟩:=Ym (env:=X.env) (scope:=scope) fun y hy hf=>I.ok.has y.1 (wb ((S.at hy).2.2 hf))
 rw[eval_ListComp]
 refine wpAny_comprehension_free (use:=none) rfl hs L.eq S.kind (fun y hy=>(S.at hy).2.1) (thn (hi pins s σ H _ I h) fun x s1 h1=>thn h1 fun itv s2 h2=>?_)
 obtain⟨it,fp,tn,J,H2,rfl,I2,T,st2,f2,R⟩:=h2
 refine thn (vH hc S L hg ht he I2 T st2 f2 R) fun acc s3 h3=>thn h3 fun cenv s4 h4=>codeAny_mono h4 fun r s' hr=>?_
 obtain⟨D,H',m,rfl,rfl,I',hm,fC,q⟩:=hr
 obtain⟨c0,c1,c2,c3,c4,c5⟩:=fC
 exact⟨m,hm,fun h' sb=>⟨.ref D,H',I'.turned (t':=s'.toks) (fun b o hb e=>sb.extBut b o hb e) c0 c1 c3 c4 c5,rfl,q⟩⟩
theorem yU {i:Nat}{y:Str}{py spos:Pos}(hc:X.calm=true) (hN:X.N.Nodup) (hiy:X.N[i]?=some y) (hy:Loc X.env.scope y) (S:CompOk X scope N' t caps) (hi:Bx (PI X tg iter wi)) (hg:∀ b,Bx (PG (cxB X scope N' b) tg (g b))) (ht:∀ b,Bx (PTs (cxB X scope N' b) ifs (tc b))) (he:∀ b,Bx (PE (cxB X scope N' b) elt (te b))) (hsw:swapsWith (.ListComp elt [⟨tg,iter,ifs,0⟩] scope pos) (some (.Name y py)) spos.line X.env=pure true:=by rfl) (hs:∀ x,foldedSetIterable iter X.env x=pure x:=by intro _;rfl) (hf:X.fn y=true∨X.env.scope.names.lookup y=some .local:=by first | exact .inl rfl | exact .inr rfl | assumption):Bx (PS X (.Assign [.Name y py] (.ListComp elt [⟨tg,iter,ifs,0⟩] scope pos) spos) (zcw (Ug wi g tc te t caps) (Xg i))):=by
 have hi:=hi.of
 have hg:=fun x0=>(hg x0).of
 have ht:=fun x0=>(ht x0).of
 have he:=fun x0=>(he x0).of
 refine⟨?_⟩
 intro pins s σ H D' I h
 obtain⟨cl,L⟩:=Ym (env:=X.env) (scope:=scope) fun y hy hf=>I.ok.has y.1 (wb ((S.at hy).2.2 hf))
 rw[exec_Assign_Name_used _ _ _ _ hsw]
 refine wpAny_bind (wpAny_standAt (wpAny_bind ?_))
 show wpAny _ X.A (comprehension (.ListComp elt [⟨tg,iter,ifs,0⟩] scope pos) scope X.env _ (newList []) false (eval iter X.env) (some (assign (.Name y py) X.env)) >>= fun _=>pure ()) _ _ s
 refine wpAny_bind (thn (Q:=fun _ s'=>SP X pins D' .next s') ?_ fun _ s' hq=>wpAny_pure (wpAny_pure hq))
 refine wpAny_comprehension_free (use:=some (assign (.Name y py) X.env)) rfl hs L.eq S.kind (fun y hy=>(S.at hy).2.1) (thn (hi pins s σ H _ I h) fun x s1 h1=>thn h1 fun itv s2 h2=>?_)
 obtain⟨it,fp,tn,J,H2,rfl,I2,T,st2,f2,R⟩:=h2
 refine thn (vH hc S L hg ht he I2 T st2 f2 R) fun acc s3 h3=>thn h3 fun cenv s4 h4=>codeAny_mono h4 fun r s' hr=>?_
 obtain⟨D,H',m,rfl,rfl,I',hm,fC,q⟩:=hr
 obtain⟨c0,c1,c2,c3,c4,c5⟩:=fC
 show wpAny _ X.A (assign (.Name y py) X.env (.ref D)) _ _ _
 refine wpAny_assign_Name (vt I' hN hiy hy (show RelV (.ref D) (.ref D) from rfl) (fun s'' I'' hq0=>?_) hf)
 obtain⟨a,sb,ha⟩:=hq0
 have hne:cenv.locals≠a:=by
  rcases ha with z | z
  ·rw[z];exact c1
  ·exact fun z'=>c4 y a z z'.symm
 refine⟨m,hm.sameBut sb hne,fun h' sb'=>?_⟩
 exact⟨_,H',I''.turned (t':=s''.toks) (fun b o hb e=>sb'.extBut b o hb e) c0 c1 c3 c4 c5,q⟩
end
def zgE (i j:Int):Prop:=0<j∧j.natAbs.log2<9000
section
variable {X:Cx}
theorem xY:OpR X (binaryOp .FloorDiv) (rI zgE fun i j=>.int (i/j)):=opI fun i j _ _ _ _ _ hc q=>by
 have e:i.fdiv j=i/j:=Int.fdiv_eq_ediv_of_nonneg i (Int.le_of_lt hc.1)
 exact floordiv_int (Ne.symm (Int.ne_of_lt hc.1)) (by rw[e];exact q) (.inl (PyProof.noPylong_of_log2 hc.2))
def Vw:V→Option Value
 |.ty n=>some (.type n)
 |.ref a=>some (.ref a)
 |_=>none
theorem wc {c:V}{cv u:Value}(h:Vw c=some cv) (r:RelV c u):u=cv:=by
 cases c<;>simp[Vw] at h
 ·exact(show u=Value.ref _ from r).trans h
 ·exact(show u=Value.type _ from r).trans h
def zmC (K:PySem.W.Frag):List V→Hp→VK→Prop:=fun xs H Q=>∃ x c t cv b,xs=[x,c]∧Vw c=some cv∧TyOf K H x t∧PySem.W.kitOne K t cv=some b∧Q (.bl b) H
theorem zS:xj X (.builtin "isinstance") (zmC X.K):=by
 intro pins s σ H xs us Q I r h
 obtain⟨x,c,t,cv,b,rfl,hc,ty,e,q⟩:=h
 obtain⟨u,v,rfl,r1,r2⟩:=r.two
 obtain rfl:=wc hc r2
 exact Z3 I r1 ty e fun tk=>⟨.bl b,H,I.tok tk,rfl,q⟩
inductive EqD (K:PySem.W.Frag) (H:Hp):V→V→Bool→Nat→Prop where
 |flat {x y:V}{n:Nat}(fx:wA x=true) (fy:wA y=true):EqD K H x y (eqV x y) n
 |same {a:Addr}{n:Nat}:EqD K H (.ref a) (.ref a) true n
 |lst {a b:Addr}{xs ys:List V}{e:Nat→Bool}{n:Nat}(hne:a≠b) (ha:SqL K H a xs) (hb:SqL K H b ys) (hl:xs.length=ys.length) (h:∀ (j:Nat) x y,xs[j]?=some x→ys[j]?=some y→EqD K H x y (e j) n) :
   EqD K H (.ref a) (.ref b) ((List.range xs.length).all e) (n+1)
 |tup {a b:Addr}{xs ys:List V}{e:Nat→Bool}{n:Nat}(hne:a≠b) (ha:SqT K H a xs) (hb:SqT K H b ys) (hl:xs.length=ys.length) (h:∀ (j:Nat) x y,xs[j]?=some x→ys[j]?=some y→EqD K H x y (e j) n) :
   EqD K H (.ref a) (.ref b) ((List.range xs.length).all e) (n+1)
theorem xa (A:Around):A.in1.units=A.units+1:=rfl
theorem EqD.at {pins:List (Addr×Obj)}{σ:St}{H:Hp}{s:Shared}{x y:V}{b:Bool}{n:Nat}(I:Inv X pins σ H s) (h:EqD X.K H x y b n) :
  ∀ (A:Around) (u v:Value),A.units+n<cLine→RelV x u→RelV y v→SeqAt.EqAt A s u v b:=by
 induction h with
 |flat fx fy=>intro A u v _ rx ry;exact eqAt_V rx ry fx fy
 |same=>intro A u v _ rx ry;cases rx;cases ry;exact SeqAt.EqAt.same _
 | @lst a b xs ys e n hne ha hb hl h ih =>
  intro A u v hu rx ry
  cases rx;cases ry
  obtain⟨i1,r1,p1,_⟩:=I.list ha
  obtain⟨i2,r2,p2,_⟩:=I.list hb
  have l1:=r1.length
  have l2:=r2.length
  refine SeqAt.EqAt.of_refs hne ?_
  have q:=SeqAt.RcAt.lists (A:=A) (s:=s) (e:=e) p1.isList p2.isList (by simp;omega) (by omega) (fun j h1 h2=>?_)
  ·rw[List.size_toArray,← l1] at q
   exact q
  ·have g1:j<xs.length:=by rw[l1];simpa using h1
   have g2:j<ys.length:=by rw[l2];simpa using h2
   obtain⟨u1,e1,q1⟩:=r1.get (i:=j) (x:=xs[j]) (by simp[g1])
   obtain⟨u2,e2,q2⟩:=r2.get (i:=j) (x:=ys[j]) (by simp[g2])
   have f1:i1.toArray[j]=u1:=by
    have:=List.getElem?_eq_some_iff.mp e1
    obtain⟨_,z⟩:=this
    simpa using z
   have f2:i2.toArray[j]=u2:=by
    have:=List.getElem?_eq_some_iff.mp e2
    obtain⟨_,z⟩:=this
    simpa using z
   rw[f1,f2]
   exact ih j _ _ (by simp[g1]) (by simp[g2]) A.in1 u1 u2 (by rw[xa];omega) q1 q2
 | @tup a b xs ys e n hne ha hb hl h ih =>
  intro A u v hu rx ry
  cases rx;cases ry
  obtain⟨i1,r1,p1,_⟩:=I.tuple ha
  obtain⟨i2,r2,p2,_⟩:=I.tuple hb
  have l1:=r1.length
  have l2:=r2.length
  refine SeqAt.EqAt.of_refs hne ?_
  have q:=SeqAt.RcAt.tuples (A:=A) (s:=s) (e:=e) (show s.heap.IsTuple a i1.toArray from p1) (show s.heap.IsTuple b i2.toArray from p2) (by omega) (fun j h1 h2=>?_)
  ·have z:i1.toArray.size=i2.toArray.size:=by simp;omega
   rw[← z,Nat.min_self,beq_self_eq_true,Bool.and_true,List.size_toArray,← l1] at q
   exact q
  ·have g1:j<xs.length:=by rw[l1];simpa using h1
   have g2:j<ys.length:=by rw[l2];simpa using h2
   obtain⟨u1,e1,q1⟩:=r1.get (i:=j) (x:=xs[j]) (by simp[g1])
   obtain⟨u2,e2,q2⟩:=r2.get (i:=j) (x:=ys[j]) (by simp[g2])
   have f1:i1.toArray[j]=u1:=by
    have:=List.getElem?_eq_some_iff.mp e1
    obtain⟨_,z⟩:=this
    simpa using z
   have f2:i2.toArray[j]=u2:=by
    have:=List.getElem?_eq_some_iff.mp e2
    obtain⟨_,z⟩:=this
    simpa using z
   rw[f1,f2]
   exact ih j _ _ (by simp[g1]) (by simp[g2]) A.in1 u1 u2 (by rw[xa];omega) q1 q2
def zdn (K:PySem.W.Frag) (A:Around) (neg:Bool):R2:=fun x y H Q=>∃ (a b:Addr) (xs ys:List V) (e:Nat→Bool) (n:Nat),x=.ref a∧y=.ref b∧((SqL K H a xs∧SqL K H b ys)∨(SqT K H a xs∧SqT K H b ys))∧xs.length=ys.length ∧
 A.units+n+2<cLine∧(∀ (j:Nat) x y,xs[j]?=some x→ys[j]?=some y→EqD K H x y (e j) n)∧Q (.bl (if neg then !(List.range xs.length).all e else(List.range xs.length).all e)) H
theorem wa {pins:List (Addr×Obj)}{σ:St}{H:Hp}{s:Shared}{A:Around}{xs ys:List V}{i1 i2:List Value}{e:Nat→Bool}{n:Nat}(I:Inv X pins σ H s) (r1:Vals xs i1) (r2:Vals ys i2) (hu:A.units+n+2<cLine)
  (h:∀ (j:Nat) x y,xs[j]?=some x→ys[j]?=some y→EqD X.K H x y (e j) n):∀ (j:Nat) (h1:j<i1.toArray.size) (h2:j<i2.toArray.size),SeqAt.EqAt A.in1 s i1.toArray[j] i2.toArray[j] (e j):=fun j h1 h2=>by
 have g1:j<xs.length:=by rw[r1.length];simpa using h1
 have g2:j<ys.length:=by rw[r2.length];simpa using h2
 obtain⟨u1,e1,q1⟩:=r1.get (i:=j) (x:=xs[j]) (by simp[g1])
 obtain⟨u2,e2,q2⟩:=r2.get (i:=j) (x:=ys[j]) (by simp[g2])
 have f1:i1.toArray[j]=u1:=by
  obtain⟨_,z⟩:=List.getElem?_eq_some_iff.mp e1
  simpa using z
 have f2:i2.toArray[j]=u2:=by
  obtain⟨_,z⟩:=List.getElem?_eq_some_iff.mp e2
  simpa using z
 rw[f1,f2]
 exact(h j _ _ (by simp[g1]) (by simp[g2])).at I A.in1 u1 u2 (by rw[xa];omega) q1 q2
theorem UA:OpR X (compareOp .Eq) (zdn X.K X.A false):=by
 intro pins s σ H x y v u Q I rx ry h
 obtain⟨a,b,xs,ys,e,n,rfl,rfl,hq,hl,hu,hi,q⟩:=h
 cases rx;cases ry
 rcases hq with⟨h1,h2⟩ | ⟨h1,h2⟩
 ·obtain⟨i1,r1,p1,_⟩:=I.list h1
  obtain⟨i2,r2,p2,_⟩:=I.list h2
  refine SeqAt.eq_listAt p1.isList p2.isList (by simp;rw[← r1.length,← r2.length,hl]) (by omega) (wa I r1 r2 hu hi) ⟨.bl _,H,I,rfl,?_⟩
  rw[List.size_toArray,← r1.length]
  exact q
 ·obtain⟨i1,r1,p1,_⟩:=I.tuple h1
  obtain⟨i2,r2,p2,_⟩:=I.tuple h2
  have z:i1.toArray.size=i2.toArray.size:=by simp;rw[← r1.length,← r2.length,hl]
  refine SeqAt.eq_tupleAt (show s.heap.IsTuple a i1.toArray from p1) (show s.heap.IsTuple b i2.toArray from p2) (by omega) (wa I r1 r2 hu hi) ⟨.bl _,H,I,rfl,?_⟩
  rw[← z,Nat.min_self,beq_self_eq_true,Bool.and_true,List.size_toArray,← r1.length]
  exact q
theorem uC:OpR X (compareOp .NotEq) (zdn X.K X.A true):=by
 intro pins s σ H x y v u Q I rx ry h
 obtain⟨a,b,xs,ys,e,n,rfl,rfl,hq,hl,hu,hi,q⟩:=h
 cases rx;cases ry
 rcases hq with⟨h1,h2⟩ | ⟨h1,h2⟩
 ·obtain⟨i1,r1,p1,_⟩:=I.list h1
  obtain⟨i2,r2,p2,_⟩:=I.list h2
  refine SeqAt.RcNeAt.lists p1.isList p2.isList (by simp;rw[← r1.length,← r2.length,hl]) (by omega) (wa I r1 r2 hu hi) _ _ _ _ ⟨.bl _,H,I,rfl,?_⟩
  rw[List.size_toArray,← r1.length]
  exact q
 ·obtain⟨i1,r1,p1,_⟩:=I.tuple h1
  obtain⟨i2,r2,p2,_⟩:=I.tuple h2
  have z:i1.toArray.size=i2.toArray.size:=by simp;rw[← r1.length,← r2.length,hl]
  refine SeqAt.RcNeAt.tuples (show s.heap.IsTuple a i1.toArray from p1) (show s.heap.IsTuple b i2.toArray from p2) (by omega) (wa I r1 r2 hu hi) _ _ _ _ ⟨.bl _,H,I,rfl,?_⟩
  rw[← z,Nat.min_self,beq_self_eq_true,Bool.and_true,List.size_toArray,← r1.length]
  exact q
end
structure Callee (P:Program) (w:World) (K:PySem.W.Frag) (mg:Str→Option Value) (base:Heap) (x:Str) (f:Addr) (fd:FuncData) (ps:List Str) (k:Nat) (sp:Sp):Prop where
 ok:FnOk P w K mg base CX0 k f fd ps sp
 g:mg x=some (.ref f)
 kp:PySem.W.keepIn K (.ref f)=true
 b:Binds K fd ps []
structure Maker (P:Program) (w:World) (K:PySem.W.Frag) (mg:Str→Option Value) (base:Heap) (x:Str) (C f:Addr) (fd:FuncData) (ps:List Str) (k:Nat) (sp:Sp):Prop where
 ok:FnOk P w K mg base CX0 k f fd ps sp
 g:mg x=some (.ref C)
 mm:Mk K C f
 b:Binds K fd ps []
section
variable {X:Cx}{k:Nat}{f C:Addr}{fd:FuncData}{ps:List Str}{sp:Sp}{x m:Str}{p pos apos:Pos}{e o:Expr}{es:List Expr}{ta:TE}{t:TA}
theorem zm (c:Callee X.prog X.w X.K X.mg X.base x f fd ps k sp) (hr:Room k X.A) (ha:Bx (PA X (e::es) t)) (hg:Gl X x:=by rfl) (hdb:(x == ("__debug__" : Str))=false:=by decide) (he:starEach (e::es) X.env=(false,eval e X.env)::starEach es X.env:=by rfl) (hpl:(backTo pos (starEach es X.env)).any (·.1)=false:=by rfl):Bx (PE X (.Call (.Name x p) (e::es) [] pos) (Zy sp [] E0 t)):=by
 have ha:=ha.of
 exact⟨ZM c.ok hr hg c.g c.kp c.b .nil YO ha hdb he hpl⟩
theorem vj (c:Maker X.prog X.w X.K X.mg X.base x C f fd ps k sp) (hr:Room (k+1) X.A) (ha:Bx (PA X (e::es) t)) (hg:Gl X x:=by rfl) (hdb:(x == ("__debug__" : Str))=false:=by decide) (he:starEach (e::es) X.env=(false,eval e X.env)::starEach es X.env:=by rfl) (hpl:(backTo pos (starEach es X.env)).any (·.1)=false:=by rfl):Bx (PE X (.Call (.Name x p) (e::es) [] pos) (V9 C sp [] E0 t)):=by
 have ha:=ha.of
 exact⟨W0 c.mm c.ok hr hg c.g c.b .nil YO ha hdb he hpl⟩
def uu (X:Cx) (m:Str) (ta:TE) (t:TA):TE:=fun σ H Q=>ta σ H fun x H1=>∃ (a C dx:Addr) (fs:List (Str×V)) (f:Addr) (fd:FuncData) (ps:List Str) (k:Nat) (sp:Sp),x=.ref a∧H1 a=some (.ins C dx fs)∧fs.lookup m=none∧Cls X.K C∧Meth X.K C m f ∧
 FnOk X.prog X.w X.K X.mg X.base CX0 k f fd ps sp∧Room k X.A∧Binds X.K fd ps []∧t σ H1 fun vs H2=>sp (x::(vs++[])) H2 Q E0
theorem YN {pl:Sem Bool}(he:PE X o ta) (ha:PA X (e::es) t)
  (hst:starEach (e::es) X.env=(false,eval e X.env)::starEach es X.env:=by rfl) (hpl:(backTo pos (starEach es X.env)).any (·.1)=false:=by rfl)
  (ht:eval (.Call (.Attribute o m apos) (e::es) [] pos) X.env=(do
   let ov ← eval o X.env
   standAt apos.atName
   let (f,first) ← holding [ov] (getMethod ov m pl)
   callWith pos f first (backTo pos (starEach (e::es) X.env)) (backToKw pos (keywordEach [] X.env))):=by rfl) :
  PE X (.Call (.Attribute o m apos) (e::es) [] pos) (uu X m ta t):=by
 intro pins s σ H Q I h
 refine PySem.W.methodCall_KW (pl:=pl) (thn (he pins s σ H _ I h) fun u s1 hq0=>?_) ht
 obtain⟨x,H1,I1,rx,a,C,dx,fs,f,fd,ps,k,sp,ex,ea,l,cl,hm,F,hr,hb,q⟩:=hq0
 subst ex
 obtain rfl:u=Value.ref a:=rx
 refine xf I1 ea cl hm l ?_
 refine PySem.W.callWith_K (first:=[.ref a]) (h₀:=X.base) I.ok.mod.kin hm.kp (thn (ha pos pins s1 σ H1 _ I1 q) fun us s2 ⟨vs,H2,I2,r,q2⟩=>⟨I2.kIn,?_⟩) hst hpl
 exact uy (us:=.ref a::us) (vs:=.ref a::vs) F hr hb .nil YO I2 (.cons rfl r) q2
theorem ZK {pl:Sem Bool}(he:PE X o ta)
  (ht:eval (.Call (.Attribute o m apos) [] [] pos) X.env=(do
   let ov ← eval o X.env
   standAt apos.atName
   let (f,first) ← holding [ov] (getMethod ov m pl)
   callWith pos f first (backTo pos (starEach [] X.env)) (backToKw pos (keywordEach [] X.env))):=by rfl) :
  PE X (.Call (.Attribute o m apos) [] [] pos) (uu X m ta zcp):=by
 intro pins s σ H Q I h
 refine PySem.W.methodCall_KW (pl:=pl) (thn (he pins s σ H _ I h) fun u s1 hq0=>?_) ht
 obtain⟨x,H1,I1,rx,a,C,dx,fs,f,fd,ps,k,sp,ex,ea,l,cl,hm,F,hr,hb,q⟩:=hq0
 subst ex
 obtain rfl:u=Value.ref a:=rx
 refine xf I1 ea cl hm l ?_
 exact PySem.W.callWith_K0 (first:=[.ref a]) I1.kIn hm.kp (uy (us:=[.ref a]) (vs:=[.ref a]) F hr hb .nil YO I1 (.cons rfl .nil) q)
end
section
variable {X:Cx}{pins:List (Addr×Obj)}{σ:St}{H:Hp}{s:Shared}{a b:Addr}{xs ys:List V}
theorem Inv.turnedLaid {h':Heap}{t':Nat}{ch:List Addr}{T:Addr}{o:HO}(I:Inv X pins σ H s) (hf:∀ b∈ch,FpOk X pins H b) (k:∀ b u,b∉ch→s.heap.get? b=some u→h'.get? b=some u) (hT:s.heap.objs.size≤T)
  (new:ObjOk X.prog X.w (upd H T o) h' T o):Inv X pins σ (upd H T o) { s with heap:=h',toks:=t' }:=by
 have hn:H T=none:=I.hok.fresh hT
 have nch:∀ b u,H b=some u→b∉ch:=fun b u e hb=>by rw[(hf b hb).1] at e;cases e
 have neT:∀ b u,s.heap.get? b=some u→b≠T:=fun b u e=>Nat.ne_of_lt (Nat.lt_of_lt_of_le (Heap.lt_size e) hT)
 refine I.step (g':=s.gens) (d':=s.drawn) (ch:=ch) (fun b hb=>?_) (fun b u _ _ hc e _=>k b u hc e) (fun b u _ _ hc e _=>⟨u.slots,k b u hc e⟩) (fun b u _ e n=>?_) (fun b u hc e=>⟨u,k b u hc e⟩)
  (fun b zs e=>?_) (fun b ob u e=>?_) (fun b ps e=>⟨#[],?_⟩) (fun m hm=>?_) (fun b u e=>?_) I.bare
 ·exact⟨(hf b hb).2.2.2.1,(hf b hb).2.1,(hf b hb).2.2.2.2.1,(hf b hb).2.2.2.2.2⟩
 ·rw[upd_ne (neT b u e)];exact n
 ·rw[upd_ne (ne_of_none e hn)];exact e
 ·rw[upd_ne (ne_of_none e hn)];exact e
 ·rw[upd_ne (ne_of_none e hn),e];simp
 ·obtain⟨ob,es,ep,ho,r⟩:=hm
  exact⟨ob,es,ep,k _ ob (fun hb=>(hf _ hb).2.1 rfl) ho,r⟩
 ·by_cases hb:b=T
  ·subst hb
   rw[upd_same] at e
   cases e
   exact new
  ·rw[upd_ne hb] at e
   refine(I.hok b u e).stay (fun c v hc q=>k c v ?_ q) (fun c q=>by rw[upd_ne (ne_of_none q hn)];exact q) fun c zs q=>by rw[upd_ne (ne_of_none q hn)];exact q
   rcases hc with z | z
   ·rw[z];exact nch b u e
   ·exact nch c _ z
end
theorem xw {X:Cx}{x:Str}{C:Addr}{pos:Pos}(hm:X.mg x=some (.ref C)) (hg:Gl X x:=by rfl) (hd:(x == ("__debug__" : Str))=false:=by decide):Bx (PE X (.Name x pos) (tC (.ref C))):=by
 exact⟨ZL hg hm rfl hd⟩
theorem zR {X:Cx}{x:Str}{n:String}{pos:Pos}(hm:X.mg x=none) (hv:bootBuiltins x=some (.type n)) (hg:Gl X x:=by rfl) (hn:x ≠ "__name__" := by decide) (hd:(x == ("__debug__" : Str))=false:=by decide):Bx (PE X (.Name x pos) (tC (.ty n))):=by
 exact⟨W8 hg hm hv rfl hn hd⟩
theorem yu:bootBuiltins "len" = some (.builtin "len"):=by decide +kernel
theorem Yq:bootBuiltins "int" = some (.type "int"):=by decide +kernel
theorem zo:bootBuiltins "isinstance" = some (.builtin "isinstance"):=by decide +kernel
theorem bt_list:bootBuiltins "list" = some (.type "list"):=by decide +kernel
theorem wB:bootBuiltins "dict" = some (.type "dict"):=by decide +kernel
theorem yi:bootBuiltins "sorted" = some (.builtin "sorted"):=by decide +kernel
theorem uf:bootBuiltins "bool" = some (.type "bool"):=by decide +kernel
theorem xh:bootBuiltins "tuple" = some (.type "tuple"):=by decide +kernel
theorem vf:bootBuiltins "ValueError" = some (.type "ValueError"):=by decide +kernel
section
variable {X:Cx}
theorem Z6:∀ {ns:LI}{its:List Value},Vals (ns.map V.int) its→IntsAre its ns
 |[],_,r=>by cases r;exact .nil
 |n::ns,_,r=>by
  cases r with
  |cons h t =>
   obtain⟨k,rfl⟩:=h
   exact .cons _ _ (Z6 t)
theorem v0:∀ {ns:LI}{its:List Value},IntsAre its ns→Vals (ns.map V.int) its
 |_,_,.nil=>.nil
 |_,_,.cons _ _ t=>.cons ⟨_,rfl⟩ (v0 t)
def Ut (K:PySem.W.Frag):List V→Hp→VK→Prop:=fun xs H Q=>∃ (a:Addr) (ns:LI),xs=[V.ref a]∧SqL K H a (ns.map V.int)∧ns.length<64∧∀ (p:Addr) (ms:LI),H p=none→ms.Perm ns→ms.Pairwise (· ≤ ·)→Q (.ref p) (upd H p (.lst (ms.map V.int)))
theorem xg:xj X (.builtin "sorted") (Ut X.K):=by
 intro pins s σ H xs us Q I r h
 obtain⟨a,ns,rfl,ha,h64,q⟩:=h
 obtain⟨u,rfl,ru⟩:=r.one
 cases ru
 obtain⟨its,rv,p,hz⟩:=I.list ha
 have hl:=rv.length
 rw[List.length_map] at hl hz
 refine sorted_ints p.isList (Z6 rv) (by omega) fun out ms a1 a2 a3=>?_
 have hn:H (s.heap.objs.size+1)=none:=I.hok.fresh (Nat.le_succ _)
 obtain⟨c,hc⟩:=sortedAll_at s.heap its out
 refine⟨.ref _,_,I.laid (a:=s.heap.objs.size+1) (o:=.lst (ms.map V.int)) (t':=s.toks) (fun _ _ e=>sortedAll_old e) (Nat.le_succ _) ⟨?_,out.toList,c,v0 a1,?_⟩,rfl,q _ ms hn a2 a3⟩
 ·rw[List.length_map,a2.length_eq];exact hz
 ·exact hc
def zkk (K:PySem.W.Frag) (A:Around):R2:=fun x y H Q=>∃ (a b:Addr) (xs ys:List V),x=.ref a∧y=.ref b∧SqL K H a xs∧SqL K H b ys∧xs.length≠ys.length∧A.units<cLine∧Q (.bl true) H
theorem uD:OpR X (compareOp .NotEq) (zkk X.K X.A):=by
 intro pins s σ H x y v u Q I rx ry h
 obtain⟨a,b,xs,ys,rfl,rfl,h1,h2,hl,hu,q⟩:=h
 cases rx;cases ry
 obtain⟨i1,r1,p1,_⟩:=I.list h1
 obtain⟨i2,r2,p2,_⟩:=I.list h2
 exact SeqAt.RcNeAt.lists_lengths p1.isList p2.isList (by simp;rw[← r1.length,← r2.length];exact hl) hu _ _ _ _ ⟨.bl _,H,I,rfl,q⟩
end
theorem vD {X:Cx}{f:Value→Value→Sem Value}{r1 r2:R2}(h1:OpR X f r1) (h2:OpR X f r2):OpR X f (fun x y H Q=>r1 x y H Q∨r2 x y H Q):=by
 intro pins s σ H x y v u Q I rx ry h
 rcases h with h | h
 ·exact h1 pins s σ H x y v u Q I rx ry h
 ·exact h2 pins s σ H x y v u Q I rx ry h
end L2
namespace K04
open PySem L2
def Ext (l:Addr) (H H':Hp):Prop:=∀ b o,H b=some o→b≠l→H' b=some o
theorem Ext.refl {l:Addr}{H:Hp}:Ext l H H:=fun _ _ e _=>e
theorem Ext.trans {l:Addr}{H H1 H2:Hp}(a:Ext l H H1) (b:Ext l H1 H2):Ext l H H2:=fun c o e n=>b c o (a c o e n) n
theorem Ext.same {l:Addr}{H H':Hp}(a:Same H H'):Ext l H H':=fun c o e _=>a c o e
theorem Ext.new {l p:Addr}{H:Hp}{o:HO}(h:H p=none):Ext l H (upd H p o):=fun c u e _=>by rw[upd_ne (ne_of_none e h)];exact e
theorem Ext.at {l:Addr}{H:Hp}{o:HO}:Ext l H (upd H l o):=fun c u e n=>by rw[upd_ne n];exact e
theorem Same.new {p:Addr}{H:Hp}{o:HO}(h:H p=none):Same H (upd H p o):=fun c u e=>by rw[upd_ne (ne_of_none e h)];exact e
theorem Yc {i:Nat}{v:V}{τ:St}{H:Hp}{A B:St→Hp→Prop}(h:A (τ.set i (some v)) H):Xg i v τ H fun τ2 H4=>zcj τ2 H4 fun b H5=>if b=true then A τ2 H5 else B τ2 H5:=by
 show if true=true then A (τ.set i (some v)) H else B (τ.set i (some v)) H
 exact xH h
theorem Xl {ns:LI}{lo hi:Option Int}{i:Nat}{y:V}(h:(xF (ns.map V.int) lo hi)[i]?=some y):∃ c,y=.int c:=by
 have hm:=List.mem_of_getElem? h
 unfold xF at hm
 obtain⟨c,_,e⟩:=List.mem_map.mp (List.mem_of_mem_drop (List.mem_of_mem_take hm))
 exact⟨c,e.symm⟩
theorem Y6:((1009:Int).natAbs.log2<9000):=by decide
theorem Y4:((2003:Int).natAbs.log2<9000):=by decide
end K04
namespace L2
open PySem PySem.Spec PyProof.Rows
def DictAt (a D:Addr) (h:Heap):Prop:=∃ o,h.get? a=some o∧o.dict=some D
def KD (h h':Heap):Prop:=∀ a D,DictAt a D h→DictAt a D h'
def Kp {α:Type}:Sem α→Prop
 |.pure _=>True
 |.raise _=>True
 |.unsupported _=>True
 |.finish _=>True
 |.rule _ k=>Kp (k ())
 |.at _ k=>Kp (k ())
 |.load _ _ k=>∀ o,Kp (k o)
 |.update _ _ f k=>(∀ o,(f o).dict=o.dict∧((f o).data=.freed→o.data=.freed))∧Kp (k ())
 |.alloc _ k=>∀ a,Kp (k a)
 |.loadIfAlive _ k=>∀ o,Kp (k o)
 |.point _ k=>Kp (k ())
 |.register _ _=>True
 |.fresh k=>∀ t,Kp (k t)
 |.ask k=>∀ x,Kp (k x)
 |.choose _ _ k=>∀ n,Kp (k n)
 |.os _ _ k=>∀ r,Kp (k r)
 |.call ..=>False
 |.handled _ k=>∀ o,Kp (k o)
 |.newGen _ k=>∀ n,Kp (k n)
 |.genState _ k=>∀ x,Kp (k x)
 |.resume ..=>False
 |.yield ..=>True
 |.stack k=>∀ l,Kp (k l)
 |.fork ..=>True
 |.thread k=>∀ n,Kp (k n)
 |.await ..=>True
section
variable {α β:Type}
theorem Xb (m:Sem α) (f:α→Sem β) (h:Kp m) (k:∀ x,Kp (f x)):Kp (m.bind f):=by
 induction m<;>simp only[Kp,Sem.bind] at h ⊢<;>first | trivial | exact k _ | (rename_i ih;exact ih _ h) | (rename_i ih;exact⟨h.1,ih _ h.2⟩) | (rename_i ih;exact fun x=>ih x (h x))
theorem kp_bind {m:Sem α}{f:α→Sem β}(h:Kp m) (k:∀ x,Kp (f x)):Kp (m >>= f):=Xb m f h k
theorem kp_pure {x:α}:Kp (pure x:Sem α):=True.intro
theorem xD {c:Prop} [Decidable c]{a b:Sem α}(h:Kp a) (k:Kp b):Kp (if c then a else b):=by split<;>assumption
theorem DictAt.upd {h:Heap}{a D b:Addr}{f:Obj→Obj}(hf:∀ o,(f o).dict=o.dict∧((f o).data=.freed→o.data=.freed)) (x:DictAt a D h):DictAt a D (h.update b f):=by
 obtain⟨o,e,d⟩:=x
 by_cases hb:b=a
 ·subst hb
  refine⟨f o,Heap.get?_update_self f e ?_,(hf o).1.trans d⟩
  cases q:(f o).isFreed with
  |false=>rfl
  |true =>
   exfalso
   have q1:(f o).data=.freed:=by
    revert q
    generalize f o=u
    intro q
    obtain⟨c,d',dt,sl⟩:=u
    cases dt<;>first | rfl | cases q
   have q2:=(hf o).2 q1
   obtain⟨c,d',dt,sl⟩:=o
   cases q2
   simp only[Heap.get?] at e
   split at e
   ·cases e
   ·rename_i hne
    exact hne _ _ _ e
 ·exact⟨o,(Heap.get?_update_other _ _ hb).trans e,d⟩
theorem DictAt.keeps {h h':Heap}{a D:Addr}(x:DictAt a D h) (k:∀ b o,h.get? b=some o→h'.get? b=some o):DictAt a D h':=let ⟨o,e,d⟩:=x;⟨o,k _ _ e,d⟩
theorem zch {M:Model}{Γ:PySem.Ctx}(t:Sem α){Q:α→Pos→Shared→Prop}{E:Value→Pos→Shared→Prop}{h0:Heap}(g:Kp t) (p:Pos) (s:Shared) (k:KD h0 s.heap) (h:Sem.wp M Γ t Q E p s) :
  Sem.wp M Γ t (fun a p' s'=>Q a p' s'∧KD h0 s'.heap) E p s:=by
 induction t generalizing p s with
 |pure x=>exact⟨h,k⟩
 |raise v=>exact h
 |unsupported | finish | yield | fork | await | register=>exact h
 |rule _ _ ih | «at» _ _ ih | point _ _ ih=>exact ih _ g _ _ k h
 |loadIfAlive _ _ ih | fresh _ ih | ask _ ih | os _ _ _ ih | handled _ _ ih | newGen _ _ ih | stack _ ih | thread _ ih=>exact ih _ (g _) _ _ k h
 |alloc o _ ih=>exact ih _ (g _) _ _ (fun a D x=>(k a D x).keeps fun b u e=>Heap.get?_push_of_some _ e) h
 |load _ _ _ ih | genState _ _ ih =>
  obtain⟨o,ho,h⟩:=h
  exact⟨o,ho,ih _ (g _) _ _ k h⟩
 |choose _ _ _ ih=>exact⟨h.1,ih _ (g _) _ _ k h.2⟩
 |update a _ f _ ih=>exact⟨h.1,ih _ g.2 _ _ (fun b D x=>(k b D x).upd g.1) h.2⟩
 |call=>exact False.elim g
 |resume=>exact False.elim g
theorem xT {M:Model}{A:Around}{t:Sem α}{Q:α→Shared→Prop}{E:Value→Shared→Prop}{s:Shared}(g:Kp t) (h:wpAny M A t Q E s):wpAny M A t (fun a s'=>Q a s'∧KD s.heap s'.heap) E s :=
 fun Γ p hΓ=>zch t g p s (fun _ _ x=>x) (h Γ p hΓ)
theorem v5 {a:Addr}:Kp (load a):=fun _=>True.intro
theorem v8 {v:Value}:Kp (fieldsOf v):=by
 unfold fieldsOf
 cases v<;>first | trivial | skip
 refine kp_bind v5 fun o=>?_
 split<;>trivial
theorem xZ {v:Value}{i:Nat}:Kp (field v i):=by
 unfold field
 refine kp_bind v8 fun o=>?_
 split<;>trivial
theorem v7 {g:Array Value→Array Value}(o:Obj):(Obj.mapFields g o).dict=o.dict∧((Obj.mapFields g o).data=.freed→o.data=.freed):=by
 obtain⟨c,d,dt,sl⟩:=o
 cases dt<;>exact⟨rfl,fun q=>by first | rfl | cases q⟩
theorem wE {a:Addr}{i:Nat}{x:Value}:Kp (updateField a i x):=by
 unfold updateField
 refine kp_bind v5 fun o=>?_
 split
 ·refine xD ?_ True.intro
  exact⟨v7,True.intro⟩
 ·trivial
theorem yO {v:Value}{i:Nat}{x:Value}:Kp (setField v i x):=by
 unfold setField
 cases v<;>first | trivial | exact wE
theorem yY {e:Value}{f:Option Addr}:Kp (setFlight e f):=by
 unfold setFlight
 exact kp_bind xZ fun o=>xD yO kp_pure
theorem v6 {env:Env}{b:Bool}{l:List Env}:Kp (keptBack env b l):=by
 unfold keptBack
 cases l with
 |nil =>
  dsimp only
  refine xD kp_pure (kp_bind ?_ fun x=>kp_pure)
  unfold underTheClaimsCaller
  first | exact fun _=>True.intro | exact kp_bind (fun _=>True.intro) fun _=>True.intro
 |cons c l=>exact kp_pure
theorem kp_behind {env:Env}{l:List Env}:Kp (behindIsImport env l):=by
 unfold behindIsImport
 refine xD kp_pure (xD kp_pure ?_)
 exact kp_bind xZ fun _=>kp_pure
theorem Xa (l:List Env):Kp (readyFrames l):=by
 induction l with
 |nil=>trivial
 |cons env l ih =>
  unfold readyFrames
  split
  ·refine kp_bind v5 fun o=>xD kp_pure (kp_bind kp_behind fun b=>kp_bind v6 fun v=>kp_bind ?_ fun _=>ih)
   exact⟨fun o=>⟨rfl,id⟩,True.intro⟩
  ·trivial
theorem wO {env:Env}:Kp (PySem.frameOf env):=by
 unfold PySem.frameOf
 refine kp_bind (kp_bind (fun _=>True.intro) fun _=>True.intro) fun l=>kp_bind ?_ fun o=>?_
 ·generalize l.dropWhile _=l'
  cases l' with
  |nil=>trivial
  |cons c r =>
   unfold frameObject
   exact kp_bind (Xa _) fun _=>kp_pure
 ·split<;>trivial
theorem xE {f:Addr}{b:Bool}:Kp (entryPlaceOf f b):=by
 unfold entryPlaceOf
 refine kp_bind (fun _=>True.intro) fun l=>?_
 split<;>trivial
theorem ww {a b c d e:Value}{pl:List Value}:Kp (EntryCells.newEntry a b c d e pl):=by
 unfold EntryCells.newEntry newFields newObj newObjAsIs
 dsimp only
 have al:∀ o:Obj,Kp (alloc o):=fun _ _=>True.intro
 refine xD ?_ ?_
 ·exact kp_bind (m:=Sem.unsupported _) True.intro fun _=>kp_bind (al _) fun _=>kp_pure
 ·exact kp_bind (al _) fun _=>kp_pure
theorem kp_noteFrame {e:Value}{env:Env}:Kp (noteFrame e env):=by
 unfold noteFrame
 split
 ·refine kp_bind xZ fun hd=>?_
  refine xD (kp_bind xZ fun _=>xD kp_pure (kp_bind yO fun _=>?_)) ?_
  ·exact kp_bind wO fun _=>kp_bind xE fun _=>kp_bind ww fun _=>yO
  ·exact kp_bind wO fun _=>kp_bind xE fun _=>kp_bind ww fun _=>yO
 ·trivial
theorem Za {e:Value}{env:Env}:Kp (leaving env e):=by
 unfold leaving
 exact kp_bind kp_noteFrame fun _=>yY
end
section
variable {M:Model}{A:Around}{E:Value→Shared→Prop}{s:Shared}{base:Heap}{l:List Env}{env:Env}{outer:List Env}{L e:Addr}{cls a0:Value}{Q:Unit→Shared→Prop}
theorem Vj (hfr:A.frames=some (env::outer)) (hf:env.frame=some L) (hfl:Heap.FlyingW base (env::outer) e cls a0 s.heap)
  (hQ:∀ h',Heap.FlyingW base outer e cls a0 h'→s.heap.UpToSlots h'→KD s.heap h'→Q () { s with heap:=h' }):wpAny M A (leaving env (.ref e)) Q E s :=
 wpAny_mono (xT Za (wpAny_leaves_onW (Q:=fun _ s2=>∃ h',s2={ s with heap:=h' }∧Heap.FlyingW base outer e cls a0 h'∧s.heap.UpToSlots h') hfr hf hfl fun h' a b=>⟨h',rfl,a,b⟩))
  (fun _ s2 ⟨⟨h',q,a,b⟩,k⟩=>by subst q;exact hQ h' a b k) fun _ _ z=>z
theorem za5 (hfr:A.frames=some (env::outer)) (hf:env.frame=some L) (hfl:Heap.FlyingW base (env::outer) e cls a0 s.heap)
  (hQ:∀ h',Heap.HeldW base (env::outer) e cls a0 L h'→s.heap.UpToSlots h'→KD s.heap h'→Q () { s with heap:=h' }):wpAny M A (noteFrame (.ref e) env) Q E s :=
 wpAny_mono (xT kp_noteFrame (wpAny_looks_onW (Q:=fun _ s2=>∃ h',s2={ s with heap:=h' }∧Heap.HeldW base (env::outer) e cls a0 L h'∧s.heap.UpToSlots h') hfr hf hfl fun h' a b=>⟨h',rfl,a,b⟩))
  (fun _ s2 ⟨⟨h',q,a,b⟩,k⟩=>by subst q;exact hQ h' a b k) fun _ _ z=>z
theorem za9 (hh:Heap.HeldW base l e cls a0 L s.heap) (hQ:∀ h',Heap.FlyingW base l e cls a0 h'→s.heap.UpToSlots h'→KD s.heap h'→Q () { s with heap:=h' }):wpAny M A (setFlight (.ref e) none) Q E s :=
 wpAny_mono (xT yY (wpAny_landsW (Q:=fun _ s2=>∃ h',s2={ s with heap:=h' }∧Heap.FlyingW base l e cls a0 h'∧s.heap.UpToSlots h') hh fun h' a b=>⟨h',rfl,a,b⟩))
  (fun _ s2 ⟨⟨h',q,a,b⟩,k⟩=>by subst q;exact hQ h' a b k) fun _ _ z=>z
theorem Vk (hh:Heap.FlyingW base l e cls a0 s.heap) (hQ:∀ h',Heap.FlyingW base l e cls a0 h'→s.heap.UpToSlots h'→KD s.heap h'→Q () { s with heap:=h' }):wpAny M A (setFlight (.ref e) none) Q E s :=
 wpAny_mono (xT yY (lands_againW (Q:=fun _ s2=>∃ h',s2={ s with heap:=h' }∧Heap.FlyingW base l e cls a0 h'∧s.heap.UpToSlots h') hh fun h' a b=>⟨h',rfl,a,b⟩))
  (fun _ s2 ⟨⟨h',q,a,b⟩,k⟩=>by subst q;exact hQ h' a b k) fun _ _ z=>z
end
section
variable {P:Program}{w:World}{H H':Hp}{h h':Heap}{a:Addr}{o:HO}
theorem ObjOk.thr (x:ObjOk P w H h a o):∃ u,h.get? a=some u:=by
 cases o with
 |lst xs=>obtain⟨_,_,_,_,e⟩:=x;exact⟨_,e⟩
 |tup xs=>obtain⟨_,_,_,_,e,_⟩:=x;exact⟨_,e⟩
 |dK kvs=>obtain⟨_,_,_,_,o,_,_,e,_⟩:=x;exact⟨_,e⟩
 |dT kvs=>obtain⟨_,_,_,_,o,_,_,e,_⟩:=x;exact⟨_,e⟩
 |set S n=>obtain⟨o,_,_,_,e,_⟩:=x;exact⟨_,e⟩
 |ins C dx fs=>obtain⟨_,_,_,e,_⟩:=x;exact⟨_,e⟩
 |own y=>obtain⟨_,e⟩:=x;exact⟨_,e⟩
 |xd fs=>obtain⟨_,⟨_,_,_,e,_⟩,_⟩:=x;exact⟨_,e⟩
 |rng lo hi=>obtain⟨_,_,_,e⟩:=x;exact⟨_,e⟩
 |frz ob u=>obtain⟨e,_⟩:=x;exact⟨_,e⟩
 |tbl ps=>exact⟨_,show h.get? a=some _ from x⟩
 |met f y=>exact⟨_,show h.get? a=some _ from x⟩
 |ext φ=>obtain⟨_,⟨_,e⟩,_⟩:=x;exact⟨_,e⟩
theorem HOk.thr (x:HOk P w H h) (e:H a=some o):∃ u,h.get? a=some u:=(x a o e).thr
theorem HOk.untr (x:HOk P w H h) (e:h.get? a=none):H a=none:=by
 cases q:H a with
 |none=>rfl
 |some u =>
  obtain⟨v,hv⟩:=x.thr q
  rw[e] at hv
  cases hv
theorem HOk.keptT (x:HOk P w H h) (k:∀ b u,H b≠none→h.get? b=some u→h'.get? b=some u):HOk P w H h':=fun a o e =>
 (x a o e).stay (fun b u hb q=>k b u (by rcases hb with rfl | hb<;>simp_all) q) (fun _ q=>q) fun _ _ q=>q
end
structure Lies (P:Program) (w:World) (l:List Env) (H:Hp) (s:Shared) (H':Hp) (s':Shared) (B:Heap):Prop where
 os:s'.os=s.os
 bare:AllBare s'.gens
 un:Un (frs l) [] H H' s.heap s'.heap
 hok:HOk P w H' s'.heap
 c1:∀ b o,s.heap.get? b=some o→H b=none→b∉frs l→B.get? b=some o
 c2:∀ b o,H' b≠none→s'.heap.get? b=some o→B.get? b=some o
 c3:∀ b o,s.heap.get? b=some o→b∉frs l→∃ o',B.get? b=some o'
abbrev CX1 (P:Program) (w:World):CXT:=fun l H s E e s'=>∃ (a:Addr) (cls a0:Value) (H':Hp) (B:Heap),e=.ref a∧Lies P w l H s H' s' B∧Heap.FlyingW B l a cls a0 s'.heap∧∃ dd:Option Addr,(∀ D,dd=some D→DictAt a D s'.heap)∧E cls dd H'
section
variable {X:Cx}{pins:List (Addr×Obj)}{σ:St}{H H':Hp}{s s':Shared}{B h2:Heap}{t2:Nat}
theorem Lies.un2 (I:Inv X pins σ H s) (L:Lies X.prog X.w X.stack H s H' s' B) (st:B.StaysIn h2) (up:s'.heap.UpToSlots h2):Un (frs X.stack) [] H H' s.heap h2:=by
 have sl:∀ b o,s.heap.get? b=some o→b∈frs X.stack→∃ z,h2.get? b=some { o with slots:=z }:=fun b o q hb=>by
  obtain⟨z,e1⟩:=L.un.slot b o q (I.stkFree b hb) hb (by simp)
  obtain⟨_,o',ho',hd⟩:=I.stack.mem hb
  rw[q] at ho'
  cases ho'
  obtain⟨z2,e2⟩:=up b _ e1 (fun vs z=>hd vs z)
  exact⟨z2,e2⟩
 refine⟨fun b o q n hb _=>st b o (L.c1 b o q n hb),fun b o q _ hb _=>sl b o q hb,fun b o q n hx=>L.un.free b o q n hx,fun b o q _=>?_,L.un.tups,L.un.frzs,L.un.tbls⟩
 by_cases hb:b∈frs X.stack
 ·obtain⟨z,e⟩:=sl b o q hb
  exact⟨_,e⟩
 ·obtain⟨o',e⟩:=L.c3 b o q hb
  exact⟨o',st b o' e⟩
theorem Lies.ok2 {l:List Env}{P:Program}{w:World}(L:Lies P w l H s H' s' B) (st:B.StaysIn h2):HOk P w H' h2:=L.hok.keptT fun b u hb q=>st b u (L.c2 b u hb q)
theorem Lies.inv (I:Inv X pins σ H s) (L:Lies X.prog X.w X.stack H s H' s' B) (st:B.StaysIn h2) (up:s'.heap.UpToSlots h2):Inv X pins σ H' { s' with heap:=h2,toks:=t2 }:=by
 refine I.call' (s':={ s' with heap:=h2,toks:=t2 }) (ch:=[]) L.os (L.un2 I st up) (L.ok2 st) L.bare (fun b z=>absurd z (by simp))
theorem Lies.out (I:Inv X pins σ H s) (L:Lies X.prog X.w X.stack H s H' s' B) (st:B.StaysIn h2) (up:s'.heap.UpToSlots h2) (hx:X.ex=[]):Lies X.prog X.w X.outer X.H₀ X.s₀ H' { s' with heap:=h2 } B:=by
 have J:=Lies.inv (t2:=s'.toks) I L st up
 have ns:∀ b o,X.s₀.heap.get? b=some o→b∉frs X.outer→b∉frs X.stack:=fun b o q hb z=>by
  rcases List.mem_cons.mp (I.stkSub b z) with e | e
  ·exact absurd (Nat.lt_of_lt_of_le (Heap.lt_size q) I.ok.above) (by rw[e];exact Nat.lt_irrefl _)
  ·exact hb e
 have hn:∀ b:Addr,b∉X.ex:=fun b=>by rw[hx];simp
 refine⟨J.os,J.bare,?_,J.hok,fun b o q n hb=>?_,fun b o hb q=>?_,fun b o q hb=>?_⟩
 ·have:=J.base
  rw[hx] at this
  exact this
 ·exact L.c1 b o (I.base.keep b o q n hb (hn b)) (I.base.free b o q n (hn b)) (ns b o q hb)
 ·cases e:H' b with
  |none=>exact absurd e hb
  |some u =>
   obtain⟨v,hv⟩:=L.hok.thr e
   have z:=L.c2 b v hb hv
   have q':h2.get? b=some o:=q
   rw[st b v z] at q'
   cases q'
   exact z
 ·obtain⟨o',e⟩:=I.base.there b o q (hn b)
  exact L.c3 b o' e (ns b o q hb)
theorem Y7 (I:Inv X pins σ H s) (k:∀ b u,s.heap.get? b=some u→h2.get? b=some u):Lies X.prog X.w X.stack H s H { s with heap:=h2 } (PySem.W.hideAll s.heap (frs X.stack)):=by
 refine⟨rfl,I.bare,Un.kept k,I.hok.kept k,fun b o q _ hb=>PySem.W.hideAll_get _ q hb,fun b o hb q=>?_,fun b o q hb=>⟨o,PySem.W.hideAll_get _ q hb⟩⟩
 cases e:H b with
 |none=>exact absurd e hb
 |some u =>
  obtain⟨v,hv⟩:=I.hok.thr e
  have q':h2.get? b=some o:=q
  rw[k b v hv] at q'
  cases q'
  exact PySem.W.hideAll_get _ hv fun z=>hb (I.stkFree b z)
end
section
variable {P:Program}{w:World}{K:PySem.W.Frag}{mg:Str→Option Value}{base:Heap}{N:List Str}{qual:Str}{scope:Scope}{f:Addr}{cd:Value}{A:Around}{outer:List Env}{s0:Shared}{H0:Hp}{E:XK}
theorem zds:xS (CX1 P w) (xR (CX1 P w) P w K mg base N qual scope f cd A outer s0 H0 E) E:=by
 rintro pins σ H s e s' I ⟨a,cls,a0,H',B,rfl,L,F,dd,hdd,q⟩
 have hfr:=I.ok.frames
 refine Vj (M:=model P w) (A:=A.deeper (envOfC qual scope s0.heap.objs.size f cd)) (outer:=outer) (L:=s0.heap.objs.size) hfr rfl F fun h2 F2 up kd=>?_
 exact⟨a,cls,a0,H',B,rfl,L.out I F2.1 up rfl,F2,dd,fun D e=>kd _ _ (hdd D e),q⟩
theorem za6 {pins:List (Addr×Obj)}{σ:St}{H:Hp}{s:Shared}{h':Heap}{e:Addr}{cls:Value}{args:List Value}(I:Inv (xR (CX1 P w) P w K mg base N qual scope f cd A outer s0 H0 E) pins σ H s)
  (hx:Heap.MadeExcOf s.heap h' e cls args) (q:E cls none H):(xR (CX1 P w) P w K mg base N qual scope f cd A outer s0 H0 E).xe (.ref e) { s with heap:=h' }:=by
 have hfr:=I.ok.frames
 have L:=Y7 I hx.keeps
 refine wpAny_leaves_madeW (M:=model P w) (A:=A.deeper (envOfC qual scope s0.heap.objs.size f cd)) (s:={ s with heap:=h' }) (outer:=outer) (L:=s0.heap.objs.size) (base:=PySem.W.hideAll s.heap (frs (envOfC qual scope s0.heap.objs.size f cd::outer))) hfr rfl (fun b o q=>PySem.W.of_hideAll _ q)
  (PySem.W.funFrames_hide I.stack fun env he b hb=>List.mem_filterMap.mpr ⟨env,he,hb⟩) hx fun h2 t F2 _ _ up=>?_
 exact⟨e,cls,.ref t,H,_,rfl,L.out I F2.1 up rfl,F2,none,(fun D e=>nomatch e),q⟩
end
abbrev ug:List Value:=[.type "ValueError",.type "Exception",.type "BaseException",.type "object"]
def XCls (K:PySem.W.Frag) (C:Addr):Prop:=PySem.W.excIn K C ug "ValueError.__new__" = true
def zmS (h:Heap) (C:Addr):Prop:=∃ bm N nm qn bs hd sn sub ab col dd k0 k1 k2 k3 k5 mN,h.get? C=some (excClassObj nm qn C N bs bm hd sn sub ab col dd k0 k1 k2 k3 k5 "ValueError.__new__")∧h.Ns N mN∧mN "__init__" = none∧OwnTail h ug bm
theorem XCls.obj {K:PySem.W.Frag}{C:Addr}(x:XCls K C){h:Heap}(I:K.In h):zmS h C:=by
 unfold XCls PySem.W.excIn at x
 split at x
 case h_2=>cases x
 case h_1 dd cd sl lk =>
  split at x
  case h_2=>cases x
  case h_1 C2 bm k0 k1 k2 k3 nid k5 em es =>
   rw[Bool.and_eq_true,Bool.and_eq_true,Bool.and_eq_true,Bool.and_eq_true,Bool.and_eq_true] at x
   obtain⟨⟨⟨⟨⟨x1,x2⟩,x3⟩,x4⟩,x5⟩,x6⟩:=x
   cases (beq_iff_eq.mp x1)
   cases (beq_iff_eq.mp x2)
   cases cd with
   |mk nm bs mro ns qn hd sn sub ab col del =>
    have e1:mro=.ref C::bm:=em
    have e2:del=false:=by
     cases del with
     |false=>rfl
     |true=>cases x3
    have e3:sl = #[k0,k1,k2,k3,some (.builtin "ValueError.__new__"),k5]:=by
     cases sl with
     |mk l =>
      have e:l=_:=es
      rw[e]
    rw[e1,e2,e3] at lk
    exact⟨bm,ns,nm,qn,bs,hd,sn,sub,ab,col,dd,k0,k1,k2,k3,k5,_,I _ _ lk,.of_isNs (PySem.W.isNs_of_in I x5),PySem.W.nsMap_none_of_in I x5 (beq_iff_eq.mp x6),PySem.W.tail_of_in I x4⟩
section
variable {P:Program}{w:World}{K:PySem.W.Frag}{mg:Str→Option Value}{base:Heap}{N:List Str}{qual:Str}{scope:Scope}{f:Addr}{cd:Value}{A:Around}{outer:List Env}{s0:Shared}{H0:Hp}{E:XK}
 {x:Str}{C:Addr}{e:Expr}{es:List Expr}{t:TA}{np cpos pos:Pos}
def tRz (C:Addr) (E:XK) (t:TA):TS:=fun _ σ H=>t σ H fun vs H1=>vs.length≤1000∧E (.ref C) none H1
theorem uS (hc:(A.deeper (envOfC qual scope s0.heap.objs.size f cd)).handled=none) (c:XCls K C) (hm:mg x=some (.ref C)) (ha:Bx (PA (xR (CX1 P w) P w K mg base N qual scope f cd A outer s0 H0 E) (e::es) t)) (hg:Gl (xR (CX1 P w) P w K mg base N qual scope f cd A outer s0 H0 E) x:=by rfl) (he:starEach (e::es) (xR (CX1 P w) P w K mg base N qual scope f cd A outer s0 H0 E).env=(false,eval e (xR (CX1 P w) P w K mg base N qual scope f cd A outer s0 H0 E).env)::starEach es (xR (CX1 P w) P w K mg base N qual scope f cd A outer s0 H0 E).env:=by rfl) (hpl:(backTo cpos (starEach es (xR (CX1 P w) P w K mg base N qual scope f cd A outer s0 H0 E).env)).any (·.1)=false:=by rfl) (hdb:(x == ("__debug__" : Str))=false:=by decide):Bx (PS (xR (CX1 P w) P w K mg base N qual scope f cd A outer s0 H0 E) (.Raise (some (.Call (.Name x np) (e::es) [] cpos)) none pos) (tRz C E t)):=by
 have ha:=ha.of
 refine⟨?_⟩
 intro pins s σ H D I h
 obtain⟨bm,Nn,nm,qn,bs,hd,sn,sub,ab,col,dd,k0,k1,k2,k3,k5,mN,h1,h2,h3,h4⟩:=c.obj I.mod.kin
 refine wpAny_Raise_call_subT (C:=C) (nm:=nm) (q:=qn) (N:=Nn) (bs:=bs) (bm:=bm) (hdct:=hd) (sn:=sn) (sub:=sub) (ab:=ab) (col:=col) (dd:=dd) (k0:=k0) (k1:=k1) (k2:=k2) (k3:=k3) (k5:=k5) PySem.F.excBase_ValueError (mN:=mN)
  (h4.hasType rfl) hc (by rw[he];exact hpl) h3 (ld_glob I hg hm ⟨rfl,?_⟩ hdb)
 have hA:=ha cpos pins s σ H _ I h
 rw[he] at hA ⊢
 refine Calls.evalArgs_plain (wpAny_mono hA (fun us s2 hq=>?_) fun _ _ z=>z)
 obtain⟨vs,H1,I1,r1,hl,q⟩:=hq
 refine⟨rfl,?_,I1.bk _ _ h1,h2.keeps I1.bk,h4.keeps I1.bk,fun h' e' hx=>za6 I1 hx q⟩
 show us.length≤sizeLine
 rw[← r1.length]
 exact Nat.le_of_lt (zj hl)
end
def XP (X:Cx) (pins:List (Addr×Obj)) (σ:St) (E:XK) (e:Value) (s':Shared):Prop:=∃ H1 s1,Inv X pins σ H1 s1∧CX1 X.prog X.w X.stack H1 s1 E e s'
def PV (X:Cx) (e:Expr) (t:XK→TE):Prop:=∀ (pins:List (Addr×Obj)) (s:Shared) (σ:St) (H:Hp) (Q:VK) (E:XK),Inv X pins σ H s→t E σ H Q→wpAny (model X.prog X.w) X.A (eval e X.env) (EP X pins σ Q) (XP X pins σ E) s
def PX (X:Cx) (b:List Stmt) (t:XK→TS):Prop:=∀ (pins:List (Addr×Obj)) (s:Shared) (σ:St) (H:Hp) (D:Ends) (E:XK),Inv X pins σ H s→t E D σ H→wpAny (model X.prog X.w) X.A (execs b X.env) (SP X pins D) (XP X pins σ E) s
section
variable {X:Cx}{k:Nat}{f C:Addr}{fd:FuncData}{ps:List Str}{sp:Sp}{dvs:List V}{ds:List Value}{x:Str}{p pos:Pos}{e:Expr}{es:List Expr}{t:TA}
theorem WO {E:XK}{pins:List (Addr×Obj)}{σ:St}{H:Hp}{s:Shared}{Q:VK}{us:List Value}{vs:List V}(F:FnOk X.prog X.w X.K X.mg X.base (CX1 X.prog X.w) k f fd ps sp) (hr:Room k X.A) (hb:Binds X.K fd ps ds) (hd:Vals dvs ds)
  (I:Inv X pins σ H s) (r:Vals vs us) (h:sp (vs++dvs) H Q E):wpAny (model X.prog X.w) X.A (call (.ref f) us) (EP X pins σ Q) (XP X pins σ E) s:=by
 have r2:Vals (vs++dvs) (us++ds):=r.append hd
 have hl:(us++ds).length=ps.length:=by rw[← r2.length];exact F.len _ _ _ _ h
 refine wpAny_call (codeAny_mono (F.run X.A X.stack s H ⟨us,[]⟩ (us++ds) (vs++dvs) Q E hr I.env0 (hb s us I.kIn hl) r2 h) fun r s' hq=>?_)
 cases r with
 |error e=>exact⟨H,s,I,hq⟩
 |ok fl =>
  cases fl with
  |ret u=>exact I.after hq
  |next=>exact False.elim hq
  |brk=>exact False.elim hq
  |cont=>exact False.elim hq
theorem WV (F:FnOk X.prog X.w X.K X.mg X.base (CX1 X.prog X.w) k f fd ps sp) (hr:Room k X.A) (hm:X.mg x=some (.ref f)) (hk:PySem.W.keepIn X.K (.ref f)=true) (hb:Binds X.K fd ps [])
  (ha:PA X.nox (e::es) t) (hg:Gl X x:=by rfl) (hdb:(x == ("__debug__" : Str))=false:=by decide) (he:starEach (e::es) X.env=(false,eval e X.env)::starEach es X.env:=by rfl) (hpl:(backTo pos (starEach es X.env)).any (·.1)=false:=by rfl) :
  PV X (.Call (.Name x p) (e::es) [] pos) (fun E=>Zy sp [] E t):=by
 intro pins s σ H Q E I h
 refine wpAny_Call_Name_kw (ld_glob I hg hm ?_ hdb)
 refine PySem.W.callWith_K (h₀:=X.base) I.ok.mod.kin hk (wpAny_mono (ha pos pins s σ H _ (I.wish _) h) (fun us s1 hq=>?_) (fun _ _ z=>False.elim z)) he hpl
 obtain⟨vs,H1,I1,r,q⟩:=hq
 exact⟨I1.unwish.kIn,WO F hr hb .nil I1.unwish r q⟩
theorem Zm {te:XK→TE}(h:Bx (PV X e te)) (hs:swapsWith e none pos.line X.env=pure false:=by rfl):Bx (PX X [.Expr e pos] (fun E=>Ua (te E))):=by
 have h:=h.of
 refine⟨?_⟩
 intro pins s σ H D E I q
 refine wpAny_execs_cons (wpAny_Expr_any (wpAny_mono (h pins s σ H _ E I q) (fun v s1 hq=>?_) fun _ _ z=>z) I.quiet hs)
 obtain⟨y,H1,I1,r1,q1⟩:=hq
 exact wpAny_execs_nil ⟨σ,H1,I1,q1⟩
end
abbrev Cx.inH (X:Cx) (a:Addr):Cx:={ X with A:=X.A.mark (some (.ref a)),calm:=false,xe:=fun _ _=>False }
section
variable {X:Cx}{pins:List (Addr×Obj)}{σ:St}{H:Hp}{s:Shared}{a:Addr}
theorem Inv.inH (I:Inv X pins σ H s) (a:Addr):Inv (X.inH a) pins σ H s :=
 ⟨⟨I.ok.mod,I.ok.kind,I.ok.glob,I.ok.blt,I.ok.above,I.ok.inj,I.ok.has,I.ok.cab,(fun z=>nomatch z),I.ok.frames,I.ok.stk,I.ok.exf,I.ok.bs,I.ok.bsz,I.ok.noex,I.ok.exfs,I.ok.funs,I.ok.frf⟩,I.os,I.bare,I.base,I.loc,I.cell,I.free,I.freeC,I.pin,I.hok,I.len⟩
theorem Inv.unH (ok:X.Ok) (I:Inv (X.inH a) pins σ H s):Inv X pins σ H s:=⟨ok,I.os,I.bare,I.base,I.loc,I.cell,I.free,I.freeC,I.pin,I.hok,I.len⟩
theorem SP.unH {D:Ends}{f:Flow}{s':Shared}(ok:X.Ok) (h:SP (X.inH a) pins D f s'):SP X pins D f s':=by
 cases f with
 |next=>obtain⟨σ',H',I,q⟩:=h;exact⟨σ',H',I.unH ok,q⟩
 |brk=>obtain⟨σ',H',I,q⟩:=h;exact⟨σ',H',I.unH ok,q⟩
 |cont=>obtain⟨σ',H',I,q⟩:=h;exact⟨σ',H',I.unH ok,q⟩
 |ret u=>obtain⟨v,σ',H',I,r,q⟩:=h;exact⟨v,σ',H',I.unH ok,r,q⟩
end
structure Callee1 (P:Program) (w:World) (K:PySem.W.Frag) (mg:Str→Option Value) (base:Heap) (x:Str) (f:Addr) (fd:FuncData) (ps:List Str) (k:Nat) (sp:Sp):Prop where
 ok:FnOk P w K mg base (CX1 P w) k f fd ps sp
 g:mg x=some (.ref f)
 kp:PySem.W.keepIn K (.ref f)=true
 b:Binds K fd ps []
section
variable {X:Cx}{k:Nat}{f C:Addr}{fd:FuncData}{ps:List Str}{sp:Sp}{x:Str}{p pos:Pos}{e:Expr}{es:List Expr}{t:TA}
theorem VW (c:Callee1 X.prog X.w X.K X.mg X.base x f fd ps k sp) (hr:Room k X.A) (ha:Bx (PA X.nox (e::es) t)) (hg:Gl X x:=by rfl) (hdb:(x == ("__debug__" : Str))=false:=by decide) (he:starEach (e::es) X.env=(false,eval e X.env)::starEach es X.env:=by rfl) (hpl:(backTo pos (starEach es X.env)).any (·.1)=false:=by rfl):Bx (PV X (.Call (.Name x p) (e::es) [] pos) (fun E=>Zy sp [] E t)):=by
 have ha:=ha.of
 exact⟨WV c.ok hr c.g c.kp c.b ha hg hdb he hpl⟩
end
section
variable {P:Program}{w:World}{K:PySem.W.Frag}{mg:Str→Option Value}{base:Heap}
theorem Fun.ok1 {x qual:Str}{st:Stmt}{f:Addr}{fd:FuncData}{N ps:List Str}{k:Nat}{sp:Sp}(F:Fun K x qual st f fd) (S:FnScope N ps (defScope st)) (len:∀ vs H Q E,sp vs H Q E→vs.length=ps.length)
  (hbody:∀ (cdv:Value) (A:Around) (outer:List Env) (s:Shared) (H:Hp) (vs:List V) (Q:VK) (E:XK),Room k (A.deeper (envOfC qual (defScope st) s.heap.objs.size f cdv))→sp vs H Q E →
   ∃ t,PSs (xR (CX1 P w) P w K mg base N qual (defScope st) f cdv A outer s H E) (defBody st) t∧t { nx:=fun _ H'=>Q .non H',rt:=Q } (start N vs) H):FnOk P w K mg base (CX1 P w) (k+1) f fd ps sp:=by
 obtain⟨oc,od,kV,doc,pm,an,cdv,ct,osl,rfl,lk,hcd⟩:=F.ex
 exact zbh lk hcd S len fun A outer s H vs Q E hr hsp=>hbody cdv A outer s H vs Q E hr hsp
end
end L2
namespace L2
open PySem PySem.W PySem.Spec PySem.Calls PyProof.Rows PySem.Builtin PySem.Builtin.ObjectAttr PySem.Builtin.Getset_descriptor
def ObC (x C:Addr) (h:Heap):Prop:=∃ o,h.get? x=some o∧o.cls=.ref C
structure XIs (K:Frag) (C:Addr):Prop where
 ga:findIn K (.ref C) "__getattribute__" = some (some (.builtin "BaseException.__getattribute__"))
 gt:findIn K (.ref C) "__getattr__" = some none
 ha:findIn K (.ref C) "__class__" = some (some (.builtin "object.__class__"))
 hn:specialIn K (.builtin "object.__class__") "__get__" = some (some (.builtin "getset_descriptor.__get__"))
 htk:takesIn K (.builtin "object.__class__")=some true
 hm:mroIn K C (.type "object")=some true
 hb:mroIn K C (.type "BaseException")=some true
 hd:hasDictIn K C=true
section
variable {K:Frag}{M:Model}{h:Heap}{x C:Addr}{name:Str}
theorem ObC.type (I:ObC x C h):Looks M h (typeOf (.ref x)) (.ref C):=by
 obtain⟨o,h1,h2⟩:=I
 rw[← h2]
 exact(Looks.ld h1).andThen .now
theorem Ye {a g:Value}(X:K.In h) (ha:findIn K (.ref C) name=some (some a)) (hg:specialIn K a "__get__" = some (some g)) (hd:takesIn K a=some true) :
  Looks M h (find (.ref x) (.ref C) name) (.bind g a):=by
 have L2:Looks M h (getOf (some a)) (some g):=looks_specialIn X hg
 have L3:Looks M h (dataDescriptor? (some a) (some g)) (some (g,a)):=(looks_takesIn X hd).andThen .now
 exact(looks_findIn X ha).andThen (L2.andThen (L3.andThen (Looks.tag .now)))
end
section
variable {prog:Program}{w:World}{A:Around}{E:Value→Shared→Prop}{K:Frag}{x C:Addr}{s:Shared}
theorem Vv {R:Result→Shared→Prop}{tp:Value}(X:K.In s.heap) (I:ObC x C s.heap) (hm:mroIn K C (.type "object")=some true) (k:R (.ok (.ret (.ref C))) s) :
  codeAny (model prog w) A (.call (.builtin "getset_descriptor.__get__") ⟨[.builtin "object.__class__",.ref x,tp],[]⟩) R s:=by
 obtain⟨hh,gg,dr,tt,ss⟩:=s
 have T0:=I.type (M:=model prog w)
 have T1:=looks_mroIn (M:=model prog w) X hm
 refine codeAny_call_builtin KF.slot_gs.plain KF.entry_gs ?_
 refine KF.slot_gs.check _ _ _ _ _ _ _ _ KF.type_class (KF.args_gs _ _ _) ?_
 unfold Builtin.«getset_descriptor.__get__»
 unfold descrGet
 rw[dga_obj]
 refine wpAny_bind (wpAny_pure ?_)
 unfold descrGetter descrCheckInstance
 unfold descrNameAndClass isInstance
 simp only[KF.owner_class]
 repeat lk
 refine⟨Code.quiet_builtin _ (by decide +kernel),?_⟩
 refine codeAny_builtin KF.entry_class ?_
 unfold Builtin.«object.__class__»
 unfold shownTypeOf
 repeat lk
 exact k
theorem Xf {nameV:Value}{Q:Unit→Shared→Prop}(X:K.In s.heap) (I:ObC x C s.heap) (hb:mroIn K C (.type "BaseException")=some true) (k:Q () s) :
  wpAny (model prog w) A (checkBuiltinCall "BaseException.__getattribute__" ⟨[.ref x,nameV],[]⟩) Q E s:=by
 have T0:=I.type (M:=model prog w)
 have T1:=looks_mroIn (M:=model prog w) X hb
 have hk:builtinKind "BaseException.__getattribute__" = some .slot:=by decide +kernel
 have hsplit:splitId "BaseException.__getattribute__" = some ("BaseException", "__getattribute__"):=by decide +kernel
 have ha:=F.args_bexc_ga (.ref x) nameV
 obtain⟨hh,gg,dr,tt,ss⟩:=s
 simp only[checkBuiltinCall,hk,hsplit]
 refine wpAny_bind ?_
 unfold isInstance
 repeat lk
 exact k
theorem Yl {tk:Tok}{Q:Fin→Shared→Prop}(X:K.In s.heap) (I:ObC x C s.heap) (c:XIs K C) (k:Q (.done (.ret (.ref C))) s) :
  wpAny (model prog w) A (Builtin.«object.__getattribute__» ⟨[.ref x,.str "__class__" tk],[]⟩) Q E s:=by
 have T0:=I.type (M:=model prog w)
 have T1:=Ye (M:=model prog w) (x:=x) X c.ha c.hn c.htk
 obtain⟨hh,gg,dr,tt,ss⟩:=s
 unfold Builtin.«object.__getattribute__»
 repeat lk
 refine wpAny_run (h:=none) ?_
 exact Vv X I c.hm (wpAny_pure (wpAny_pure k))
theorem zbn {tk:Tok}{Q:Value→Shared→Prop}(X:K.In s.heap) (I:ObC x C s.heap) (c:XIs K C) (k:Q (.ref C) s) :
  wpAny (model prog w) A (getAttrBy (.ref x) (.str "__class__" tk) false) Q E s:=by
 have T0:=I.type (M:=model prog w)
 have T1:=looks_findIn (M:=model prog w) X c.ga
 have T2:=looks_findIn (M:=model prog w) X c.gt
 have f3:=F.attr_ValueError.ga.bind (.ref x)
 obtain⟨hh,gg,dr,tt,ss⟩:=s
 unfold getAttrBy
 refine wpAny_holding (wpAny_bind (T0.at (wpAny_bind (T1.at ?_))))
 show wpAny _ _ (if (onTheHeap (Value.ref C)&&Value.builtin "BaseException.__getattribute__" == Value.builtin "object.__getattribute__")=true then _ else _) _ _ _
 have z:(Value.builtin "BaseException.__getattribute__" == Value.builtin "object.__getattribute__")=false:=by decide +kernel
 rw[z,Bool.and_false,if_neg Bool.false_ne_true]
 unfold getAttrByItsOwn
 refine wpAny_bind (T2.at ?_)
 refine wpAny_bind (wpAny_attempt (wpAny_holding ?_))
 show wpAny _ _ (boundAndCalled _ _ _) _ _ _
 unfold boundAndCalled
 rw[f3]
 refine wpAny_bind (wpAny_pure (wpAny_call ?_))
 refine codeAny_call_builtin F.attr_ValueError.ga.plain F.entry_bexc_ga ?_
 exact Xf X I c.hb (Yl X I c (wpAny_pure k))
theorem Xn {Q:Option Value→Shared→Prop}(X:K.In s.heap) (I:ObC x C s.heap) (c:XIs K C) (k:Q (some (.ref C)) { s with toks:=s.toks+1 }) :
  wpAny (model prog w) A (getAttr? (.ref x) "__class__") Q E s:=by
 obtain⟨hh,gg,dr,tt,ss⟩:=s
 unfold getAttr? getAttrBy?
 refine wpAny_bind (wpAny_mkText (wpAny_bind (wpAny_attempt ?_)))
 exact zbn (s:=⟨hh,gg,dr,tt+1,ss⟩) X I c (wpAny_pure k)
theorem va (c:XIs K C):KitX K (.ref x) (.ref C) (ObC x C) where
 ty:=fun _ _ _ I=>I.type
 it:=fun _ _ X _=>by
  obtain⟨cd,hc,_⟩:=any_some c.hd
  unfold clsIn at hc
  split at hc
  ·rename_i ho
   intro A' Q' E' s' k q
   unfold isType loadHead
   exact wpAny_bind (wpAny_loadPart (k _ _ (X _ _ ho)) (wpAny_pure q))
  ·cases hc
 ne:=fun h tp dd its n sl X htp=>by
  obtain⟨cd,hc,_⟩:=any_some c.hd
  refine Bool.eq_false_iff.mpr fun q=>?_
  cases Value.ref.inj (beq_iff_eq.mp q)
  unfold clsIn at hc
  split at hc
  ·rename_i ho
   cases (X _ _ ho).symm.trans htp
  ·cases hc
 ca:=fun X I k=>Xn X I c k
end
section
variable {X:Cx}
def Uw (K:Frag):List V→Hp→VK→Prop:=fun xs H Q=>∃ (x C:Addr) (c:V) (cv:Value) (b:Bool),xs=[.ref x,c]∧Vw c=some cv∧H x=some (.ext (ObC x C))∧XIs K C∧kitOne K (.ref C) cv=some b∧Q (.bl b) H
theorem Yn:xj X (.builtin "isinstance") (Uw X.K):=by
 intro pins s σ H xs us Q I r h
 obtain⟨x,C,c,cv,b,rfl,hc,hx,xi,e,q⟩:=h
 obtain⟨u,v,rfl,r1,r2⟩:=r.two
 obtain rfl:=wc hc r2
 cases (show u=Value.ref x from r1)
 obtain⟨p,_,_⟩:=(show ObjOk X.prog X.w H s.heap x (.ext (ObC x C)) from I.hok x _ hx)
 exact kia_one (va xi) I.kIn p e (fun z=>nomatch z) fun tk=>⟨.bl b,H,I.tok tk,rfl,q⟩
theorem vL {K:Frag}(h:X.K=K):xj X (.builtin "isinstance") (Uw K):=by
 subst h
 exact Yn
end
end L2
namespace L2
open PySem PySem.Spec PyProof.Rows
section
variable {X:Cx}{pins:List (Addr×Obj)}{σ:St}{H:Hp}{s:Shared}
theorem Zv {M:Model}{A:Around}{E:Value→Shared→Prop}{i:Nat}{x:Str}{Q:Unit→Shared→Prop}(I:Inv X pins σ H s) (hN:X.N.Nodup) (hi:X.N[i]?=some x) (hk:X.env.scope.names.lookup x=some .local){v:V}(hv:σ[i]?=some (some v))
  (h:∀ s',Inv X pins (σ.set i none) H s'→Q () s'):wpAny M A (unbindName X.env x) Q E s:=by
 obtain⟨m,hn,hl⟩:=id I.loc
 have hcls:(X.env.scope.kind == .class||(X.env.scope.kind == .module&&X.env.locals != X.env.globals))=false:=by rw[I.ok.kind];rfl
 have cne:=I.cne
 have hm:∃ u,m x=some u:=by
  obtain⟨u,_,q⟩:=hl i x v hi hv (.inl hk)
  rcases q with⟨_,e⟩ | ⟨k,_⟩
  ·exact⟨u,e⟩
  ·have hk':X.env.kindOf x=some .local:=hk
   rw[hk'] at k
   rcases k with k | k<;>cases k
 obtain⟨u0,hm⟩:=hm
 obtain⟨oL,_,_,hoL,_⟩:=id hn
 refine wpAny_unbindName_local hk hn hm hcls fun h' u' hn' hs=>?_
 have tracked:HOk X.prog X.w H h':=fun b ob e=>by
  refine(I.hok b ob e).stay (fun c w' hc q=>(hs.2 c ?_).trans q) (fun _ q=>q) fun _ _ q=>q
  rintro rfl
  have hfree:=I.free
  rcases hc with rfl | hc
  ·rw[hfree] at e;cases e
  ·rw[hfree] at hc;cases hc
 refine h _ ⟨I.ok,I.os,I.bare,⟨fun b o e n hb hx=>?_,fun b o e n hb hx=>?_,I.base.free,fun b o e hx=>?_,I.base.tups,I.base.frzs,I.base.tbls⟩,⟨_,hn',fun j y v' e1 e2 e3=>?_⟩,fun y c e=>?_,I.free,I.freeC,fun p hp=>?_,tracked,by simpa using I.len⟩
 ·exact(hs.2 b (Nat.ne_of_lt (Nat.lt_of_lt_of_le (Heap.lt_size e) I.ok.above))).trans (I.base.keep b o e n hb hx)
 ·obtain⟨sl,e1⟩:=I.base.slot b o e n hb hx
  exact⟨sl,(hs.2 b (Nat.ne_of_lt (Nat.lt_of_lt_of_le (Heap.lt_size e) I.ok.above))).trans e1⟩
 ·obtain⟨o',e1⟩:=I.base.there b o e hx
  exact⟨o',(hs.2 b (Nat.ne_of_lt (Nat.lt_of_lt_of_le (Heap.lt_size e) I.ok.above))).trans e1⟩
 ·by_cases hj:j=i
  ·subst hj
   rw[List.getElem?_set] at e2
   simp at e2
  ·rw[List.getElem?_set_ne (Ne.symm hj)] at e2
   obtain⟨u',r',q⟩:=hl j y v' e1 e2 e3
   refine⟨u',r',?_⟩
   rcases q with⟨k,e⟩ | ⟨k,c,e,z⟩
   ·refine .inl ⟨k,?_⟩
    have:y≠x:=fun e=>hj (nodup_ix hN e1 (e ▸ hi))
    simp[this,e]
   ·exact .inr ⟨k,c,e,z.sameBut hs (cne y c e)⟩
 ·obtain⟨w',z⟩:=I.cell y c e
  exact⟨w',z.sameBut hs (cne y c e)⟩
 ·obtain⟨e,n,ne,nf,d⟩:=I.pin p hp
  exact⟨(hs.2 p.1 ne).trans e,n,ne,nf,d⟩
theorem Ya {M:Model}{A:Around}{E:Value→Shared→Prop}{i:Nat}{x:Str}{pos:Pos}{Q:Unit→Shared→Prop}(I:Inv X pins σ H s) (hN:X.N.Nodup) (hi:X.N[i]?=some x) (hk:X.env.scope.names.lookup x=some .local)
  (h:∀ s',Inv X pins (σ.set i none) H s'→Q () s'):wpAny M A (do bindName X.env x .none;unbindBehindTheSuite X.env x pos) Q E s:=by
 have hiσ:i<σ.length:=by rw[I.len];exact(List.getElem?_eq_some_iff.mp hi).1
 refine wpAny_bind (wpAny_bindName (store_ok (v:=.non) I hN hi (.inl hk) rfl (fun s1 I1=>?_) (.inr hk)))
 unfold unbindBehindTheSuite
 refine wpAny_onRaise (Zv I1 hN hi hk (v:=.non) (List.getElem?_set_self hiσ) fun s2 I2=>h s2 ?_)
 rw[List.set_set] at I2
 exact I2
end
abbrev Ends.sans (D:Ends) (i:Nat):Ends:={ nx:=fun σ H=>D.nx (σ.set i none) H,rt:=D.rt,bk:=fun σ H=>D.bk (σ.set i none) H,ct:=fun σ H=>D.ct (σ.set i none) H }
end L2
namespace L2
open PySem
section
variable {X:Cx}{es:List Expr}{t:TA}{te:TE}
theorem zX {c j pos}(ha:Bx (PE X (.Constant c j pos) te)) (hr:Bx (PA X es t)):Bx (PA X (.Constant c j pos::es) (vZ te t)):=by
 have ha:=ha.of
 have hr:=hr.of
 exact⟨xL ha hr rfl⟩
theorem xM {xs c pos}(ha:Bx (PE X (.Tuple xs c pos) te)) (hr:Bx (PA X es t)):Bx (PA X (.Tuple xs c pos::es) (vZ te t)):=by
 have ha:=ha.of
 have hr:=hr.of
 exact⟨xL ha hr rfl⟩
theorem zI {f xs ks pos}(ha:Bx (PE X (.Call f xs ks pos) te)) (hr:Bx (PA X es t)):Bx (PA X (.Call f xs ks pos::es) (vZ te t)):=by
 have ha:=ha.of
 have hr:=hr.of
 exact⟨xL ha hr rfl⟩
theorem xy {l o r pos}(ha:Bx (PE X (.BinOp l o r pos) te)) (hr:Bx (PA X es t)):Bx (PA X (.BinOp l o r pos::es) (vZ te t)):=by
 have ha:=ha.of
 have hr:=hr.of
 exact⟨xL ha hr rfl⟩
theorem zd {x pos}(ha:Bx (PE X (.Name x pos) te)) (hr:Bx (PA X es t)):Bx (PA X (.Name x pos::es) (vZ te t)):=by
 have ha:=ha.of
 have hr:=hr.of
 exact⟨xL ha hr rfl⟩
end
end L2
namespace L2
open PySem PySem.Spec PyProof.Rows
section
variable {X:Cx}
def zlJ (K:PySem.W.Frag) (te ts:TE):TE:=fun σ H Q=>te σ H fun x H1=>ts σ H1 fun y H2=>y=.int (-1)∧∃ a xs,x=.ref a∧SqL K H2 a xs∧∀ p,H2 p=none→Q (.ref p) (upd H2 p (.lst xs.reverse))
theorem uj {e st:Expr}{te ts:TE}{p2 pos:Pos}(he:Bx (PE X e te)) (hs:Bx (PE X st ts)):Bx (PE X (.Subscript e (.Slice none none (some st) p2) pos) (zlJ X.K te ts)):=by
 have he:=he.of
 have hs:=hs.of
 refine⟨?_⟩
 intro pins s σ H Q I h
 refine Subscript_ (thn (he pins s σ H _ I h) fun v s1 hq0=>?_)
 obtain⟨x,H1,I1,r1,q1⟩:=hq0
 refine wpAny_Slice ?_
 rw[evalPart_none]
 refine wpAny_pure (wpAny_pure ?_)
 rw[evalPart_some]
 refine thn (hs pins s1 σ H1 _ I1 q1) fun w s3 hq0=>?_
 obtain⟨y,H3,I3,r3,ey,a,xs,ex,hx,q⟩:=hq0
 subst ey
 subst ex
 obtain⟨t,rfl⟩:=r3
 cases r1
 have I4:Inv X pins σ H3 { s3 with heap:=s3.heap.push { cls:=.type "slice",data:=.fields #[.none,.none,.int (-1) t] } }:=I3.kept (t':=s3.toks) fun b ob q=>Heap.get?_push_of_some _ q
 obtain⟨its,r,ht,hz⟩:=I4.list hx
 have hlen:=r.length
 refine tail_any (T := "list") (ops:=[.ref a,.ref s3.heap.objs.size]) ht.isList.typeIs slot_list_getitem.lookup ?_ (by with_unfolding_all rfl)
 refine wpAny_getItem_list_slice ht.isList (Heap.IsSliceOf.new ..) .none .none (.int (-1) t) (by simp) ?_ (by rw[List.size_toArray]<;>omega)
 rw[PySem.W.krv_pick]
 refine⟨.ref _,_,I4.laid (t':=s3.toks) (o:=.lst xs.reverse) (fun b ob q=>Heap.get?_push_of_some _ q) (Nat.le_refl _) ?_,rfl,q _ (I4.hok.fresh (Nat.le_refl _))⟩
 exact⟨by rw[List.length_reverse];exact hz,_,0,r.reverse,Heap.get?_push_size _ rfl⟩
end
section
variable {X:Cx}{tg:Expr}
theorem vg:bootBuiltins "reversed" = some (.type "reversed"):=by decide +kernel
end
def XM (K:PySem.W.Frag) (C f:Addr):Bool:=match K.lookup C with
 |some ⟨.type "type",_,.cls cd,sl⟩=>(match cd.mro,sl.toList with
  |.ref C'::bm,[_,_,_,_,some (.builtin n),_]=>C' == C&&n == "ValueError.__new__" && !cd.hasDel&&PySem.W.tailIn K ug bm&&PySem.W.nsOkIn K cd.ns&&PySem.W.nsIn K cd.ns "__init__" == some (some (.ref f))
  |_,_=>false)
 |_=>false
def zgC (h:Heap) (C f:Addr):Prop:=∃ bm N nm qn bs hd sn sub ab col dd k0 k1 k2 k3 k5 mN,h.get? C=some (excClassObj nm qn C N bs bm hd sn sub ab col dd k0 k1 k2 k3 k5 "ValueError.__new__")∧h.Ns N mN∧mN "__init__" = some (.ref f)∧OwnTail h ug bm
theorem za2 {K:PySem.W.Frag}{h:Heap}{N:Addr}{m:Str→Option Value}{x:Str}{v:Value}(X:K.In h) (G:h.Ns N m) (q:PySem.W.nsIn K N x=some (some v)):m x=some v:=by
 obtain⟨o,es,ep,e1,e2,_,e3⟩:=G
 unfold PySem.W.nsIn at q
 split at q
 case h_2=>cases q
 case h_1 lk =>
  have z:=e1.symm.trans (X _ _ lk)
  cases z
  cases e2
  split at q
  case h_2 =>
   split at q<;>cases q
  case h_1 fd =>
   rw[← e3]
   unfold nsFind findBy
   rw[← Array.find?_toList,fd]
   exact Option.some.inj q
theorem Zl {K:PySem.W.Frag}{C f:Addr}(x:XM K C f=true){h:Heap}(I:K.In h):zgC h C f:=by
 unfold XM at x
 split at x
 case h_2=>cases x
 case h_1 dd cd sl lk =>
  split at x
  case h_2=>cases x
  case h_1 C2 bm k0 k1 k2 k3 nid k5 em es =>
   rw[Bool.and_eq_true,Bool.and_eq_true,Bool.and_eq_true,Bool.and_eq_true,Bool.and_eq_true] at x
   obtain⟨⟨⟨⟨⟨x1,x2⟩,x3⟩,x4⟩,x5⟩,x6⟩:=x
   cases (beq_iff_eq.mp x1)
   cases (beq_iff_eq.mp x2)
   cases cd with
   |mk nm bs mro ns qn hd sn sub ab col del =>
    have e1:mro=.ref C::bm:=em
    have e2:del=false:=by
     cases del with
     |false=>rfl
     |true=>cases x3
    have e3:sl = #[k0,k1,k2,k3,some (.builtin "ValueError.__new__"),k5]:=by
     cases sl with
     |mk l =>
      have e:l=_:=es
      rw[e]
    rw[e1,e2,e3] at lk
    have hn:h.Ns ns (h.nsMap ns):=.of_isNs (PySem.W.isNs_of_in I x5)
    exact⟨bm,ns,nm,qn,bs,hd,sn,sub,ab,col,dd,k0,k1,k2,k3,k5,_,I _ _ lk,hn,za2 I hn (beq_iff_eq.mp x6),PySem.W.tail_of_in I x4⟩
def XAny (K:PySem.W.Frag) (C:Addr):Prop:=XCls K C∨∃ g,XM K C g=true
def zmT (h:Heap) (C:Addr):Prop:=∃ bm N nm qn bs hd sn sub ab col dd k0 k1 k2 k3 k5,h.get? C=some (excClassObj nm qn C N bs bm hd sn sub ab col dd k0 k1 k2 k3 k5 "ValueError.__new__")∧OwnTail h ug bm
theorem XAny.obj {K:PySem.W.Frag}{C:Addr}(x:XAny K C){h:Heap}(I:K.In h):zmT h C:=by
 rcases x with x | ⟨g,x⟩
 ·obtain⟨bm,N,nm,qn,bs,hd,sn,sub,ab,col,dd,k0,k1,k2,k3,k5,mN,h1,h2,h3,h4⟩:=x.obj I
  exact⟨bm,N,nm,qn,bs,hd,sn,sub,ab,col,dd,k0,k1,k2,k3,k5,h1,h4⟩
 ·obtain⟨bm,N,nm,qn,bs,hd,sn,sub,ab,col,dd,k0,k1,k2,k3,k5,mN,h1,h2,h3,h4⟩:=Zl x I
  exact⟨bm,N,nm,qn,bs,hd,sn,sub,ab,col,dd,k0,k1,k2,k3,k5,h1,h4⟩
def VT (K:PySem.W.Frag) (C C1:Addr):Option Bool:=match K.lookup C with
 |some ⟨_,_,.cls cd,_⟩=>some (cd.mro.contains (.ref C1))
 |_=>none
theorem VU {M:Model}{A:Around}{E:Value→Shared→Prop}{s:Shared}{K:PySem.W.Frag}{C C1 a:Addr}{b:Bool}{Q:Bool→Shared→Prop}(X:K.In s.heap) (c:XAny K C) (c1:XAny K C1) (hs:VT K C C1=some b) (ho:ObC a C s.heap) (hq:Q b s) :
  wpAny M A (excMatches (.ref a) (.ref C1)) Q E s:=by
 obtain⟨bm,N,nm,qn,bs,hd,sn,sub,ab,col,dd,k0,k1,k2,k3,k5,hC,T⟩:=c.obj X
 obtain⟨bm1,N1,nm1,qn1,bs1,hd1,sn1,sub1,ab1,col1,dd1,j0,j1,j2,j3,j5,hC1,T1⟩:=c1.obj X
 have hc:(Value.ref C::bm).contains (.ref C1)=b:=by
  unfold VT at hs
  split at hs
  ·rename_i lk
   have z:=hC.symm.trans (X _ _ lk)
   cases z
   exact Option.some.inj hs
  ·cases hs
 have cB:(Value.ref C1::bm1).contains (.type "BaseException")=true:=by rw[List.contains_cons,T1.hasType (b:=true) rfl,Bool.or_true]
 obtain⟨o,he,ec⟩:=ho
 obtain⟨h,g,d,t,os⟩:=s
 have f:=tc_notTuple
 unfold excMatches
 repeat (first | (with_reducible refine wpAny_loadPart_at he ?_;rw[ec]) | with_reducible refine wpAny_loadPart_at hC1 ?_ | (with_reducible refine wpAny_isSubtype_exc hC1 ?_;rw[cB]) | (with_reducible refine wpAny_isSubtype_exc hC ?_;rw[hc]) | wp_step)
 cases b<;>(repeat wp_step)<;>exact hq
section
variable {X:Cx}{pins:List (Addr×Obj)}{σ:St}{H:Hp}{s:Shared}
theorem Inv.addE {a:Addr}{φ:Heap→Prop}(I:Inv X pins σ H s) (h0:∀ b o,X.s₀.heap.get? b=some o→b∉X.ex→b≠a) (hn:H a=none) (hl:X.env.locals≠a) (hc:∀ x c,X.env.cells.lookup x=some c→c≠a) (hp:∀ p∈X.pn++pins,p.1≠a)
  (ob:ObjOk X.prog X.w (upd H a (.ext φ)) s.heap a (.ext φ)):Inv X pins σ (upd H a (.ext φ)) s:=by
 have ne:∀ {b:Addr}{u:HO},H b=some u→b≠a:=fun e=>ne_of_none e hn
 refine⟨I.ok,I.os,I.bare,⟨I.base.keep,I.base.slot,fun b o q n hx=>?_,I.base.there,fun b xs q=>?_,fun b o u q=>?_,fun b ps q=>?_⟩,I.loc,I.cell,?_,fun x c e=>?_,fun p hq=>?_,fun b u e=>?_,I.len⟩
 ·rw[upd_ne (h0 b o q hx)]
  exact I.base.free b o q n hx
 ·have:=I.base.tups b xs q
  rw[upd_ne (ne this)]
  exact this
 ·have:=I.base.frzs b o u q
  rw[upd_ne (ne this)]
  exact this
 ·obtain⟨more,this⟩:=I.base.tbls b ps q
  exact⟨more,by rw[upd_ne (ne this)];exact this⟩
 ·rw[upd_ne hl]
  exact I.free
 ·rw[upd_ne (hc x c e)]
  exact I.freeC x c e
 ·obtain⟨e,n,n1,n2,d⟩:=I.pin p hq
  exact⟨e,by rw[upd_ne (hp p hq)];exact n,n1,n2,d⟩
 ·by_cases hb:b=a
  ·subst hb
   rw[upd_same] at e
   cases e
   exact ob
  ·rw[upd_ne hb] at e
   exact(I.hok b u e).stay (fun c v _ q=>q) (fun c q=>by rw[upd_ne (ne_of_none q hn)];exact q) fun c xs q=>by rw[upd_ne (ne_of_none q hn)];exact q
end
def ObX (a C:Addr):Option Addr→Heap→Prop
 |none=>ObC a C
 |some D=>fun h=>∃ o,h.get? a=some o∧o.cls=.ref C∧o.dict=some D∧PySem.W.notCls o=true
theorem UL {P:Program}{w:World}{H:Hp}{h:Heap}{a C:Addr}{dd:Option Addr}(o:∃ ob,h.get? a=some ob∧ob.cls=.ref C∧PySem.W.notCls ob=true) (d:∀ D,dd=some D→DictAt a D h):ObjOk P w H h a (.ext (ObX a C dd)):=by
 obtain⟨ob,e,c,nc⟩:=o
 cases dd with
 |none=>exact⟨⟨ob,e,c⟩,⟨ob,e⟩,fun h1 h2 ⟨o,e,c⟩ k=>⟨o,k o e,c⟩⟩
 |some D =>
  obtain⟨o',e',d'⟩:=d D rfl
  rw[e] at e'
  cases e'
  exact⟨⟨ob,e,c,d',nc⟩,⟨ob,e⟩,fun h1 h2 ⟨o,e,c,d,n⟩ k=>⟨o,k o e,c,d,n⟩⟩
structure Fl (X:Cx) (pins:List (Addr×Obj)) (σ:St) (H:Hp) (s:Shared) (h:Heap) (a C:Addr) (dd:Option Addr):Prop where
 ex:∃ H1 s1 B a0,Inv X pins σ H1 s1∧Lies X.prog X.w X.stack H1 s1 H s B∧s.heap.UpToSlots h∧Heap.FlyingW B X.stack a (.ref C) a0 h∧s1.heap.get? a=none
 ha:H a=none
 dk:∀ D,dd=some D→DictAt a D h
section
variable {X:Cx}{pins:List (Addr×Obj)}{σ:St}{H:Hp}{s:Shared}{h:Heap}{a C:Addr}{dd:Option Addr}
theorem Fl.inv (F:Fl X pins σ H s h a C dd):Inv X pins σ H { s with heap:=h }:=by
 obtain⟨H1,s1,B,a0,I,L,up,W,_⟩:=F.ex
 exact Lies.inv (t2:=s.toks) I L W.1 up
theorem Fl.ob (F:Fl X pins σ H s h a C dd):ObC a C h:=by
 obtain⟨H1,s1,B,a0,I,L,up,W,_⟩:=F.ex
 exact W.there
theorem Fl.ob2 (F:Fl X pins σ H s h a C dd):∃ ob,h.get? a=some ob∧ob.cls=.ref C∧PySem.W.notCls ob=true:=by
 obtain⟨H1,s1,B,a0,I,L,up,W,_⟩:=F.ex
 obtain⟨oe,vs,he,hc,hd,_⟩:=W.first
 exact⟨oe,he,hc,by unfold PySem.W.notCls;rw[hd]⟩
theorem Fl.look (F:Fl X pins σ H s h a C dd):Inv X pins σ (upd H a (.ext (ObX a C dd))) { s with heap:=h }:=by
 have J:=F.inv
 obtain⟨H1,s1,B,a0,I,L,up,W,young⟩:=F.ex
 refine J.addE (fun b o e hx z=>?_) F.ha (fun z=>?_) (fun y k e z=>?_) (fun p hp z=>?_) (UL F.ob2 F.dk)
 ·obtain⟨o',e'⟩:=I.base.there b o e hx
  rw[z,young] at e'
  cases e'
 ·obtain⟨m,⟨o,_,_,e,_⟩,_⟩:=I.loc
  rw[z,young] at e
  cases e
 ·obtain⟨w',o,e',_⟩:=I.cell y k e
  rw[z,young] at e'
  cases e'
 ·have:=(I.pin p hp).1
  rw[z,young] at this
  cases this
theorem Fl.lands {M:Model}{A:Around}{E:Value→Shared→Prop}{Q:Unit→Shared→Prop}(F:Fl X pins σ H s h a C dd) (hQ:∀ h',Fl X pins σ H s h' a C dd→Q () { s with heap:=h' }):wpAny M A (setFlight (.ref a) none) Q E { s with heap:=h }:=by
 obtain⟨H1,s1,B,a0,I,L,up,W,young⟩:=F.ex
 exact Vk (s:={ s with heap:=h }) W fun h' W' up' kd=>hQ h' ⟨⟨H1,s1,B,a0,I,L,up.trans up',W',young⟩,F.ha,fun D e=>kd _ _ (F.dk D e)⟩
end
def PH (X:Cx) (hs:List ExceptHandler) (th:Addr→Option Addr→TS):Prop:=∀ (pins:List (Addr×Obj)) (σ:St) (H:Hp) (D:Ends) (s:Shared) (h:Heap) (a C:Addr) (dd:Option Addr),Fl X pins σ H s h a C dd→th C dd D σ H →
 wpAny (model X.prog X.w) X.A (handleBy (.ref a) X.env hs) (SP X pins D) X.xe { s with heap:=h }
def V6 (tb:XK→TS) (th:Addr→Option Addr→TS):TS:=fun D σ H=>tb (fun cls dd H'=>∃ C,cls=.ref C∧th C dd D σ H') D σ H
theorem WW {X:Cx}{body:List Stmt}{h0:ExceptHandler}{hs:List ExceptHandler}{pos:Pos}{tb:XK→TS}{th:Addr→Option Addr→TS}(hst:X.stack=X.env::X.outer) (hfr:X.env.frame=some X.env.locals) (hb:PX X body tb) (hh:PH X (h0::hs) th) :
  PS X (.Try body (h0::hs) [] [] pos) (V6 tb th):=by
 intro pins s σ H D I h
 refine wpAny_Try_except (wpAny_mono (hb pins s σ H D _ I h) (fun fl s1 q=>?_) (fun e s1 hx=>?_))
 ·cases fl with
  |next=>exact wpAny_execs_nil q
  |ret v=>exact q
  |brk=>exact q
  |cont=>exact q
 ·obtain⟨H1,s2,I1,a,cls,a0,H',B,rfl,L,F,dd,hdd,C,rfl,hts⟩:=hx
  obtain⟨sh,sg,sd,stk,sos⟩:=s1
  -- the exception is younger than the call
  have young:s2.heap.get? a=none:=by
   cases e:s2.heap.get? a with
   |none=>rfl
   |some o =>
    obtain⟨_,f2,f3,oe,vs,_,_,_,he,_,hd,_⟩:=id F
    by_cases hf:a∈frs X.stack
    ·obtain⟨_,o',ho',hnf⟩:=f3.mem hf
     have z:=ho'.symm.trans he
     cases z
     exact absurd hd (hnf vs)
    ·obtain⟨o',e'⟩:=L.c3 a o e hf
     rw[f2] at e'
     cases e'
  have Ha:H' a=none:=by
   cases e:H' a with
   |none=>rfl
   |some o =>
    obtain⟨u,hu⟩:=L.hok.thr e
    have:=L.c2 a u (by rw[e];intro z;cases z) hu
    rw[F.2.1] at this
    cases this
  have F':=F
  rw[hst] at F'
  refine za5 (s:=⟨sh,sg,sd,stk,sos⟩) (outer:=X.outer) (L:=X.env.locals) (by rw[I.ok.frames,hst]) hfr F' fun h4 Hd4 up4 kd4=>za9 (s:=⟨h4,sg,sd,stk,sos⟩) Hd4 fun h5 F5 up5 kd5=>?_
  refine hh pins σ H' D ⟨sh,sg,sd,stk,sos⟩ h5 a C dd ⟨⟨H1,s2,B,a0,I1,L,up4.trans up5,?_,young⟩,Ha,fun D e=>kd5 _ _ (kd4 _ _ (hdd D e))⟩ hts
  rw[hst]
  exact F5
section
variable {P:Program}{w:World}{K:PySem.W.Frag}{mg:Str→Option Value}{base:Heap}{N:List Str}{qual:Str}{scope:Scope}{f:Addr}{cd:Value}{A:Around}{outer:List Env}{s0:Shared}{H0:Hp}{E:XK}
 {k:Nat}{f' C:Addr}{fd:FuncData}{ps:List Str}{sp:Sp}{x:Str}{p pos:Pos}{e:Expr}{es:List Expr}{t:TA}
theorem calm {k:Nat}{f:Addr}{fd:FuncData}{ps:List Str}{sp:Sp}(F:FnOk P w K mg base (CX1 P w) k f fd ps sp):FnOk P w K mg base CX0 k f fd ps (fun vs H Q _=>sp vs H Q E0) :=
 ⟨fun vs H Q E h=>F.len vs H Q E0 h,fun A outer s H args us vs Q E hr e0 hb r h=>codeAny_mono (F.run A outer s H args us vs Q E0 hr e0 hb r h) fun r s' hq=>by
  cases r with
  |error e =>
   obtain⟨_,_,_,_,_,_,_,_,_,_,z⟩:=hq
   exact False.elim z
  |ok fl=>cases fl<;>exact hq⟩
end
end L2
namespace L2
open PySem PySem.W PySem.Spec PySem.Calls PyProof.Rows
theorem ObX.ob {a C:Addr}{dd:Option Addr}{h:Heap}(x:ObX a C dd h):ObC a C h:=by
 cases dd with
 |none=>exact x
 |some D =>
  obtain⟨o,e,c,_⟩:=x
  exact⟨o,e,c⟩
section
variable {X:Cx}
def zdm (K:Frag):List V→Hp→VK→Prop:=fun xs H Q=>∃ (x C:Addr) (dd:Option Addr) (c:V) (cv:Value) (b:Bool),xs=[.ref x,c]∧Vw c=some cv∧H x=some (.ext (ObX x C dd))∧XIs K C∧kitOne K (.ref C) cv=some b∧Q (.bl b) H
theorem zbp {K:Frag}(hK:X.K=K):xj X (.builtin "isinstance") (zdm K):=by
 subst hK
 intro pins s σ H xs us Q I r h
 obtain⟨x,C,dd,c,cv,b,rfl,hc,hx,xi,e,q⟩:=h
 obtain⟨u,v,rfl,r1,r2⟩:=r.two
 obtain rfl:=wc hc r2
 cases (show u=Value.ref x from r1)
 obtain⟨p,_,_⟩:=(show ObjOk X.prog X.w H s.heap x (.ext (ObX x C dd)) from I.hok x _ hx)
 exact kia_one (va xi) I.kIn p.ob e (fun z=>nomatch z) fun tk=>⟨.bl b,H,I.tok tk,rfl,q⟩
theorem vI:∀ {cs:List V}{cvs us:List Value},cs.map Vw=cvs.map some→Vals cs us→us=cvs
 |[],[],_,_,r=>by cases r;rfl
 |c::cs,v::cvs,_,h,r=>by
  cases r with
  |cons r1 r2 =>
   have h:=List.cons.inj h
   rw[wc h.1 r1,vI h.2 r2]
 |[],_::_,_,h,_=>by cases h
 |_::_,[],_,h,_=>by cases h
def zdl (K:Frag):List V→Hp→VK→Prop:=fun xs H Q=>∃ (x C p:Addr) (dd:Option Addr) (cs:List V) (cvs:List Value) (b:Bool),xs=[.ref x,.ref p]∧H x=some (.ext (ObX x C dd))∧H p=some (.tup cs)∧cs.map Vw=cvs.map some∧XIs K C∧kitAny K (.ref C) cvs=some b∧Q (.bl b) H
theorem Yo {K:Frag}(hK:X.K=K):xj X (.builtin "isinstance") (zdl K):=by
 subst hK
 intro pins s σ H xs us Q I r h
 obtain⟨x,C,p,dd,cs,cvs,b,rfl,hx,hp,hc,xi,e,q⟩:=h
 obtain⟨u,v,rfl,r1,r2⟩:=r.two
 cases (show u=Value.ref x from r1)
 cases (show v=Value.ref p from r2)
 obtain⟨z,_,_⟩:=(show ObjOk X.prog X.w H s.heap x (.ext (ObX x C dd)) from I.hok x _ hx)
 obtain⟨_,its,ri,o,ho,hcl,n,hd⟩:=(show ObjOk X.prog X.w H s.heap p (.tup cs) from I.hok p _ hp)
 obtain rfl:=vI hc ri
 obtain⟨oc,od,odt,osl⟩:=o
 cases hcl
 cases hd
 exact kia_tup (va xi) I.kIn z.ob ho e (fun z=>nomatch z) fun tk=>⟨.bl b,H,I.tok tk,rfl,q⟩
end
end L2
namespace L2
open PySem PySem.Spec PyProof.Rows
theorem entry_dul:entryFor table "dict.update.loop" = some Builtin.«dict.update.loop»:=entryFor_of_tree (by kernel_rfl)
theorem plain_dul:plainId "dict.update.loop" = true:=by decide +kernel
theorem Z0:typeLookup (.type "list") "keys" = pure none:=am_miss_of_fast (by kernel_rfl)
section
variable {P:Program}{w:World}{A:Around}{E:Value→Shared→Prop}{s:Shared}
theorem Vf {a:Addr}{xs:Array Value}{Q:Option Value→Shared→Prop}(hl:PlainL s.heap a xs) (hA:A.handled=none)
  (q:∀ h' tk,(∀ b o,s.heap.get? b=some o→h'.get? b=some o)→Q none { s with heap:=h',toks:=tk }):wpAny (model P w) A (getAttr? (.ref a) "keys") Q E s:=by
 obtain⟨o,n,hx,hc,hd,hs⟩:=hl
 obtain⟨c,dct,dat,sl⟩:=o
 dsimp only at hc hd hs
 subst hc hd hs
 obtain⟨hp,g,dr,tk0,os⟩:=s
 have hT:∀ tk',(⟨hp,g,dr,tk',os⟩:Shared).TypeIs (.ref a) "list" := fun _=>⟨_,hx,rfl⟩
 have f1:=sub_AttributeError
 have f3:=F.slot_list_getattribute.lookup
 have f4:=F.slot_list_getattribute.bind (.ref a)
 have f5:=am_list_getattr_none
 unfold getAttr? getAttrBy? getAttrBy
 repeat (any_goals (first | assumption | exact hT _ | ((with_reducible show wpAny _ _ (call (Value.builtin "list.__getattribute__") _ _) _ _ _);refine call_meets F.slot_list_getattribute (hT _) am_entry_list_getattribute (F.args_list_getattribute_2 _ _) (meets_getattribute_miss_list a xs n sl "keys" _ Z0 (by decide +kernel) (by decide +kernel)) ⟨hx,hA,fun h1 tk1 e1 ne=>?_⟩) | wp_step))
 obtain⟨t',u',he⟩:=ne.there
 show wpAny _ _ (getattributeRaised _ _ _ _ _ _ _) _ _ _
 unfold getattributeRaised hookOrError attributeErrorLeaves
 repeat (any_goals (first | assumption | wp_step))
 exact q _ _ ne.keeps
variable {K:Type} [DecidableEq K]{knd:KeyKind P w K}
theorem zbj {d I:Addr}{fp wr:List Addr}{n:Nat}{Is:Nat→Value→Prop}{St:Nat→Heap→Prop}{R:Except Value Flow→Shared→Prop}(W:Walks P w A.in1 I fp wr n Is St) (nf:d∉fp) (kvs:List (K×Value)) (hk:kvs.length=n) (hz:n≤1000)
  (h0:Heap) (hI:∀ i v,Is i v→∃ q k,v=.ref q∧(∃ o x,h0.get? q=some o∧o.cls=.type "tuple" ∧ o.data=.seq #[k,(kvs[i]?.map (·.2)).getD .none] x)∧∃ kk,(kvs[i]?.map (·.1))=some kk∧knd.is kk k=true)
  (hq:∀ i v q,Is i v→v=.ref q→q∉wr∧q≠d) :
  ∀ (r j:Nat) (t:Shared) (tk0:Tok),j+r=n→St j t.heap→t.heap.DictOf knd d (merged [] (kvs.take j))→(∀ b o,b∉wr→b≠d→h0.get? b=some o→t.heap.get? b=some o) →
   (∀ h' tk,h'.DictOf knd d (merged [] kvs)→(∀ b o,b∉wr→b≠d→t.heap.get? b=some o→h'.get? b=some o)→R (.ok (.ret .none)) { t with heap:=h',toks:=tk }) →
   codeAny (model P w) A (.builtin "dict.update.loop" ⟨[.ref d,.ref I,.int (j:Int) tk0,.none],[]⟩) R t:=by
 have nw:d∉wr:=fun z=>nf (W.sub _ z)
 intro r
 induction r with
 |zero =>
  intro j t tk0 hj st hd keep fin
  have ej:j=n:=by omega
  subst ej
  refine codeAny_builtin entry_dul (by
   rw[Around.under_plainId plain_dul _]
   show wpAny _ A.in1 (pyNext (.ref I) >>= _) _ _ t
   refine wpAny_bind (W.done t _ _ st fun h1 tk kk=>?_)
   show wpAny _ A.in1 (Builtin.Dict.addKeywords d [] >>= _) _ _ _
   rw[← hk,List.take_length] at hd
   obtain⟨o,ho,hdo⟩:=Heap.dictOf_iff.mp hd
   exact wpAny_bind (wpAny_pure (wpAny_pure (fin h1 tk (Heap.dictOf_iff.mpr ⟨o,kk d o nw ho,hdo⟩) fun b o n1 _ e=>kk b o n1 e))))
 |succ r ih =>
  intro j t tk0 hj st hd keep fin
  refine codeAny_builtin entry_dul (by
   rw[Around.under_plainId plain_dul _]
   show wpAny _ A.in1 (pyNext (.ref I) >>= _) _ _ t
   refine wpAny_bind (W.item j t _ _ (by omega) st fun v h1 tk iv st1 kk=>?_)
   obtain⟨q,k,rfl,⟨o,x,hq0,hc,hs⟩,kx,hkx,hki⟩:=hI j v iv
   obtain⟨nq1,nq2⟩:=hq j _ q iv rfl
   have hq1:=kk q o nq1 (keep q o nq1 nq2 hq0)
   obtain⟨od,hod,hdo⟩:=Heap.dictOf_iff.mp hd
   have hd1:h1.DictOf knd d (merged [] (kvs.take j)):=Heap.dictOf_iff.mpr ⟨od,kk d od nw hod,hdo⟩
   obtain⟨⟨k2,v2⟩,hkv⟩:∃ kv,kvs[j]?=some kv:=⟨kvs[j]'(by omega),by simp[show j<kvs.length by omega]⟩
   rw[hkv] at hs hkx
   cases hkx
   show wpAny _ A.in1 (holding [Value.ref q] (tryCatch (Builtin.Dict.pairItems (Value.ref q)) _ >>= _) >>= _) _ _ _
   refine wpAny_bind (wpAny_holding (wpAny_bind (wpAny_tryCatch ?_)))
   unfold Builtin.Dict.pairItems
   refine wpAny_bind (wpAny_typeOf (T := "tuple") ⟨o,hq1,hc⟩ ?_)
   rw[if_pos (by decide)]
   refine wpAny_bind (wpAny_seqItems hq1 hs (wpAny_pure ?_))
   show wpAny _ A.in1 (holding [k,v2] (dictSet d k v2)) _ _ _
   refine wpAny_holding (wpAny_dictSet_pairs hki hd1 (fun h2 hd2 sb=>?_) ?_)
   ·show wpAny _ A.in1 (pure _) _ _ _
    have hm:=merged_take_succ ([]:List (K×Value)) kvs j (k2,v2) hkv
    refine wpAny_pure ⟨plainId_quiet plain_dul _,ih (j+1) _ _ (by omega) (W.frame _ _ _ st1 fun b hb o e=>?_) (by rw[hm];exact hd2) (fun b o n1 n2 e=>?_) fun h3 tk3 hd3 kk3=>fin h3 tk3 hd3 fun b o n1 n2 e=>kk3 b o n1 n2 ?_⟩
    ·exact(sb.2 b fun z=>nf (z ▸ hb)).trans e
    ·exact(sb.2 b n2).trans (kk b o n1 (keep b o n1 n2 e))
    ·exact(sb.2 b n2).trans (kk b o n1 e)
   ·have:=merged_length_le ([]:List (K×Value)) (kvs.take j)
    rw[List.length_take] at this
    simp only[List.length_nil] at this
    exact Nat.le_trans (show _≤1000 by omega) (by decide))
end
section
variable {X:Cx}
theorem um:∀ {xs:List V}{us:List Value}{i:Nat}{u:Value},Vals xs us→us[i]?=some u→∃ x,xs[i]?=some x∧RelV x u
 |_,_,0,_,.cons r _,h=>by cases h;exact⟨_,rfl,r⟩
 |_,_,i+1,_,.cons _ t,h=>by
  obtain⟨x,e,r⟩:=um t (by simpa using h)
  exact⟨x,by simpa using e,r⟩
theorem uA {pins:List (Addr×Obj)}{σ:St}{H:Hp}{s:Shared}(I:Inv X pins σ H s):∀ (qs:List Addr) (kvs:List (Key×V)),qs.length=kvs.length→(∀ (i:Nat) (q:Addr) (kv:Key×V),qs[i]?=some q→kvs[i]?=some kv→H q=some (.tup [kV kv.1,kv.2])) →
  ∃ vs:List (Key×Value),KV kvs vs∧∀ (i:Nat) (q:Addr),qs[i]?=some q→∃ o x k kv,s.heap.get? q=some o∧o.cls=.type "tuple" ∧ o.data=.seq #[k,kv.2] x∧vs[i]?=some kv∧(zB X.prog X.w).is kv.1 k=true
 |[],[],_,_=>⟨[],.nil,fun i q h=>by simp at h⟩
 |q::qs,kv::kvs,hl,h=>by
  obtain⟨vs,r,hv⟩:=uA I qs kvs (by simpa using hl) fun i q' kv' h1 h2=>h (i+1) q' kv' (by simpa using h1) (by simpa using h2)
  have h0:=h 0 q kv rfl rfl
  obtain⟨its,rv,it,_⟩:=I.tuple (SqT.of h0)
  obtain⟨uk,ux,rfl,rk,rx⟩:∃ uk ux,its=[uk,ux]∧RelV (kV kv.1) uk∧RelV kv.2 ux:=by
   cases rv with | cons r1 rv =>
   cases rv with | cons r2 rv =>
   cases rv
   exact⟨_,_,rfl,r1,r2⟩
  obtain⟨o,e,oc,n,od⟩:=it
  refine⟨(kv.1,ux)::vs,.cons ⟨rfl,rx⟩ r,fun i q' hi=>?_⟩
  cases i with
  |zero =>
   cases hi
   exact⟨o,n,uk,(kv.1,ux),e,oc,od,rfl,wF rk⟩
  |succ i=>exact hv i q' (by simpa using hi)
def Ux (K:PySem.W.Frag):List V→Hp→VK→Prop:=fun xs H Q=>∃ (a:Addr) (qs:List Addr) (kvs:List (Key×V)),xs=[V.ref a]∧H a=some (.lst (qs.map V.ref))∧qs.length=kvs.length∧kvs.length≤1000∧(∀ (i:Nat) (q:Addr) (kv:Key×V),qs[i]?=some q→kvs[i]?=some kv→H q=some (.tup [kV kv.1,kv.2])) ∧
 ∀ p,H p=none→Q (.ref p) (upd H p (.dK (mergeK [] kvs)))
theorem wS (hc:X.calm=true):xj X (.type "dict") (Ux X.K):=by
 intro pins s σ H xs us Q I r h
 obtain⟨a,qs,kvs,rfl,ha,hl,hz,hq,k⟩:=h
 obtain⟨u,rfl,ru⟩:=r.one
 cases ru
 obtain⟨its,rv,pl,_⟩:=I.list (SqL.of ha)
 have hA:X.A.handled=none:=I.ok.hd hc
 refine callType_codes (Q₁:=fun obj s₁=>obj=.ref s.heap.objs.size∧s₁={ s with heap:=s.heap.push { cls:=.type "dict",data:=.dict #[] } }) F.kt_called_dict (F.kt_typeCall_dict_1 _) F.entry_dict_init (kt_code_dict_new _ ⟨rfl,rfl⟩) ?_
 rintro obj s₁ ⟨rfl,rfl⟩
 have hnew:(s.heap.push { cls:=.type "dict",data:=.dict #[] }).DictOf (zB X.prog X.w) s.heap.objs.size []:=Heap.DictOf.new s.heap
 have lt:a<s.heap.objs.size:=by
  obtain⟨_,e,_⟩:=pl.isList
  exact Heap.lt_size e
 have pl1:PlainL (s.heap.push { cls:=.type "dict",data:=.dict #[] }) a its.toArray:=by
  obtain⟨o,n,e,r⟩:=pl
  exact⟨o,n,Heap.get?_push_of_some _ e,r⟩
 refine⟨hnew.typeIs,F.args_dict_init_2 _ _,?_⟩
 unfold Builtin.«dict.__init__»
 refine wpAny_bind ?_
 unfold Builtin.Dict.selfAndRest
 refine wpAny_bind (wpAny_notOrdered_dict hnew.typeIs ?_)
 show wpAny _ _ (pure (s.heap.objs.size,[Value.ref a])) _ _ _
 refine wpAny_pure ?_
 show wpAny _ _ (Builtin.Dict.updateFrom "dict.__init__" s.heap.objs.size (.ref a) [] .none) _ _ _
 unfold Builtin.Dict.updateFrom
 obtain⟨o,n,e,oc,od,os⟩:=pl1
 refine wpAny_bind (wpAny_typeOf (T := "list") ⟨o,e,oc⟩ ?_)
 rw[if_pos (by decide)]
 refine wpAny_bind (Vf ⟨o,n,e,oc,od,os⟩ hA fun h1 tk1 kk1=>?_)
 obtain⟨vs,rel,hvs⟩:=uA I qs kvs hl hq
 have hl1:h1.IsList a its.toArray:=⟨o,kk1 _ _ e,oc,n,os⟩
 show wpAny _ _ (rule _ >>= _) _ _ _
 refine wpAny_bind (wpAny_rule (wpAny_bind (wpAny_pyIter_list hl1 ?_)))
 have nd0:(s.heap.push { cls:=.type "dict",data:=.dict #[] }).get? s.heap.objs.size=some { cls:=.type "dict",data:=.dict #[] }:=Heap.get?_push_size _ rfl
 have nd1:=kk1 _ _ nd0
 have ltd:s.heap.objs.size<h1.objs.size:=Heap.lt_size nd1
 have lta:a<h1.objs.size:=Nat.lt_trans lt ltd
 have len:its.toArray.size=vs.length:=by
  have e1:=rv.length
  rw[List.length_map] at e1
  have e2:=rel.length
  simp
  omega
 have lvs:vs.length=kvs.length:=(rel.length).symm
 have W:=Walks.list (prog:=X.prog) (w:=X.w) (A:=X.A.in1.in1) hA h1.objs.size a (Nat.ne_of_lt lta) its.toArray
 have st:((h1.push { cls:=.type "list_iterator",data:=.fields #[.ref a,.int 0 0] }).IsListIter h1.objs.size a 0∧(h1.push { cls:=.type "list_iterator",data:=.fields #[.ref a,.int 0 0] }).IsList a its.toArray):=⟨⟨_,Heap.get?_push_size _ rfl,rfl,rfl⟩,hl1.push _⟩
 have nf:s.heap.objs.size∉[h1.objs.size,a]:=by
  intro z
  rcases List.mem_cons.mp z with z | z
  ·exact Nat.lt_irrefl _ (z ▸ ltd)
  ·exact Nat.lt_irrefl _ ((List.mem_singleton.mp z) ▸ lt)
 have item:∀ (i:Nat) (v:Value),its.toArray[i]?=some v→∃ q:Addr,v=Value.ref q∧qs[i]?=some q:=fun i v hv=>by
  have hv:its[i]?=some v:=by simpa using hv
  obtain⟨x,hx,rx⟩:=um rv hv
  rw[List.getElem?_map] at hx
  obtain⟨q,hq,rfl⟩:=Option.map_eq_some_iff.mp hx
  exact⟨q,rx,hq⟩
 have hd0:(h1.push { cls:=.type "list_iterator",data:=.fields #[.ref a,.int 0 0] }).DictOf (zB X.prog X.w) s.heap.objs.size []:=by
  obtain⟨od,hod,hdo⟩:=Heap.dictOf_iff.mp hnew
  exact Heap.dictOf_iff.mpr ⟨od,Heap.get?_push_of_some _ (kk1 _ _ hod),hdo⟩
 refine wpAny_pure ⟨plainId_quiet plain_dul _,zbj (A:=X.A.in1) (knd:=zB X.prog X.w) W nf vs len.symm (by omega) s.heap ?_ ?_ its.toArray.size 0 _ 0 (by omega) st hd0 ?_ ?_⟩
 ·intro i v hv
  obtain⟨q,rfl,hq'⟩:=item i v hv
  obtain⟨o,x,k',kv,e1,e2,e3,e4,e5⟩:=hvs i q hq'
  exact⟨q,k',rfl,⟨o,x,e1,e2,by rw[e4];exact e3⟩,kv.1,by rw[e4];rfl,e5⟩
 ·intro i v q hv ev
  obtain⟨q',rfl,hq'⟩:=item i v hv
  cases ev
  obtain⟨o,x,k',kv,e1,_⟩:=hvs i _ hq'
  have l1:=Heap.lt_size e1
  exact⟨fun z=>by rw[List.mem_singleton.mp z] at l1;exact Nat.lt_irrefl _ (Nat.lt_trans l1 ltd),fun z=>by rw[z] at l1;exact Nat.lt_irrefl _ l1⟩
 ·intro b o n1 n2 e
  exact Heap.get?_push_of_some _ (kk1 _ _ (Heap.get?_push_of_some _ e))
 ·intro h' tk hd' kk'
  refine⟨rfl,?_⟩
  refine⟨.ref s.heap.objs.size,_,I.laid (a:=s.heap.objs.size) (o:=.dK (mergeK [] kvs)) (t':=tk) (fun b o e=>?_) (Nat.le_refl _) (vG ?_ (beq_eq_false_iff_ne.mpr (Ne.symm (Nat.ne_of_lt I.big))) (KV.merge rel .nil) hd'),rfl,k _ (I.hok.fresh (Nat.le_refl _))⟩
  ·have l1:=Heap.lt_size e
   refine kk' b o (fun z=>?_) (fun z=>?_) (Heap.get?_push_of_some _ (kk1 _ _ (Heap.get?_push_of_some _ e)))
   ·rw[List.mem_singleton.mp z] at l1
    exact Nat.lt_irrefl _ (Nat.lt_trans l1 ltd)
   ·rw[z] at l1
    exact Nat.lt_irrefl _ l1
  ·have e1:=(KV.merge rel (.nil:KV ([]:List (Key×V)) [])).length
   have e2:=merged_length_le ([]:List (Key×Value)) vs
   simp only[List.length_nil] at e2
   exact Nat.le_trans (show _≤1000 by omega) (by decide)
end
def zct (td ty:TE):TE:=fun σ H Q=>td σ H fun x H1=>∃ a,x=.ref a∧IsD H1 a∧ty σ H1 fun y H2=>∃ b kvs more,y=.ref b∧a≠b∧H2 a=some (.dK kvs)∧H2 b=some (.dK more)∧kvs.length+more.length≤1000∧Q .non (upd H2 a (.dK (mergeK kvs more)))
section
variable {X:Cx}{o e:Expr}{apos cpos:Pos}{td ty:TE}
theorem vn (ho:Bx (PE X o td)) (he:Bx (PE X e ty)) (m:M1 X o "update" apos e cpos):Bx (PE X (.Call (.Attribute o "update" apos) [e] [] cpos) (zct td ty)):=by
 have ho:=ho.of
 have he:=he.of
 refine⟨?_⟩
 intro pins s σ H Q I h
 refine wpAny_Call_method m.base m.few m.line PySem.F.plainAttrs_dict PySem.F.slot_dict_update PySem.F.type_dict_update (thn (ho pins s σ H _ I h) fun u s1 hq0=>?_)
 obtain⟨x,H1,I1,rx,a,ex,d,q1⟩:=hq0
 subst ex
 obtain rfl:u=Value.ref a:=rx
 obtain⟨t1,t2,_⟩:=xQ I1 d
 refine⟨t1,t2,?_⟩
 rw[m.trees]
 refine Calls.callWith_builtin rfl (Calls.evalArgs_plain (Calls.spliced_cons (thn (he pins s1 σ H1 _ I1 q1) fun iv s2 ⟨y,H2,I2,ry,b,kvs,more,ey,ne,ha,hb,hz,q2⟩=>Calls.spliced_nil ?_)))
 subst ey
 obtain rfl:iv=Value.ref b:=ry
 obtain⟨z1,hd1,vs1,rel1,dd1⟩:=ub I2.hok ha
 obtain⟨z2,hd2,vs2,rel2,dd2⟩:=ub I2.hok hb
 have l1:=rel1.length
 have l2:=rel2.length
 have rm:=KV.merge rel2 rel1
 have lm:=merged_length_le vs1 vs2
 have lm2:=rm.length
 refine call_meetsIn PySem.F.slot_dict_update dd1.typeIs PySem.F.entry_dict_update (PySem.F.args_dict_update_2 _ _) (meets_dict_update (zB X.prog X.w) a b ne hd2) ⟨vs1,vs2,dd1,dd2,Nat.le_trans (show _≤1000 by omega) (by decide),fun h' dd' _ hs=>?_⟩
 have he':∃ q,h'.get? a=some q:=let ⟨q,_,_,hq,_⟩:=dd';⟨q,hq⟩
 exact⟨.non,_,xr (t':=s2.toks) I2 (by rw[ha];exact True.intro) hs he' (vG (Nat.le_trans (show _≤1000 by omega) (by decide)) hd1 rm dd'),rfl,q2⟩
end
section
variable {X:Cx}{pins:List (Addr×Obj)}{σ:St}{H G:Hp}{s:Shared}{d:Addr}{od:Obj}{kvs:List (Key×V)}
theorem Inv.froz (I:Inv X pins σ H s) (e:H d=some (.dK kvs)) (q0:s.heap.get? d=some od):Inv X pins σ (upd H d (.frz od (.dK kvs))) s:=by
 have ne:∀ {b:Addr}{o:HO},H b=some o→(∀ kvs,o≠.dK kvs)→upd H d (.frz od (.dK kvs)) b=some o:=fun {b o} q n=>by
  rw[upd_ne (fun z=>by rw[z,e] at q;injection q with q;exact n _ q.symm)];exact q
 have no:∀ {b:Addr},H b=none→upd H d (.frz od (.dK kvs)) b=none:=fun {b} q=>by
  rw[upd_ne (fun z=>by rw[z,e] at q;cases q)];exact q
 refine⟨I.ok,I.os,I.bare,⟨I.base.keep,I.base.slot,fun b o q n x=>no (I.base.free b o q n x),I.base.there,fun b xs q=>ne (I.base.tups b xs q) (fun _ z=>by cases z),fun b o u q=>ne (I.base.frzs b o u q) (fun _ z=>by cases z),fun b ps q=>?_⟩,I.loc,I.cell,no I.free,fun x c q=>no (I.freeC x c q),fun p hp=>?_,fun b o q=>?_,I.len⟩
 ·obtain⟨m,q⟩:=I.base.tbls b ps q
  exact⟨m,ne q (fun _ z=>by cases z)⟩
 ·obtain⟨p1,p2,p3⟩:=I.pin p hp
  exact⟨p1,no p2,p3⟩
 ·have st:∀ {b:Addr}{o:HO},H b=some o→ObjOk X.prog X.w (upd H d (.frz od (.dK kvs))) s.heap b o:=fun {b o} q=>(I.hok b o q).stay (fun c u _ q=>q) (fun c q=>ne q (fun _ z=>by cases z)) fun c xs q=>ne q (fun _ z=>by cases z)
  by_cases c:b=d
  ·subst c
   rw[upd_same] at q
   cases q
   exact⟨q0,st e⟩
  ·rw[upd_ne c] at q
   exact st q
theorem Inv.thaw (I:Inv X pins σ G s) (S:∀ o u,X.H₀ d≠some (.frz o u)) (g:G d=some (.frz od (.dK kvs))):Inv X pins σ (upd G d (.dK kvs)) s:=by
 have ne:∀ {b:Addr}{o:HO},G b=some o→(∀ ob u,o≠.frz ob u)→upd G d (.dK kvs) b=some o:=fun {b o} q n=>by
  rw[upd_ne (fun z=>by rw[z,g] at q;injection q with q;exact n _ _ q.symm)];exact q
 have no:∀ {b:Addr},G b=none→upd G d (.dK kvs) b=none:=fun {b} q=>by
  rw[upd_ne (fun z=>by rw[z,g] at q;cases q)];exact q
 refine⟨I.ok,I.os,I.bare,⟨I.base.keep,I.base.slot,fun b o q n x=>no (I.base.free b o q n x),I.base.there,fun b xs q=>ne (I.base.tups b xs q) (fun _ _ z=>by cases z),fun b o u q=>?_,fun b ps q=>?_⟩,I.loc,I.cell,no I.free,fun x c q=>no (I.freeC x c q),fun p hp=>?_,fun b o q=>?_,I.len⟩
 ·rw[upd_ne (fun(z:b=d)=>S o u (by rw[← z];exact q))]
  exact I.base.frzs b o u q
 ·obtain⟨m,q⟩:=I.base.tbls b ps q
  exact⟨m,ne q (fun _ _ z=>by cases z)⟩
 ·obtain⟨p1,p2,p3⟩:=I.pin p hp
  exact⟨p1,no p2,p3⟩
 ·have st:∀ {b:Addr}{o:HO},ObjOk X.prog X.w G s.heap b o→ObjOk X.prog X.w (upd G d (.dK kvs)) s.heap b o:=fun {b o} q=>q.stay (fun c u _ q=>q) (fun c q=>ne q (fun _ _ z=>by cases z)) fun c xs q=>ne q (fun _ _ z=>by cases z)
  by_cases c:b=d
  ·subst c
   rw[upd_same] at q
   cases q
   exact st (I.hok b _ g).2
  ·rw[upd_ne c] at q
   exact st (I.hok b o q)
theorem KV.getAt:∀ {kvs:List (Key×V)}{vs:List (Key×Value)},KV kvs vs→∀ {i:Nat}{p:Key×V},kvs[i]?=some p→∃ u,vs[i]?=some (p.1,u)∧RelV p.2 u
 |_,_,.nil,i,p,h=>by cases h
 |_,_,.cons (b:=q) r t,0,p,h=>by
  cases h
  exact⟨q.2,by rw[r.1];rfl,r.2⟩
 |_,_,.cons r t,i+1,p,h=>KV.getAt t (i:=i) h
end
section
variable {X:Cx}
def zmD (K:PySem.W.Frag) (A:Around):R2:=fun x y H Q=>∃ (a b:Addr) (xs ys:List V),x=.ref a∧y=.ref b∧SqL K H a xs∧SqL K H b ys∧xs.length≠ys.length∧A.units<cLine∧Q (.bl false) H
theorem UB:OpR X (compareOp .Eq) (zmD X.K X.A):=by
 intro pins s σ H x y v u Q I rx ry h
 obtain⟨a,b,xs,ys,rfl,rfl,h1,h2,hl,hu,q⟩:=h
 cases rx;cases ry
 obtain⟨i1,r1,p1,_⟩:=I.list h1
 obtain⟨i2,r2,p2,_⟩:=I.list h2
 exact SeqAt.RcAt.lists_lengths p1.isList p2.isList (by simp;rw[← r1.length,← r2.length];exact hl) hu _ _ _ _ ⟨.bl _,H,I,rfl,q⟩
def EqP (X:Cx) (H:Hp) (x y:V) (b:Bool) (n:Nat):Prop:=∀ (pins:List (Addr×Obj)) (σ:St) (s:Shared),Inv X pins σ H s→∀ (A:Around) (u v:Value),A.units+n<cLine→RelV x u→RelV y v→SeqAt.EqAt A s u v b
theorem EqP.of {H:Hp}{x y:V}{b:Bool}{n:Nat}(h:EqD X.K H x y b n):EqP X H x y b n:=fun pins σ s I A u v hu r1 r2=>h.at I A u v hu r1 r2
theorem EqP.same {H:Hp}{a:Addr}{n:Nat}:EqP X H (.ref a) (.ref a) true n:=fun pins σ s I A u v hu rx ry=>by
 cases rx;cases ry
 exact SeqAt.EqAt.same _
theorem zbf {pins:List (Addr×Obj)}{σ:St}{H:Hp}{s:Shared}{A:Around}{xs ys:List V}{i1 i2:List Value}{e:Nat→Bool}{n:Nat}(I:Inv X pins σ H s) (r1:Vals xs i1) (r2:Vals ys i2) (hu:A.units+n+2<cLine)
  (h:∀ (j:Nat) x y,xs[j]?=some x→ys[j]?=some y→EqP X H x y (e j) n):∀ (j:Nat) (h1:j<i1.toArray.size) (h2:j<i2.toArray.size),SeqAt.EqAt A.in1 s i1.toArray[j] i2.toArray[j] (e j):=fun j h1 h2=>by
 have g1:j<xs.length:=by rw[r1.length];simpa using h1
 have g2:j<ys.length:=by rw[r2.length];simpa using h2
 obtain⟨u1,e1,q1⟩:=r1.get (i:=j) (x:=xs[j]) (by simp[g1])
 obtain⟨u2,e2,q2⟩:=r2.get (i:=j) (x:=ys[j]) (by simp[g2])
 have f1:i1.toArray[j]=u1:=by
  obtain⟨_,z⟩:=List.getElem?_eq_some_iff.mp e1
  simpa using z
 have f2:i2.toArray[j]=u2:=by
  obtain⟨_,z⟩:=List.getElem?_eq_some_iff.mp e2
  simpa using z
 rw[f1,f2]
 exact(h j _ _ (by simp[g1]) (by simp[g2])) _ _ _ I A.in1 u1 u2 (by rw[xa];omega) q1 q2
theorem EqP.lst {H:Hp}{a b:Addr}{xs ys:List V}{n:Nat}(ha:SqL X.K H a xs) (hb:SqL X.K H b ys) (hl:xs.length=ys.length) (h:∀ (j:Nat) x y,xs[j]?=some x→ys[j]?=some y→EqP X H x y true n):EqP X H (.ref a) (.ref b) true (n+2):=fun pins σ s I A u v hu rx ry=>by
 by_cases hne:a=b
 ·subst hne;exact EqP.same _ _ _ I A u v hu rx ry
 ·cases rx;cases ry
  obtain⟨i1,r1,p1,_⟩:=I.list ha
  obtain⟨i2,r2,p2,_⟩:=I.list hb
  have l1:=r1.length
  have l2:=r2.length
  refine SeqAt.EqAt.of_refs hne ?_
  have q:=SeqAt.RcAt.lists (A:=A) (s:=s) (e:=fun _=>true) p1.isList p2.isList (by simp;omega) (by omega) (zbf I r1 r2 (by omega) h)
  have e:((List.range i1.toArray.size).all fun _=>true)=true:=by simp
  rw[e] at q
  exact q
end
theorem zM {X:Cx}{body:List Stmt}{q:TS→Prop}{t:TS}(h:Bx (PSs X body t)) (k:q t):∃ t,PSs X body t∧q t:=⟨t,h.of,k⟩
theorem we {X:Cx}{e:Expr}{t:TT}(h:Bx (PW X e t)):Bx (PT X e t):=⟨h.of.pt⟩
section
variable {X:Cx}
theorem vm {x:Str}{v:V}{u:Value}{pos:Pos}(hg:Gl X x) (hm:X.mg x=some u) (r:RelV v u) (hd:(x == ("__debug__" : Str))=false:=by decide):Bx (PE X (.Name x pos) (tC v)):=⟨ZL hg hm r hd⟩
end
section
variable {X:Cx}{e:Expr}{es:List Expr}{te:TE}{t:TA}{pos:Pos}
theorem zn (ha:Bx (PE X e te)) (hr:Bx (PA X es t)) (hs:starEach (e::es) X.env=(false,eval e X.env)::starEach es X.env:=by rfl):Bx (PA X (e::es) (vZ te t)):=⟨xL ha.of hr.of hs⟩
end
section
variable {X:Cx}{CX:CXT}{k:Nat}{f C:Addr}{fd:FuncData}{ps:List Str}{sp:Sp}{dvs:List V}{ds:List Value}{E:XK}{x m:Str}{p pos apos:Pos}{e o:Expr}{es:List Expr}{ta:TE}{t:TA}
theorem VX {pl:Sem Bool}(he:Bx (PE X o ta)) (c:Cls X.K C) (hm:Meth X.K C m f) (F:FnOk X.prog X.w X.K X.mg X.base CX k f fd ps sp) (hr:Room k X.A) (hb:Binds X.K fd ps ds) (hd:Vals dvs ds) (hx:xS CX X E) (ha:Bx (PA X (e::es) t)) (hst:starEach (e::es) X.env=(false,eval e X.env)::starEach es X.env:=by rfl) (hpl:(backTo pos (starEach es X.env)).any (·.1)=false:=by rfl) (ht:eval (.Call (.Attribute o m apos) (e::es) [] pos) X.env=(do
   let ov ← eval o X.env
   standAt apos.atName
   let (f,first) ← holding [ov] (getMethod ov m pl)
   callWith pos f first (backTo pos (starEach (e::es) X.env)) (backToKw pos (keywordEach [] X.env))):=by rfl):Bx (PE X (.Call (.Attribute o m apos) (e::es) [] pos) (V8 C m sp dvs E ta t)):=⟨WZ he.of c hm F hr hb hd hx ha.of hst hpl ht⟩
end
section
variable {X:Cx}{a b:Expr}{ta tb:TE}{pos:Pos}
variable {o e:Expr}{es:List Expr}{to:TE}{t:TA}{name:Str}{apos cpos:Pos}{T id:String}{r:V→List V→Hp→VK→Prop}
theorem ya (pa:PlainAttrs T) (slot:Slot T name id) (hty:typeOf (.builtin id)=pure (.type "method_descriptor")) (hm:MtR X id r) (ho:Bx (PE X o to)) (ha:Bx (PA X (e::es) t)) (hbase:attributeBase o name X.env (eval o X.env)=eval o X.env:=by rfl) (hfew:((backTo cpos (starEach (e::es) X.env)).all (fun x=>!x.1)&&(backToKw cpos (keywordEach [] X.env)).all (fun x=>x.1.isSome)
   && decide ((e::es).length+([]:List Keyword).length+(if ([]:List Keyword).isEmpty then 0 else 1)<30))=true:=by rfl) (hline:(apos.endLine == cpos.line)=true:=by rfl) (hs:starEach (e::es) X.env=(false,eval e X.env)::starEach es X.env:=by rfl) (hplain:(backTo cpos (starEach es X.env)).any (·.1)=false:=by rfl):Bx (PE X (.Call (.Attribute o name apos) (e::es) [] cpos) (tBM X.K T r to t)):=⟨zdr pa slot hty hm ho.of ha.of hbase hfew hline hs hplain⟩
end
section
variable {X:Cx}{k:Nat}{f C:Addr}{fd:FuncData}{ps:List Str}{sp:Sp}{x m:Str}{p pos apos:Pos}{e o:Expr}{es:List Expr}{ta:TE}{t:TA}
theorem zx {pl:Sem Bool}(he:Bx (PE X o ta)) (ha:Bx (PA X (e::es) t)) (hst:starEach (e::es) X.env=(false,eval e X.env)::starEach es X.env:=by rfl) (hpl:(backTo pos (starEach es X.env)).any (·.1)=false:=by rfl) (ht:eval (.Call (.Attribute o m apos) (e::es) [] pos) X.env=(do
   let ov ← eval o X.env
   standAt apos.atName
   let (f,first) ← holding [ov] (getMethod ov m pl)
   callWith pos f first (backTo pos (starEach (e::es) X.env)) (backToKw pos (keywordEach [] X.env))):=by rfl):Bx (PE X (.Call (.Attribute o m apos) (e::es) [] pos) (uu X m ta t)):=⟨YN he.of ha.of hst hpl ht⟩
theorem zK {pl:Sem Bool}(he:Bx (PE X o ta)) (ht:eval (.Call (.Attribute o m apos) [] [] pos) X.env=(do
   let ov ← eval o X.env
   standAt apos.atName
   let (f,first) ← holding [ov] (getMethod ov m pl)
   callWith pos f first (backTo pos (starEach [] X.env)) (backToKw pos (keywordEach [] X.env))):=by rfl):Bx (PE X (.Call (.Attribute o m apos) [] [] pos) (uu X m ta zcp)):=⟨ZK he.of ht⟩
end
def Th (G:Hp) (Q:Hp→Prop) (H:Hp):Prop:=Q H∨∃ (d:Addr) (od:Obj) (kvs:List (Key×V)),(∀ o u,G d≠some (.frz o u))∧H d=some (.frz od (.dK kvs))∧Q (upd H d (.dK kvs))
def zlH (G:Hp) (t:TE):TE:=fun σ H Q=>t σ H fun v=>Th G (Q v)
def zlG (G:Hp) (t:TS):TS:=fun D σ H=>t ⟨fun σ=>Th G (D.nx σ),fun v=>Th G (D.rt v),fun σ=>Th G (D.bk σ),fun σ=>Th G (D.ct σ)⟩ σ H
section
variable {X:Cx}{pins:List (Addr×Obj)}{σ:St}{H G:Hp}{s:Shared}{d:Addr}{od:Obj}{kvs:List (Key×V)}
theorem Th.inv {Q:Hp→Prop}(I:Inv X pins σ H s) (h:Th X.H₀ Q H):∃ H',Inv X pins σ H' s∧Q H':=by
 rcases h with h | ⟨d,od,kvs,S,g,h⟩
 ·exact⟨_,I,h⟩
 ·exact⟨_,I.thaw S g,h⟩
theorem Zp {e:Expr}{t:TE}(h:Bx (PE X e t)):Bx (PE X e (zlH X.H₀ t)):=by
 have h:=h.of
 refine⟨?_⟩
 intro pins s σ H Q I q
 refine thn (h pins s σ H _ I q) fun u s' hq0=>?_
 obtain⟨v,H',I',r,q'⟩:=hq0
 obtain⟨H2,I2,q2⟩:=Th.inv I' q'
 exact⟨v,H2,I2,r,q2⟩
theorem vi {st:Stmt}{t:TS}(h:Bx (PS X st t)):Bx (PS X st (zlG X.H₀ t)):=by
 have h:=h.of
 refine⟨?_⟩
 intro pins s σ H D I q
 refine thn (h pins s σ H _ I q) fun f s' q'=>?_
 cases f with
 |next=>obtain⟨σ',H',I',q'⟩:=q';obtain⟨H2,I2,q2⟩:=Th.inv I' q';exact⟨_,_,I2,q2⟩
 |cont=>obtain⟨σ',H',I',q'⟩:=q';obtain⟨H2,I2,q2⟩:=Th.inv I' q';exact⟨_,_,I2,q2⟩
 |brk=>obtain⟨σ',H',I',q'⟩:=q';obtain⟨H2,I2,q2⟩:=Th.inv I' q';exact⟨_,_,I2,q2⟩
 |ret v=>obtain⟨x,σ',H',I',r,q'⟩:=q';obtain⟨H2,I2,q2⟩:=Th.inv I' q';exact⟨_,_,_,I2,r,q2⟩
theorem Vm {P:Program}{w:World}{k:Key}{u:Value}(h:(zB P w).is k u=true):RelV (kV k) u:=by
 rw[u6] at h
 cases k with
 |inl i=>cases u<;>simp[vb,Value.isInt] at h<;>(subst h;exact⟨_,rfl⟩)
 |inr x=>cases u<;>simp[vb,Value.isStrOf] at h<;>(subst h;exact⟨_,rfl⟩)
theorem xp:entryFor table "dict_itemiterator.__iter__" = some Builtin.«dict_keyiterator.__iter__» :=
 entryFor_alias (id' := "dict_keyiterator.__iter__") (by kernel_rfl) rfl (by decide +kernel) (by kernel_rfl)
theorem wn {prog:Program}{w:World}{A:Around}{E:Value→Shared→Prop}{s:Shared}{it d:Addr}{i n ep:Nat}{ok ov:Value}{Q:Value→Shared→Prop}(hit:IsItemIter s.heap it d i n ep ok ov) (h:Q (.ref it) s):wpAny (model prog w) A (pyIter (.ref it)) Q E s:=by
 have ti:s.TypeIs (.ref it) "dict_itemiterator" := ⟨_,hit,rfl⟩
 refine wpAny_pyIter_slot ti F.slot_dict_itemiterator_iter (wpAny_call_entry F.slot_dict_itemiterator_iter ti xp ?_ (F.args_dict_itemiterator_iter_1 _))
 show wpAny _ _ (ret (.ref it)) _ _ s
 exact wpAny_pure ⟨_,rfl, "dict_itemiterator",_,ti,F.slot_dict_itemiterator_next.lookup,h⟩
abbrev YL:=Key×V→V→Hp→Hp→Prop
def yI:YL:=fun kv x H H'=>∃ p,H p=none∧x=.ref p∧H'=upd H p (.tup [kV kv.1,kv.2])
def Itd (yl:YL) (d:Addr) (od:Obj) (kvs:List (Key×V)):It :=
 ⟨fun i H=>H d=some (.frz od (.dK kvs))∧i<kvs.length,fun i H x H'=>∃ kv,kvs[i]?=some kv∧yl kv x H H',fun i H=>H d=some (.frz od (.dK kvs))∧kvs.length≤i⟩
theorem vX {P:Program}{w:World}{K:PySem.W.Frag}{es:List Expr}{n:Nat}{tp:Pos}{it d:Addr}{od:Obj}{kvs:List (Key×V)}{vs:List (Key×Value)}{ep:Nat}(rel:KV kvs vs)
  (da:∀ h:Heap,h.get? d=some od→Heap.DictAt (zB P w) h d vs ep):Turn P w K (.Tuple es n tp) (Itd yI d od kvs) [it] it (fun i h=>∃ ok ov,IsItemIter h it d i vs.length ep ok ov) where
 mem:=by simp
 obj:=fun i h ⟨ok,ov,st⟩ b hb=>by
  rw[List.mem_singleton.mp hb]
  exact⟨_,st,fun v z=>by
   have z':Data.fields _=Data.cell v:=z
   cases z'⟩
 keep:=fun i h h' ⟨ok,ov,st⟩ k=>⟨ok,ov,k it (by simp) _ st⟩
 item:=by
  intro X hP hw hK hc i pins s σ H E I hf st hg
  subst hP hw hK
  obtain⟨ok,ov,st⟩:=st
  have fi:=hf it (by simp)
  have d3:=(I.hok d _ hg.1).1
  have hx:kvs[i]?=some (kvs[i]'hg.2):=List.getElem?_eq_getElem hg.2
  obtain⟨u,hu,ru⟩:=rel.getAt hx
  refine wpAny_pyNext_items_item st (da _ d3) hu fun key h1 hkey O1 T1 z1 kk=>?_
  refine⟨_,rfl,wpAny_letOwnedTupleGo_items (s:={ s with heap:=h1 }) O1 fun h2 E2 sb=>?_⟩
  have te:s.heap.objs.size≠it:=(Nat.ne_of_lt (Heap.lt_size st)).symm
  have T2:=sb.extBut _ _ te T1
  have k2:∀ c o,c∉[it]→s.heap.get? c=some o→h2.get? c=some o:=fun c o hc q=>by
   have hc:c≠it:=by simpa using hc
   exact sb.extBut c o hc (kk c o hc q)
  have hn:H s.heap.objs.size=none:=I.fresh
  refine⟨.ref s.heap.objs.size,upd H s.heap.objs.size (.tup [kV (kvs[i]'hg.2).1,(kvs[i]'hg.2).2]),I.turnedLaid (t':=s.toks) (ch:=[it]) hf k2 (Nat.le_refl _) ⟨by show 2≤sizeLine;decide,[key,u],.cons (Vm hkey) (.cons ru .nil),⟨_,T2,rfl,_,rfl⟩⟩,rfl,
   ⟨_,hx,_,hn,rfl,rfl⟩,⟨_,_,E2⟩,fun c hc=>?_⟩
  rw[List.mem_singleton.mp hc,upd_ne te.symm]
  exact fi.1
 done:=by
  intro X hP hw hK hc i pins s σ H E I hf st hg
  subst hP hw hK
  obtain⟨ok,ov,st⟩:=st
  obtain⟨f0,f1,f2,f3,f4,f5⟩:=hf it (by simp)
  have d3:=(I.hok d _ hg.1).1
  have lv:=rel.length
  exact wpAny_pyNext_items_end (I.ok.hd hc) st (da _ d3) (List.getElem?_eq_none (by have:=hg.2;omega)) fun h' kk=>⟨rfl,I.turned (t':=s.toks) (fun b o hb q=>kk b o hb q) f0 f1 f3 f4 f5⟩
 self:=fun _ _ _ _ _ ⟨_,_,st⟩ h=>wn st h
def zmN (yl:YL) (G:Hp) (td:TE):TI:=fun σ H R=>td σ H fun x H1=>∃ (d:Addr) (kvs:List (Key×V)),x=.ref d∧H1 d=some (.dK kvs)∧∀ od:Obj,(∀ o u,G d≠some (.frz o u))→R (Itd yl d od kvs) (upd H1 d (.frz od (.dK kvs)))
theorem Vq {x:Addr}(I:Inv X pins σ H s) (e:H d=some (.dK kvs)):∀ o u,X.H₀ d≠some (.frz o u):=fun o u z=>by
 have:=I.base.frzs d o u z
 rw[e] at this;cases this
theorem xn {o:Expr}{es:List Expr}{n:Nat}{tp:Pos}{td:TE}{apos cpos:Pos}(ho:Bx (PE X o td)) (hbase:attributeBase o "items" X.env (eval o X.env)=eval o X.env:=by rfl) (hline:(apos.endLine == cpos.line)=true:=by rfl):Bx (PI X (.Tuple es n tp) (.Call (.Attribute o "items" apos) [] [] cpos) (zmN yI X.H₀ td)):=by
 have ho:=ho.of
 refine⟨?_⟩
 intro pins s σ H R I h
 refine wpAny_Call_method0_late hbase hline (thn (ho pins s σ H _ I h) fun v s1 hq0=>?_)
 obtain⟨x,H1,I1,rx,d,kvs,ex,e,q⟩:=hq0
 subst ex
 obtain rfl:v=Value.ref d:=rx
 obtain⟨t1,t2,_⟩:=xQ I1 (.inl ⟨_,.inl e⟩)
 obtain⟨z,hd,vs,rel,dd⟩:=ub I1.hok e
 refine⟨"dict", "dict.items",PySem.F.plainAttrs_dict,PySem.F.slot_dict_items,PySem.F.type_dict_items,t1,t2,Calls.callWith_builtin rfl (PySem.evalArgs_none ?_)⟩
 refine call_meetsIn PySem.F.slot_dict_items dd.typeIs PySem.F.entry_dict_items (PySem.F.args_dict_items_1 _) (meets_dict_items (zB X.prog X.w) d hd) ⟨⟨vs,dd⟩,?_⟩
 obtain⟨od,es',ep,q1,q2,q3,q4,q5,q6⟩:=dd
 have da:∀ h':Heap,h'.get? d=some od→Heap.DictAt (zB X.prog X.w) h' d vs ep:=fun _ q=>⟨od,es',q,q2,q3,q4,q5,q6⟩
 refine wpAny_pyIter_items (s:={ s1 with heap:=s1.heap.push _ }) (d:=d) ⟨_,Heap.get?_push_size _ rfl,rfl,rfl⟩ (da _ (Heap.get?_push_of_some _ q1)) ?_
 have hle:s1.heap.objs.size≤(s1.heap.push { cls:=.type "dict_items",data:=.fields #[.ref d] }).objs.size:=by rw[Heap.size_push];exact Nat.le_succ _
 have I1f:=I1.froz e q1
 refine⟨_,[(s1.heap.push { cls:=.type "dict_items",data:=.fields #[.ref d] }).objs.size],_,_,_,rfl,I1f.kept (t':=s1.toks) fun b u q=>Heap.get?_push_of_some _ (Heap.get?_push_of_some _ q),vX rel da,⟨_,_,Heap.get?_push_size _ rfl⟩,fun b hb=>?_,q od (Vq (x:=d) I1 e)⟩
 rw[List.mem_singleton.mp hb]
 exact I1f.fpOk hle (I1f.hok.fresh hle)
end
theorem uL {yl:YL}{d:Addr}{od:Obj}{kvs:List (Key×V)}{g:TG}{tb:TS}{D:Ends}{σ:St}{H:Hp}(Pv:Nat→St→Hp→Prop) (h0:Pv 0 σ H) (hf:∀ i σ H,Pv i σ H→H d=some (.frz od (.dK kvs)))
  (hs:∀ i kv x σ H H',kvs[i]?=some kv→Pv i σ H→yl kv x H H'→g x σ H' fun σ2 H2=>tb { D with nx:=Pv (i+1),ct:=Pv (i+1),bk:=D.nx } σ2 H2) (hd:∀ σ H,Pv kvs.length σ H→D.nx σ H) :
  ∃ W:Nat→Nat→St→Hp→Prop,(∃ m,W 0 m σ H)∧∀ i m σ H,W i m σ H →
   ((Itd yl d od kvs).stop i H∧D.nx σ H)∨((Itd yl d od kvs).go i H∧∃ N:St→Hp→Prop,(∀ σ' H',N σ' H'→∃ m',m'<m∧W (i+1) m' σ' H')∧∀ x H',(Itd yl d od kvs).yld i H x H'→g x σ H' fun σ2 H2=>tb { D with nx:=N,ct:=N,bk:=D.nx } σ2 H2):=by
 refine⟨fun i m σ H=>m=kvs.length-i∧i≤kvs.length∧Pv i σ H,⟨_,rfl,Nat.zero_le _,h0⟩,?_⟩
 rintro i m σ H ⟨rfl,hi,p⟩
 have q:=hf i σ H p
 by_cases hlt:i<kvs.length
 ·refine .inr ⟨⟨q,hlt⟩,Pv (i+1),fun σ' H' z=>⟨_,by omega,rfl,hlt,z⟩,fun x H' ⟨kv,hk,y⟩=>hs i kv x σ H H' hk p y⟩
 ·have e:i=kvs.length:=by omega
  subst e
  exact .inl ⟨⟨q,Nat.le_refl _⟩,hd σ H p⟩
theorem Yk {yl:YL}{d:Addr}{od:Obj}{kvs:List (Key×V)}{g:TG}{tc:TT}{te:TE}{Q:VK}{D:Addr}{τ0:St}{H0:Hp}(Pv:Nat→List V→St→Hp→Prop) (h0:Pv 0 [] τ0 H0) (hf:∀ i zs τ H,Pv i zs τ H→H d=some (.frz od (.dK kvs)))
  (hs:∀ i kv x zs τ H H',kvs[i]?=some kv→Pv i zs τ H→yl kv x H H'→g x τ H' fun τ2 H4=>tc τ2 H4 fun b H5 =>
   if b=true then te τ2 H5 fun y H6=>H6 D=some (.lst zs)∧zs.length<sizeLine∧Pv (i+1) (zs++[y]) τ2 (upd H6 D (.lst (zs++[y]))) else Pv (i+1) zs τ2 H5)
  (hd:∀ zs τ H,Pv kvs.length zs τ H→Q (.ref D) H):Zi (Itd yl d od kvs) g tc te Q D τ0 H0 :=
 ud kvs.length Pv h0 (fun zs τ H p=>⟨⟨hf _ _ _ _ p,Nat.le_refl _⟩,hd zs τ H p⟩) fun i zs τ H hi p=>⟨⟨hf _ _ _ _ p,hi⟩,fun x H3 ⟨kv,hk,y⟩=>hs i kv x zs τ H H3 hk p y⟩
theorem Zg {K:Type} [DecidableEq K]{xs:List (K×Addr×Value)}{k:K}(h:∀ (j:Nat) (p:Addr×Value),xs[j]?≠some (k,p)):atKey xs k=none:=by
 unfold atKey
 rw[Option.map_eq_none_iff,List.find?_eq_none]
 intro x hx e
 obtain⟨j,hj⟩:=List.getElem?_of_mem hx
 have e:x.1=k:=by simpa using e
 exact h j x.2 (by rw[hj,← e])
theorem Zf {K:Type} [DecidableEq K]{xs:List (K×Addr×Value)}{k:K}{j:Nat}{p:Addr×Value}(nd:(xs.map (·.1)).Nodup) (h:xs[j]?=some (k,p)):atKey xs k=some p:=by
 unfold atKey
 have hm:=List.mem_of_getElem? h
 cases hf:xs.find? (fun x=>decide (x.1=k)) with
 |none =>
  rw[List.find?_eq_none] at hf
  exact absurd (hf _ hm) (by simp)
 |some y =>
  have h1:=List.find?_some hf
  have h2:=List.mem_of_find?_eq_some hf
  have e:y.1=k:=by simpa using h1
  obtain⟨i,hi⟩:=List.getElem?_of_mem h2
  have z:i=j:=by
   have a1:(xs.map (·.1))[i]?=some k:=by rw[List.getElem?_map,hi,← e];rfl
   have a2:(xs.map (·.1))[j]?=some k:=by rw[List.getElem?_map,h];rfl
   obtain⟨l1,q1⟩:=List.getElem?_eq_some_iff.mp a1
   obtain⟨l2,q2⟩:=List.getElem?_eq_some_iff.mp a2
   exact(List.getElem?_inj l1 nd).mp (a1.trans a2.symm)
  subst z
  rw[hi] at h
  cases h
  rfl
theorem Xj {prog:Program}{w:World}{K:Type} [DecidableEq K]{knd:HeapKind prog w K}{A:Around}{E:Value→Shared→Prop}{s:Shared}{d a:Addr}{xs:List (K×Addr×Value)}{k:K}{v:Value}{Q:Value→Shared→Prop}
  (hr:knd.room A) (hk:knd.is s.heap k a) (hd:Heap.DictOfH knd s.heap d xs)
  (h1:∀ p,atKey xs k=some p→Q p.2 { s with toks:=s.toks+knd.draws k })
  (h2:atKey xs k=none→∀ h',Heap.DictOfH knd h' d (storedH xs k a v)→Heap.SameBut d s.heap h'→Q v { s with heap:=h',toks:=s.toks+knd.draws k })
  (hz:xs.length≤sizeLine):wpAny (model prog w) A (dictSetDefault d (.ref a) v) Q E s:=by
 obtain⟨o,es,ep,ho,ex,hdat,hes,his,nd⟩:=hd
 unfold dictSetDefault
 refine wpAny_holding (wpAny_bind (knd.pyHash hr hk ?_))
 refine wpAny_bind (wpAny_dictFind_heap hr (s:={ s with toks:=s.toks+knd.draws k }) hk ho hdat hes his nd (fun hn=>?_) fun j p hj=>?_)
 ·have hn':=Zg hn
  refine wpAny_bind (wpAny_rule (wpAny_bind (wpAny_updateDictKeys (s:={ s with toks:=s.toks+knd.draws k }) ho hdat (wpAny_pure (h2 hn' _ ?_ ?_)) ?_ ?_)))
  ·have sb:Heap.SameBut d s.heap (s.heap.update d (Obj.mapDictKeys fun x=>x.push { hash:=knd.hash k,key:=.ref a,val:=v })):=⟨Heap.size_update _ _ _,fun b hb=>Heap.get?_update_ne _ _ _ _ hb⟩
   refine⟨_,es.push { hash:=knd.hash k,key:=.ref a,val:=v },ep+1,Heap.get?_update_self _ ho (by obtain⟨c,dd,dt,sl⟩:=o;cases hdat;rfl),?_,?_,?_,?_,?_⟩
   ·obtain⟨c,dd,dt,sl⟩:=o
    cases hdat
    exact ex
   ·obtain⟨c,dd,dt,sl⟩:=o
    cases hdat
    rfl
   ·rw[storedH_new hn',Array.toList_push,hes,List.map_append]
    rfl
   ·rw[storedH_new hn']
    intro x hx
    rcases List.mem_append.mp hx with z | z
    ·exact knd.keeps (his x z) ho hdat sb
    ·rw[List.mem_singleton.mp z]
     exact knd.keeps hk ho hdat sb
   ·rw[storedH_new hn',List.map_append,List.nodup_append]
    refine⟨nd,by simp,fun x hx y hy e=>?_⟩
    have hy:y=k:=by simpa using hy
    obtain⟨z,hz1,hz2⟩:=List.mem_map.mp hx
    obtain⟨j,hj⟩:=List.getElem?_of_mem hz1
    exact hn j z.2 (by rw[hj,← hy,← e,← hz2])
  ·exact⟨Heap.size_update _ _ _,fun b hb=>Heap.get?_update_ne _ _ _ _ hb⟩
  ·have:es.size=xs.length:=by
    rw[← Array.length_toList,hes,List.length_map]
   omega
  ·simp
 ·have e1:=Zf nd hj
  refine wpAny_bind (wpAny_dictEntries (s:={ s with toks:=s.toks+knd.draws k }) ho hdat ?_)
  have:es[j]?=some (entryOfKey knd (k,p)):=by
   rw[← Array.getElem?_toList,hes,List.getElem?_map,hj]
   rfl
  rw[this]
  exact wpAny_bind (wpAny_rule (wpAny_pure (h1 p e1)))
theorem yS {prog:Program}{w:World}{K:Type} [DecidableEq K] (knd:HeapKind prog w K) (d a:Addr) (hd:(d == sysModules)=false) (v:Value) :
  MeetsIn prog w (Builtin.«dict.setdefault» ⟨[.ref d,.ref a,v],[]⟩) fun A R s=>knd.room A.in1∧s.TypeIs (.ref d) "dict" ∧ ∃ k xs,knd.is s.heap k a∧Heap.DictOfH knd s.heap d xs∧xs.length≤sizeLine ∧
   (∀ p,atKey xs k=some p→R (.ok (.ret p.2)) { s with toks:=s.toks+knd.draws k }) ∧
   (atKey xs k=none→∀ h',Heap.DictOfH knd h' d (storedH xs k a v)→Heap.SameBut d s.heap h'→R (.ok (.ret v)) { s with heap:=h',toks:=s.toks+knd.draws k }):=by
 intro A R s ⟨hr,ht,k,xs,hk,hx,hz,h1,h2⟩
 unfold Builtin.«dict.setdefault»
 refine wpAny_bind ?_
 unfold Builtin.Dict.keyAndDefault
 refine wpAny_bind (wpAny_notOrdered_dict ht ?_)
 show wpAny _ _ (pure (d,Value.ref a,some v)) _ _ _
 refine wpAny_pure ?_
 show wpAny _ _ (if (d == sysModules)=true then _ else _) _ _ _
 rw[if_neg (by rw[hd];simp)]
 refine wpAny_bind (Xj hr hk hx (fun p hp=>?_) (fun hn h' hh sb=>?_) hz)
 ·exact wpAny_pure (h1 p hp)
 ·exact wpAny_pure (h2 hn h' hh sb)
def zgD (H:Hp) (a:Addr) (y v:V) (Q:V→Hp→Prop):Prop :=
 (∃ kvs k,H a=some (.dK kvs)∧y=kV k∧kvs.length<sizeLine∧(∀ x,yL kvs k=some x→Q x H)∧(yL kvs k=none→Q v (upd H a (.dK (putK kvs k v))))) ∨
 ∃ kvs k b,H a=some (.dT kvs)∧y=.ref b∧H b=some (.tup (k.map kV))∧kvs.length<sizeLine∧(∀ x,yL kvs k=some x→Q x H)∧(yL kvs k=none→Q v (upd H a (.dT (putK kvs k v))))
section
variable {X:Cx}{pins:List (Addr×Obj)}{σ:St}{H:Hp}{s:Shared}{a:Addr}{y v:V}{u r:Value}{A:Around}{E:Value→Shared→Prop}
theorem Xk {Q:Value→Shared→Prop}{C:V→Hp→Prop}(hu:A.units+1<cLine) (I:Inv X pins σ H s) (g:zgD H a y v C) (ry:RelV y u) (rv:RelV v r) (h:∀ x H' w' s',C x H'→Inv X pins σ H' s'→RelV x w'→Q w' s') :
  wpAny (model X.prog X.w) A (call (.builtin "dict.setdefault") [.ref a,u,r]) Q E s:=by
 rcases g with⟨kvs,k,e,ey,l,c1,c2⟩ | ⟨kvs,k,b,e,ey,eb,l,c1,c2⟩
 ·subst ey
  obtain⟨z,hd,vs,rel,dd⟩:=ub I.hok e
  have hz:vs.length≤sizeLine:=by rw[← rel.length];exact z
  have hl:(putK kvs k v).length≤sizeLine:=by have:=ym kvs k v;omega
  refine call_meetsIn PySem.F.slot_dict_setdefault dd.typeIs PySem.F.entry_dict_setdefault (PySem.F.args_dict_setdefault_3 _ _ _) (kt_meets_setdefault (zB X.prog X.w) a (wF ry) hd r) ⟨vs,dd,hz,fun w' hw=>?_,fun hn h' dd' hs=>?_⟩
  ·have q:=rel.val k
   rw[hw] at q
   cases hv:yL kvs k with
   |none=>rw[hv] at q;exact False.elim q
   |some x =>
    rw[hv] at q
    exact h x H w' _ (c1 x hv) (I.tok _) q
  ·have q:=rel.val k
   rw[hn] at q
   cases hv:yL kvs k with
   |some x=>rw[hv] at q;exact False.elim q
   |none =>
    have he:∃ q,h'.get? a=some q:=let ⟨q,_,_,hq,_⟩:=dd';⟨q,hq⟩
    exact h v _ r _ (c2 hv) (xr I (by rw[e];exact True.intro) hs he (vG hl hd (rel.put k rv) dd')) rv
 ·subst ey
  cases (show u=Value.ref b from ry)
  obtain⟨z,hd,xs,rel,dd⟩:=Zd I.hok e
  have hz:xs.length≤sizeLine:=by rw[← Paired.length rel];exact z
  have hl:(putK kvs k v).length≤sizeLine:=by have:=ym kvs k v;omega
  refine call_meetsIn PySem.F.slot_dict_setdefault dd.typeIs PySem.F.entry_dict_setdefault (PySem.F.args_dict_setdefault_3 _ _ _) (yS (tupleKind (zB X.prog X.w)) a b hd r) ⟨tupleKind_room_in1 hu,dd.typeIs,k,xs,xP I.hok eb,dd,hz,fun p hp=>?_,fun hn h' dd' hs=>?_⟩
  ·have q:=rel.val k
   rw[hp] at q
   cases hv:yL kvs k with
   |none=>rw[hv] at q;exact False.elim q
   |some x =>
    rw[hv] at q
    exact h x H p.2 _ (c1 x hv) (I.tok _) q
  ·have q:=rel.val k
   rw[hn] at q
   cases hv:yL kvs k with
   |some x=>rw[hv] at q;exact False.elim q
   |none =>
    obtain⟨q,es,ep,hq,h2,h3,h4,_,h5⟩:=dd'
    refine h v _ r _ (c2 hv) (xr I (by rw[e];exact True.intro) hs ⟨q,hq⟩ ⟨hl,hd,_,(rel.put k eb rv).keeps fun c ys ec=>?_,q,es,ep,hq,h2,h3,h4,h5⟩) rv
    rw[upd_ne (Vh ec e (fun z=>nomatch z))]
    exact ec
end
def zcu (td ty tx:TE):TE:=fun σ H Q=>td σ H fun x H1=>∃ a,x=.ref a∧IsD H1 a∧ty σ H1 fun y H2=>tx σ H2 fun z H3=>zgD H3 a y z Q
section
variable {X:Cx}{o e f:Expr}{apos cpos:Pos}{td ty tx:TE}
theorem xv (hu:X.A.units+1<cLine) (ho:Bx (PE X o td)) (he:Bx (PE X e ty)) (hf:Bx (PE X f tx)) (m:M2 X o "setdefault" apos e f cpos):Bx (PE X (.Call (.Attribute o "setdefault" apos) [e,f] [] cpos) (zcu td ty tx)):=by
 have ho:=ho.of
 have he:=he.of
 have hf:=hf.of
 refine⟨?_⟩
 intro pins s σ H Q I h
 refine wpAny_Call_method m.base m.few m.line PySem.F.plainAttrs_dict PySem.F.slot_dict_setdefault PySem.F.type_dict_setdefault (thn (ho pins s σ H _ I h) fun u s1 hq0=>?_)
 obtain⟨x,H1,I1,rx,a,ex,d,q1⟩:=hq0
 subst ex
 obtain rfl:u=Value.ref a:=rx
 obtain⟨t1,t2,_⟩:=xQ I1 d
 refine⟨t1,t2,?_⟩
 rw[m.trees]
 refine Calls.callWith_builtin rfl (Calls.evalArgs_plain (Calls.spliced_cons (thn (he pins s1 σ H1 _ I1 q1) fun iv s2 ⟨y,H2,I2,ry,q2⟩ =>
  Calls.spliced_cons (thn (hf pins s2 σ H2 _ I2 q2) fun fv s3 ⟨z,H3,I3,rz,g⟩=>Calls.spliced_nil ?_))))
 exact Xk hu I3 g ry rz fun x H' w' s4 c I4 rw'=>⟨x,H',I4,rw',c⟩
end
end L2
namespace L2
namespace Srt
open PySem PyProof.Rows PySem.W
section
variable {prog:Program}{w:World}{A:Around}{E:Value→Shared→Prop}{s:Shared}
theorem uK:∀ {ns:LI}{vs:List Value},vs.length=ns.length→(∀ (j:Nat) v n,vs[j]?=some v→ns[j]?=some n→∃ t,v=Value.int n t)→IntsAre vs ns
 |[],[],_,_=>.nil
 |n::ns,v::vs,hl,h=>by
  obtain⟨t,rfl⟩:=h 0 v n rfl rfl
  exact .cons _ _ (uK (by simpa using hl) fun j v n e1 e2=>h (j+1) v n (by simpa using e1) (by simpa using e2))
 |[],_::_,hl,_=>by simp at hl
 |_::_,[],hl,_=>by simp at hl
theorem vw {d:Addr}{kvs:List (Key×Value)}{ep:Nat}{ns:LI}{Q:Value→Shared→Prop}(lo:(d == sysModules)=false) (hh:A.handled=none) (hD:s.heap.DictAt (zB prog w) d kvs ep) (hk:kvs.map (·.1)=ns.map Sum.inl) (h64:ns.length<64)
  (h:∀ (D:Addr) (h':Heap) (tk:Nat) (out:Array Value) (ms:LI),(∀ b o,s.heap.get? b=some o→h'.get? b=some o)→s.heap.get? D=none→IntsAre out.toList ms→ms.Perm ns→ms.Pairwise (· ≤ ·)→(∃ c,h'.get? D=some (seqObj "list" out c))→Q (.ref D) { s with heap:=h',toks:=tk }) :
  wpAny (model prog w) A (call (.builtin "sorted") [.ref d]) Q E s:=by
 have big:64≤sizeLine:=by decide
 have hlen:kvs.length=ns.length:=by
  have:=congrArg List.length hk
  simpa using this
 refine Calls.call_function_entry kind_sorted plain_sorted entry_sorted (args_sorted1 _) ?_
 unfold Builtin.«sorted»
 refine wpAny_bind (m:=checkCount "sorted" 1 1 _) (wpAny_pure ?_)
 refine wpAny_bind (kdu_collect (A:=A.in1) (kdl_dict (knd:=zB prog w) (kvs:=kvs) (ep:=ep) lo) hh hD (by omega) fun h' tk acc hk' hacc=>?_)
 have hl:acc.toList.length=kvs.length:=by rw[Array.length_toList];exact hacc.1
 have hI:IntsAre acc.toList ns:=uK (by omega) fun j v n e1 e2=>by
  obtain⟨k,x,hx,hkk⟩:=hacc.2 j v (by rw[← Array.getElem?_toList];exact e1)
  have e3:(kvs.map (·.1))[j]?=some k:=by rw[List.getElem?_map,hx];rfl
  rw[hk,List.getElem?_map,e2] at e3
  obtain rfl:(Sum.inl n:Key)=k:=by simpa using e3
  rcases zU (k:=Sum.inl n) (v:=v) hkk with⟨i,t,e,rfl⟩ | ⟨i,t,e,rfl⟩
  ·injection e with e
   exact⟨t,by rw[e]⟩
  ·cases e
 refine wpAny_bind (wpAny_newList ?_ (by omega))
 have hoL:(h'.push (seqObj "list" acc.toList.toArray 0)).get? h'.objs.size=some (seqObj "list" acc.toList.toArray 0):=Heap.get?_push_size _ rfl
 refine(show wpAny _ _ _ _ _ { s with heap:=h'.push (seqObj "list" acc.toList.toArray 0),toks:=tk } from ?_)
 refine wpAny_bind (wpAny_holding (wpAny_call_entry slot_list_sort ⟨_,hoL,rfl⟩ entry_list_sort (list_sort_tree hoL hI (by omega) fun out ns' a1 a2 a3=>⟨_,rfl,?_⟩) (args_list_sort _)))
 refine wpAny_pure ⟨_,rfl,h h'.objs.size _ tk out ns' (fun b o e=>?_) ?_ a1 a2 a3 (sortedHeap_at hoL)⟩
 ·have e1:=hk' b o e
  have lt:=Heap.lt_size e1
  rw[sortedHeap_old (Nat.ne_of_lt lt) (by rw[size_push'];exact Nat.lt_succ_of_lt lt)]
  exact Heap.get?_push_of_some _ e1
 ·cases z:s.heap.get? h'.objs.size with
  |none=>rfl
  |some o=>exact absurd (Heap.lt_size (hk' _ _ z)) (Nat.lt_irrefl _)
end
section
variable {X:Cx}{pins:List (Addr×Obj)}{σ:St}{H:Hp}{s:Shared}{h':Heap}
theorem laidF {a:Addr}{o:HO}{t':Nat}(I:Inv X pins σ H s) (k:∀ b u,s.heap.get? b=some u→h'.get? b=some u) (hf:s.heap.get? a=none) (new:ObjOk X.prog X.w (upd H a o) h' a o) :
  Inv X pins σ (upd H a o) { s with heap:=h',toks:=t' }:=by
 have hn:H a=none:=I.hok.untr hf
 have ne:∀ b u,s.heap.get? b=some u→b≠a:=fun b u q z=>by rw[z,hf] at q;cases q
 refine I.un ⟨fun b u q _ _ _=>k b u q,fun b u q _ _ _=>⟨u.slots,k b u q⟩,fun b u q n _=>by rw[upd_ne (ne b u q)];exact n,fun b u q _=>⟨u,k b u q⟩,fun b xs q=>by rw[upd_ne (ne_of_none q hn)];exact q,
  fun b u xs q=>by rw[upd_ne (ne_of_none q hn)];exact q,fun b ps q=>⟨#[],by rw[upd_ne (ne_of_none q hn),q];simp⟩⟩ fun b u e=>?_
 by_cases hb:b=a
 ·subst hb;rw[upd_same] at e;cases e;exact new
 ·rw[upd_ne hb] at e
  exact(I.hok b u e).stay (fun c v _ q=>k c v q) (fun c q=>by rw[upd_ne (ne_of_none q hn)];exact q) fun c xs q=>by rw[upd_ne (ne_of_none q hn)];exact q
theorem KV.keys {κ:Type}:∀ {kvs:List (κ×V)}{vs:List (κ×Value)},KV kvs vs→kvs.map (·.1)=vs.map (·.1)
 |[],_,r=>by cases r;rfl
 |p::kvs,_,r=>by
  cases r with
  |cons h t=>rw[List.map_cons,List.map_cons,KV.keys t,h.1]
def Uu:List V→Hp→VK→Prop:=fun xs H Q=>∃ (a:Addr) (kvs:List (Key×V)) (ns:LI),xs=[V.ref a]∧H a=some (.dK kvs)∧kvs.map (·.1)=ns.map Sum.inl∧ns.length<64 ∧
 ∀ (p:Addr) (ms:LI),H p=none→ms.Perm ns→ms.Pairwise (· ≤ ·)→Q (.ref p) (upd H p (.lst (ms.map V.int)))
theorem wR (hc:X.calm=true:=by rfl):xj X (.builtin "sorted") Uu:=by
 intro pins s σ H xs us Q I r h
 obtain⟨a,kvs,ns,rfl,ha,hk,h64,q⟩:=h
 obtain⟨u,rfl,ru⟩:=r.one
 cases ru
 have big:64≤sizeLine:=by decide
 obtain⟨hz,lo,vs,rel,hD⟩:=ub I.hok ha
 obtain⟨ep,hat⟩:=hD.dictAt
 refine vw lo (I.ok.hd hc) hat (by rw[← KV.keys rel];exact hk) h64 fun D h' tk out ms k1 k2 a1 a2 a3 k3=>?_
 obtain⟨c,k3⟩:=k3
 exact⟨.ref D,_,laidF (o:=.lst (ms.map V.int)) I k1 k2 ⟨by rw[List.length_map,a2.length_eq];omega,out.toList,c,v0 a1,by rw[Array.toArray_toList];exact k3⟩,rfl,q D ms (I.hok.untr k2) a2 a3⟩
end
end Srt
namespace Sco
open PySem PyProof.Rows
section
variable {rk:Value→Int}
def kf (rk:Value→Int) (l:List Keyed) (i:Nat):Int:=(l[i]?.map fun x=>rk x.1).getD 0
theorem Vl {l:List Keyed}{i:Nat}(h:i<l.length):kf rk l i=rk l[i].1:=by
 unfold kf
 rw[List.getElem?_eq_getElem h]
 rfl
theorem XD {a:Array Keyed}{i:Nat}(h:i<a.size):rk a[i].1=kf rk a.toList i:=by
 rw[Vl (by simpa using h)]
 simp
def SA (rk:Value→Int) (l:List Keyed):Prop:=l.Pairwise fun x y=>rk x.1≤rk y.1
theorem SA.of {l:List Keyed}(h:∀ i j,i<j→j<l.length→kf rk l i≤kf rk l j):SA rk l:=by
 refine List.pairwise_iff_getElem.mpr fun i j hi hj hij=>?_
 have:=h i j hij hj
 rw[Vl hi,Vl hj] at this
 exact this
end
section
variable {prog:Program}{w:World}{A:Around}{E:Value→Shared→Prop}{s:Shared}{it:List Keyed}{κ:SortKind}{rk:Value→Int}
def Cmp (prog:Program) (w:World) (A:Around) (s:Shared) (it:List Keyed) (κ:SortKind) (rk:Value→Int):Prop :=
 ∀ x∈it,∀ y∈it,∀ (Q:Bool→Shared→Prop) (E:Value→Shared→Prop),Q (decide (rk x.1<rk y.1)) s→wpAny (model prog w) A (keyLt' κ x.1 y.1) Q E s
theorem zlD (C:Cmp prog w A s it κ rk){st:SortSt}(hk:kindOf st=κ){x y:Keyed}(hx:x∈it) (hy:y∈it){Q:Option Bool→SortSt→Prop}(h:Q (some (decide (rk x.1<rk y.1))) st):wpS (model prog w) A E s (lt' x y) Q st:=by
 rw[lt'_eq]
 refine wpS_bind (wpS_get ?_)
 rw[hk]
 refine wpS_bind (wpS_lift (wpAny_attempt (C x hx y hy _ _ ⟨rfl,?_⟩)))
 exact wpS_pure h
theorem Xs {st:SortSt}{arr:Array Keyed}{i:Nat}(hi:i<arr.size){Q:Keyed→SortSt→Prop}(h:Q arr[i] st):wpS (model prog w) A E s (elem' arr i) Q st:=by
 rw[elem'_eq,getElem?_pos arr i hi]
 exact wpS_pure h
def In (it:List Keyed) (o:Array Keyed):Prop:=∀ x∈o,x∈it
theorem In.at {o:Array Keyed}{i:Nat}(h:In it o) (hi:i<o.size):o[i]∈it:=h _ (Array.getElem_mem hi)
end
section
variable {prog:Program}{w:World}{A:Around}{E:Value→Shared→Prop}{s:Shared}{it T:List Keyed}{κ:SortKind}{n:Nat}{rk:Value→Int}
structure TB (it T:List Keyed) (κ:SortKind) (n:Nat) (st:SortSt):Prop where
 z:(arrOf st).size=n
 p:(arrOf st).toList.Perm T
 i:In it (arrOf st)
 k:kindOf st=κ
 f:failedOf st=none
theorem TB.perm {st:SortSt}(t:TB it T κ n st){xs:Array Keyed}(p:xs.Perm (arrOf st)):TB it T κ n (setArr st xs) :=
 ⟨p.size_eq.trans t.z,(Array.perm_iff_toList_perm.mp p).trans t.p,fun x hx=>t.i x (Array.mem_def.mpr ((Array.perm_iff_toList_perm.mp p).mem_iff.mp (Array.mem_def.mp hx))),t.k,t.f⟩
def ks (rk:Value→Int) (st:SortSt) (i:Nat):Int:=kf rk (arrOf st).toList i
theorem ZZ {st st':SortSt}{i j:Nat}(h:(arrOf st')[i]?=(arrOf st)[j]?):ks rk st' i=ks rk st j:=by
 unfold ks kf
 rw[Array.getElem?_toList,Array.getElem?_toList,h]
def Sg (rk:Value→Int) (st:SortSt) (lo hi:Nat):Prop:=∀ i j,lo≤i→i≤j→j<hi→ks rk st i≤ks rk st j
theorem t_ltAt (C:Cmp prog w A s it κ rk){st:SortSt}(t:TB it T κ n st){i j:Nat}(hi:i<n) (hj:j<n){Q:Option Bool→SortSt→Prop}(h:Q (some (decide (ks rk st i<ks rk st j))) st):wpS (model prog w) A E s (ltAt' i j) Q st:=by
 rw[ltAt'_eq]
 refine wpS_bind (wpS_get ?_)
 have hi:i<(arrOf st).size:=by rw[t.z];exact hi
 have hj:j<(arrOf st).size:=by rw[t.z];exact hj
 refine wpS_bind (Xs hi (wpS_bind (Xs hj (zlD C t.k (t.i.at hi) (t.i.at hj) ?_))))
 rw[XD (rk:=rk) hi,XD (rk:=rk) hj]
 exact h
structure Od (rk:Value→Int) (it T:List Keyed) (κ:SortKind) (n:Nat) (p:Array (Nat×Nat×Nat)) (lo:Nat) (f:Nat→Int) (st:SortSt):Prop where
 t:TB it T κ n st
 p:pendingOf st=p
 l:∀ i,i<lo→ks rk st i=f i
variable {p:Array (Nat×Nat×Nat)}{lo:Nat}{f:Nat→Int}
theorem t_rev {st:SortSt}(o:Od rk it T κ n p lo f st){i j:Nat}(hi:lo≤i) (hj:j≤n){Q:Unit→SortSt→Prop}(h:∀ st',Od rk it T κ n p lo f st'→(∀ k,ks rk st' k=if i≤k∧k<j then ks rk st (i+j-1-k) else ks rk st k)→Q () st'):wpS (model prog w) A E s (reverseSlice' i j) Q st:=by
 rw[reverseSlice'_eq]
 have hk:∀ k,ks rk (setArr st (mirror (arrOf st) i j ((j-i)/2))) k=if i≤k∧k<j then ks rk st (i+j-1-k) else ks rk st k:=fun k=>by
  have e:=getElem?_mirror_all (xs:=arrOf st) (i:=i) (j:=j) (by rw[o.t.z];exact hj) k
  by_cases q:i≤k∧k<j
  ·rw[if_pos q] at e ⊢
   exact ZZ e
  ·rw[if_neg q] at e ⊢
   exact ZZ e
 refine wpS_modify (h _ ⟨o.t.perm (mirror_perm _ _ _ _),o.p,fun k hk'=>?_⟩ hk)
 rw[hk k,if_neg (by omega)]
 exact o.l k hk'
theorem t_move {st:SortSt}(o:Od rk it T κ n p lo f st){i j:Nat}(hj:lo≤j) (hji:j≤i) (hi:i<n){Q:Unit→SortSt→Prop}(h:∀ st',Od rk it T κ n p lo f st'→(∀ k,ks rk st' k=if k=j then ks rk st i else if j<k∧k≤i then ks rk st (k-1) else ks rk st k)→Q () st'):wpS (model prog w) A E s (moveDown' i j) Q st:=by
 rw[moveDown'_eq]
 have hk:∀ k,ks rk (setArr st (bubble (arrOf st) i (i-j))) k=if k=j then ks rk st i else if j<k∧k≤i then ks rk st (k-1) else ks rk st k:=fun k=>by
  have e:=getElem?_bubble (xs:=arrOf st) (src:=i) (by rw[o.t.z];exact hi) (i-j) (by omega) k
  rw[show i-(i-j)=j by omega] at e
  by_cases q:k=j
  ·rw[if_pos q] at e ⊢
   exact ZZ e
  ·rw[if_neg q] at e ⊢
   by_cases q2:j<k∧k≤i
   ·rw[if_pos q2] at e ⊢
    exact ZZ e
   ·rw[if_neg q2] at e ⊢
    exact ZZ e
 refine wpS_modify (h _ ⟨o.t.perm (bubble_perm _ _ _),o.p,fun k hk'=>?_⟩ hk)
 rw[hk k,if_neg (by omega),if_neg (by omega)]
 exact o.l k hk'
theorem zci (C:Cmp prog w A s it κ rk){st:SortSt}(o:Od rk it T κ n p lo f st){m ok:Nat}(hm:lo+m≤n) (hok:ok≤m) (hm1:1≤m) (sg:Sg rk st lo (lo+ok)){Q:Bool→SortSt→Prop}(h:∀ st',Od rk it T κ n p lo f st'→Sg rk st' lo (lo+m)→Q true st'):wpS (model prog w) A E s (binarySort' lo m ok) Q st:=by
 rw[binarySort'_eq]
 refine wpS_bind (wpS_mono (wpS_forRange (I:=fun k c st'=>c=(none,())∧Od rk it T κ n p lo f st'∧Sg rk st' lo (lo+k)) (Q:=fun c st'=>c=(none,())∧Od rk it T κ n p lo f st'∧Sg rk st' lo (lo+m)) ?_ ?_ ⟨rfl,o,?_⟩) ?_)
 ·rintro k c st1 hk1 hk ⟨rfl,o1,sg1⟩
  dsimp only
  refine wpS_bind (wpS_mono (wpS_forRange (I:=fun jj c st'=>st'=st1∧∃ l r,c=(none,l,r)∧l≤r∧r≤k∧r≤l+(k-jj)∧(∀ i,i<l→ks rk st1 (lo+i)≤ks rk st1 (lo+k))∧(∀ i,r≤i→i<k→ks rk st1 (lo+k)≤ks rk st1 (lo+i))) (Q:=fun c st'=>st'=st1∧∃ l r,c=(none,l,r)∧l≤k∧(∀ i,i<l→ks rk st1 (lo+i)≤ks rk st1 (lo+k))∧(∀ i,l≤i→i<k→ks rk st1 (lo+k)≤ks rk st1 (lo+i))) ?_ ?_ ⟨rfl,_,_,rfl,by omega,Nat.le_refl _,by omega,fun i hi=>by omega,fun i h1 h2=>by omega⟩) ?_)
  ·rintro j c st2 _ hj ⟨rfl,l,r,rfl,hlr,hr,hf,g1,g2⟩
   dsimp only
   by_cases q:l≥r
   ·rw[if_pos q]
    exact wpS_pure ⟨rfl,_,_,rfl,by omega,g1,fun i h1 h2=>g2 i (by omega) h2⟩
   ·rw[if_neg q]
    refine wpS_bind (t_ltAt C o1.t (by omega) (by omega) ?_)
    by_cases z:ks rk st2 (lo+k)<ks rk st2 (lo+(l+r)/2)
    ·rw[decide_eq_true z]
     refine wpS_pure ⟨rfl,_,_,rfl,by omega,by omega,by omega,g1,fun i h1 h2=>?_⟩
     have:=sg1 (lo+(l+r)/2) (lo+i) (by omega) (by omega) (by omega)
     omega
    ·rw[decide_eq_false z]
     refine wpS_pure ⟨rfl,_,_,rfl,by omega,by omega,by omega,fun i h1=>?_,g2⟩
     have:=sg1 (lo+i) (lo+(l+r)/2) (by omega) (by omega) (by omega)
     omega
  ·rintro c st2 ⟨rfl,l,r,rfl,hlr,hr,hf,g1,g2⟩
   have e:max 0 k=k:=by omega
   rw[e] at hf
   exact⟨rfl,_,_,rfl,by omega,g1,fun i h1 h2=>g2 i (by omega) h2⟩
  ·rintro c st2 ⟨rfl,l,r,rfl,hl,g1,g2⟩
   dsimp only
   refine wpS_bind (t_move o1 (by omega) (by omega) (by omega) fun st3 o3 e3=>wpS_pure ⟨rfl,o3,fun i j h1 h2 h3=>?_⟩)
   rw[e3 i,e3 j]
   have ge:∀ x,lo≤x→x<lo+l→ks rk st2 x≤ks rk st2 (lo+k):=fun x a1 a2=>by
    have:=g1 (x-lo) (by omega)
    rw[show lo+(x-lo)=x by omega] at this
    exact this
   have le:∀ x,lo+l≤x→x<lo+k→ks rk st2 (lo+k)≤ks rk st2 x:=fun x a1 a2=>by
    have:=g2 (x-lo) (by omega) (by omega)
    rw[show lo+(x-lo)=x by omega] at this
    exact this
   by_cases c1:i=lo+l
   ·rw[if_pos c1]
    by_cases c2:j=lo+l
    ·rw[if_pos c2];exact Int.le_refl _
    ·rw[if_neg c2,if_pos (by omega)]
     exact le (j-1) (by omega) (by omega)
   ·rw[if_neg c1]
    by_cases c3:lo+l<i∧i≤lo+k
    ·rw[if_pos c3,if_neg (by omega),if_pos (by omega)]
     exact sg1 _ _ (by omega) (by omega) (by omega)
    ·rw[if_neg c3]
     by_cases c2:j=lo+l
     ·rw[if_pos c2]
      exact ge i h1 (by omega)
     ·rw[if_neg c2]
      by_cases c4:lo+l<j∧j≤lo+k
      ·rw[if_pos c4]
       exact sg1 _ _ h1 (by omega) (by omega)
      ·rw[if_neg c4]
       exact sg1 _ _ h1 h2 (by omega)
 ·rintro c st' ⟨rfl,o1,sg1⟩
  refine⟨rfl,o1,?_⟩
  rw[show max (max ok 1) m=m by omega] at sg1
  exact sg1
 ·intro i j h1 h2 h3
  by_cases q:ok=0
  ·have:i=j:=by omega
   rw[this]
   exact Int.le_refl _
  ·exact sg i j h1 h2 (by omega)
 ·rintro c st1 ⟨rfl,o1,sg1⟩
  exact wpS_pure (h st1 o1 sg1)
def Dn (rk:Value→Int) (st:SortSt) (lo m g:Nat):Prop:=(∀ i j,lo≤i→i≤j→j<lo+m→ks rk st j≤ks rk st i)∧g+1≤m∧∀ i,lo+m≤i+g+1→i<lo+m→ks rk st i=ks rk st (lo+m-1)
theorem zgF (C:Cmp prog w A s it κ rk){st:SortSt}(o:Od rk it T κ n p lo f st){m k:Nat}(hm:lo+m≤n) (hk1:1≤k) (hk:k≤m) (sg:Sg rk st lo (lo+k)){c0:Option (Option Nat)×Nat}(hc:c0=(none,k)){g:Nat→Option (Option Nat)×Nat→StateT SortSt Sem (ForInStep (Option (Option Nat)×Nat))}
  (hg:∀ (x i:Nat) (R:ForInStep (Option (Option Nat)×Nat)→SortSt→Prop),1≤i→i<m→(ks rk st (lo+i)<ks rk st (lo+i-1)→R (.done (none,i)) st)→(¬ ks rk st (lo+i)<ks rk st (lo+i-1)→R (.yield (none,i+1)) st)→wpS (model prog w) A E s (g x (none,i)) R st){Q:Option (Option Nat)×Nat→SortSt→Prop}
  (h:∀ j,k≤j→j≤m→Sg rk st lo (lo+j)→(j=m∨ks rk st (lo+j)<ks rk st (lo+j-1))→Q (none,j) st):wpS (model prog w) A E s (forIn [k:m] c0 g) Q st:=by
 subst hc
 refine wpS_mono (wpS_forRange (I:=fun i c st'=>st'=st∧c=(none,i)∧Sg rk st lo (lo+i)) (Q:=fun c st'=>st'=st∧∃ j,c=(none,j)∧k≤j∧j≤m∧Sg rk st lo (lo+j)∧(j=m∨ks rk st (lo+j)<ks rk st (lo+j-1))) ?_ ?_ ⟨rfl,rfl,sg⟩) ?_
 ·rintro i c st1 hi1 hi ⟨rfl,rfl,sg1⟩
  refine hg i i _ (by omega) hi (fun z=>⟨rfl,i,rfl,hi1,by omega,sg1,.inr z⟩) fun z=>⟨rfl,rfl,fun a b h1 h2 h3=>?_⟩
  by_cases e:b=lo+i
  ·subst e
   by_cases e2:a=lo+i
   ·subst e2;exact Int.le_refl _
   ·have:=sg1 a (lo+i-1) h1 (by omega) (by omega)
    omega
  ·exact sg1 a b h1 h2 (by omega)
 ·rintro c st1 ⟨rfl,rfl,sg1⟩
  rw[show max k m=m by omega] at sg1 ⊢
  exact⟨rfl,m,rfl,hk,Nat.le_refl _,sg1,.inl rfl⟩
 ·rintro c st1 ⟨rfl,j,rfl,h1,h2,h3,h4⟩
  exact h j h1 h2 h3 h4
theorem jn3 {α:Type}{H:α→Prop}{G:Prop}(h:∃ P:α→Prop,(∀ m,H m→P m)∧((∀ m,H m→P m)→G)):G:=by
 obtain⟨P,J,k⟩:=h
 exact k J
theorem XU (C:Cmp prog w A s it κ rk){st:SortSt}(o:Od rk it T κ n p lo f st){m:Nat}(h1:1≤m) (hm:lo+m≤n){Q:Option Nat→SortSt→Prop}(h:∀ k st',1≤k→k≤m→Od rk it T κ n p lo f st'→Sg rk st' lo (lo+k)→Q (some k) st'):wpS (model prog w) A E s (countRun' lo m) Q st:=by
 rw[countRun'_eq]
 refine wpS_bind (zgF C o hm (Nat.le_refl _) h1 (fun i j a b c=>by rw[show i=j by omega];exact Int.le_refl _) rfl (fun x i R i1 i2 y1 y2=>wpS_bind (t_ltAt C o.t (by omega) (by omega) (by
  dsimp only
  by_cases z:ks rk st (lo+i)<ks rk st (lo+i-1)
  ·rw[decide_eq_true z]
   exact wpS_pure (y1 z)
  ·rw[decide_eq_false z]
   exact wpS_pure (y2 z)))) fun k k1 k2 sg k3=>?_)
 dsimp only
 by_cases q:(k == m)=true
 ·rw[if_pos q]
  exact wpS_pure (h k st k1 k2 o sg)
 rw[if_neg q]
 have q:k≠m:=fun z=>q (by simp[z])
 have k3:ks rk st (lo+k)<ks rk st (lo+k-1):=k3.resolve_left q
 refine jn3 (H:=fun st2=>Od rk it T κ n p lo f st2∧Dn rk st2 lo (k+1) 0) ?_
 apply Exists.intro
 apply And.intro
 case right =>
  intro J
  by_cases qk:k>1
  ·rw[if_pos qk]
   refine wpS_bind (t_ltAt C o.t (by omega) (by omega) ?_)
   by_cases z:ks rk st lo<ks rk st (lo+k-1)
   ·rw[decide_eq_true z]
    exact wpS_pure (h k st k1 k2 o sg)
   ·rw[decide_eq_false z]
    simp only[Bool.false_eq_true,if_false]
    refine wpS_bind (t_rev o (by omega) (by omega) fun st2 o2 e2=>J st2 ⟨o2,fun i j a1 a2 a3=>?_,by omega,fun i a1 a2=>by rw[show i=lo+(k+1)-1 by omega]⟩)
    have eq:∀ x,lo≤x→x<lo+k→ks rk st x=ks rk st lo:=fun x b1 b2=>by
     have c1:=sg lo x (Nat.le_refl _) b1 b2
     have c2:=sg x (lo+k-1) b1 (by omega) (by omega)
     omega
    have eq2:∀ x,lo≤x→x<lo+k→ks rk st2 x=ks rk st lo:=fun x b1 b2=>by
     rw[e2 x,if_pos ⟨b1,b2⟩]
     exact eq _ (by omega) (by omega)
    have e4:ks rk st2 (lo+k)=ks rk st (lo+k):=by rw[e2,if_neg (by omega)]
    have e5:=eq (lo+k-1) (by omega) (by omega)
    by_cases c:j=lo+k
    ·subst c
     by_cases c2:i=lo+k
     ·subst c2;exact Int.le_refl _
     ·rw[e4,eq2 i a1 (by omega)]
      omega
    ·rw[eq2 j (by omega) (by omega),eq2 i a1 (by omega)]
     exact Int.le_refl _
  ·rw[if_neg qk]
   have:k=1:=by omega
   subst this
   refine J st ⟨o,fun i j a1 a2 a3=>?_,by omega,fun i a1 a2=>by rw[show i=lo+(1+1)-1 by omega]⟩
   rcases Nat.lt_or_eq_of_le a2 with c | c
   ·rw[show i=lo by omega,show j=lo+1 by omega]
    rw[Nat.add_sub_cancel] at k3
    omega
   ·subst c;exact Int.le_refl _
 case left =>
  intro st2 ⟨o2,d2⟩
  refine wpS_bind (wpS_lift (wpAny_rule ⟨rfl,?_⟩))
  refine wpS_bind (wpS_mono (wpS_forRange (I:=fun i c st'=>Od rk it T κ n p lo f st'∧∃ g,c=(none,i,g)∧Dn rk st' lo i g) (Q:=fun c st'=>Od rk it T κ n p lo f st'∧∃ j g,c=(none,j,g)∧k+1≤j∧j≤m∧Dn rk st' lo j g) ?_ ?_ ⟨o2,_,rfl,d2⟩) ?_)
  ·rintro i c st3 hi1 hi ⟨o3,g,rfl,⟨d1,d2,d3⟩⟩
   dsimp only
   refine wpS_bind (t_ltAt C o3.t (by omega) (by omega) ?_)
   by_cases z:ks rk st3 (lo+i)<ks rk st3 (lo+i-1)
   ·rw[decide_eq_true z]
    simp only[if_true]
    by_cases qg:g>0
    ·rw[if_pos qg]
     refine wpS_bind (t_rev o3 (by omega) (by omega) fun st4 o4 e4=>wpS_pure ⟨o4,_,rfl,?_⟩)
     have same:∀ x,lo≤x→x<n→ks rk st4 x=ks rk st3 x:=fun x b1 b2=>by
      rw[e4 x]
      by_cases c:lo+i-(g+1)≤x∧x<lo+i
      ·rw[if_pos c,d3 (lo+i-(g+1)+(lo+i)-1-x) (by omega) (by omega),d3 x (by omega) (by omega)]
      ·rw[if_neg c]
     refine⟨fun a b a1 a2 a3=>?_,by omega,fun x a1 a2=>by rw[show x=lo+(i+1)-1 by omega]⟩
     rw[same a a1 (by omega),same b (by omega) (by omega)]
     by_cases c:b=lo+i
     ·subst c
      by_cases c2:a=lo+i
      ·subst c2;exact Int.le_refl _
      ·have:=d1 a (lo+i-1) a1 (by omega) (by omega)
       omega
     ·exact d1 a b a1 a2 (by omega)
    ·rw[if_neg qg]
     refine wpS_pure ⟨o3,_,rfl,fun a b a1 a2 a3=>?_,by omega,fun x a1 a2=>by rw[show x=lo+(i+1)-1 by omega]⟩
     by_cases c:b=lo+i
     ·subst c
      by_cases c2:a=lo+i
      ·subst c2;exact Int.le_refl _
      ·have:=d1 a (lo+i-1) a1 (by omega) (by omega)
       omega
     ·exact d1 a b a1 a2 (by omega)
   ·rw[decide_eq_false z]
    simp only[Bool.false_eq_true,if_false]
    refine wpS_bind (t_ltAt C o3.t (by omega) (by omega) ?_)
    by_cases z2:ks rk st3 (lo+i-1)<ks rk st3 (lo+i)
    ·rw[decide_eq_true z2]
     exact wpS_pure ⟨o3,_,_,rfl,hi1,by omega,d1,d2,d3⟩
    ·rw[decide_eq_false z2]
     refine wpS_pure ⟨o3,_,rfl,fun a b a1 a2 a3=>?_,by omega,fun x a1 a2=>?_⟩
     ·by_cases c:b=lo+i
      ·subst c
       by_cases c2:a=lo+i
       ·subst c2;exact Int.le_refl _
       ·have:=d1 a (lo+i-1) a1 (by omega) (by omega)
        omega
      ·exact d1 a b a1 a2 (by omega)
     ·rw[show lo+(i+1)-1=lo+i by omega]
      by_cases c:x=lo+i
      ·rw[c]
      ·have:=d3 x (by omega) (by omega)
       omega
  ·rintro c st3 ⟨o3,g,rfl,d3⟩
   rw[show max (k+1) m=m by omega] at d3 ⊢
   exact⟨o3,_,_,rfl,by omega,Nat.le_refl _,d3⟩
  ·rintro c st3 ⟨o3,j,g,rfl,j1,j2,d3⟩
   dsimp only
   refine jn3 (H:=fun st4=>Od rk it T κ n p lo f st4∧∀ i j',lo≤i→i≤j'→j'<lo+j→ks rk st4 j'≤ks rk st4 i) ?_
   apply Exists.intro
   apply And.intro
   case right =>
    intro J
    by_cases qg:g>0
    ·rw[if_pos qg]
     refine wpS_bind (t_rev o3 (by have:=d3.2.1;omega) (by omega) fun st4 o4 e4=>J st4 ⟨o4,fun a b a1 a2 a3=>?_⟩)
     have same:∀ x,lo≤x→x<n→ks rk st4 x=ks rk st3 x:=fun x b1 b2=>by
      have:=d3.2.1
      rw[e4 x]
      by_cases c:lo+j-(g+1)≤x∧x<lo+j
      ·rw[if_pos c,d3.2.2 (lo+j-(g+1)+(lo+j)-1-x) (by omega) (by omega),d3.2.2 x (by omega) (by omega)]
      ·rw[if_neg c]
     rw[same a a1 (by omega),same b (by omega) (by omega)]
     exact d3.1 a b a1 a2 a3
    ·rw[if_neg qg]
     exact J st3 ⟨o3,d3.1⟩
   case left =>
    intro st4 ⟨o4,d4⟩
    refine wpS_bind (t_rev o4 (by omega) (by omega) fun st5 o5 e5=>?_)
    have sg5:Sg rk st5 lo (lo+j):=fun a b a1 a2 a3=>by
     rw[e5 a,e5 b,if_pos ⟨a1,by omega⟩,if_pos ⟨by omega,a3⟩]
     exact d4 _ _ (by omega) (by omega) (by omega)
    refine wpS_bind (zgF C o5 hm (by omega) j2 sg5 rfl (fun x i R i1 i2 y1 y2=>wpS_bind (t_ltAt C o5.t (by omega) (by omega) (by
     dsimp only
     by_cases z:ks rk st5 (lo+i)<ks rk st5 (lo+i-1)
     ·rw[decide_eq_true z]
      exact wpS_pure (y1 z)
     ·rw[decide_eq_false z]
      exact wpS_pure (y2 z)))) fun k' b1 b2 b3 b4=>?_)
    exact wpS_pure (h k' st5 (by omega) b2 o5 b3)
theorem Sg.sa {st:SortSt}(h:Sg rk st 0 (arrOf st).size):SA rk (arrOf st).toList:=SA.of fun i j hij hj=>h i j (Nat.zero_le _) (by omega) (by simpa using hj)
end
end Sco
namespace Sco
open PySem PyProof.Rows PySem.W
section
variable {prog:Program}{w:World}{A:Around}{E:Value→Shared→Prop}{s:Shared}{it T:List Keyed}{κ:SortKind}{n:Nat}{rk:Value→Int}
theorem ZW:∀ z,z≤63→2≤z→minRun' z z 0=z:=by decide
theorem V4 (C:Cmp prog w A s it κ rk){st:SortSt}(t:TB it T κ n st) (hp:pendingOf st = #[]) (h2:2≤n) (h66:n≤63){Q:Unit→SortSt→Prop}(h:∀ st',TB it T κ n st'→Sg rk st' 0 n→Q () st'):wpS (model prog w) A E s sortRuns' Q st:=by
 have r1:=ZW n h66 h2
 rw[sortRuns'_eq]
 refine wpS_bind (wpS_get ?_)
 rw[t.z]
 dsimp only
 refine wpS_bind (wpS_mono (wpS_forRange (I:=fun i c st'=>TB it T κ n st'∧∃ lo,c=(none,lo)∧i≤lo∧((lo=0∧pendingOf st' = #[])∨(lo=n∧Sg rk st' 0 n∧∃ p1,pendingOf st' = #[(0,n,p1)])))
  (Q:=fun c st'=>TB it T κ n st'∧∃ lo,c=(none,lo)∧Sg rk st' 0 n∧∃ p1,pendingOf st' = #[(0,n,p1)]) ?_ ?_ ⟨t,0,rfl,Nat.le_refl _,.inl ⟨rfl,hp⟩⟩) ?_)
 ·rintro i c st1 _ hi ⟨t1,lo,rfl,hil,hc⟩
  dsimp only
  rcases hc with⟨rfl,hpd⟩ | ⟨rfl,s1,hpd⟩
  ·rw[if_neg (by omega)]
   refine wpS_bind (XU (p:=pendingOf st1) (f:=ks rk st1) C ⟨t1,rfl,fun _ _=>rfl⟩ (by omega) (by omega) fun fd st0 f1 f2 o0 s0=>?_)
   dsimp only
   rw[Nat.zero_add] at s0
   rw[r1]
   by_cases q2:fd<n
   ·rw[if_pos q2]
    refine wpS_bind (wpS_lift (wpAny_rule ⟨rfl,?_⟩))
    refine wpS_bind (zci C o0 (by omega) (by omega) (by omega) (by rw[Nat.zero_add];exact s0) fun st2 o2 s2=>?_)
    simp only[Bool.not_true,Bool.false_eq_true,if_false]
    refine wpS_bind (wpS_get ?_)
    rw[o2.p,hpd]
    refine wpS_bind (wpS_modify (wpS_pure ⟨⟨o2.t.z,o2.t.p,o2.t.i,o2.t.k,o2.t.f⟩,_,rfl,by omega,.inr ⟨by omega,?_,0,?_⟩⟩))
    ·have e:0+min (n-0) n=n:=by omega
     rw[e] at s2
     exact s2
    ·show(pendingOf st2).push _=_
     rw[o2.p,hpd,Nat.sub_zero,Nat.min_self]
     rfl
   ·rw[if_neg q2]
    have ef:fd=n:=by omega
    refine wpS_bind (wpS_get ?_)
    rw[o0.p,hpd]
    refine wpS_bind (wpS_modify (wpS_pure ⟨⟨o0.t.z,o0.t.p,o0.t.i,o0.t.k,o0.t.f⟩,_,rfl,by omega,.inr ⟨by omega,by rw[ef] at s0;exact s0,0,?_⟩⟩))
    show(pendingOf st0).push _=_
    rw[o0.p,hpd,ef]
    rfl
  ·rw[if_pos (Nat.le_refl _)]
   exact wpS_pure ⟨t1,_,rfl,s1,hpd⟩
 ·rintro c st1 ⟨t1,lo,rfl,hil,hc⟩
  rcases hc with⟨l0,_⟩ | ⟨_,h⟩
  ·omega
  ·exact⟨t1,lo,rfl,h⟩
 ·rintro c st1 ⟨t1,lo,rfl,sf,p1,hpd⟩
  dsimp only
  refine wpS_bind (wpS_mono (wpS_forRange (I:=fun i c st'=>st'=st1∧c=(none,())) (Q:=fun c st'=>st'=st1∧c=(none,())) ?_ (fun _ _ h=>h) ⟨rfl,rfl⟩) ?_)
  ·rintro i c st2 _ hi ⟨rfl,rfl⟩
   refine wpS_bind (wpS_get ?_)
   rw[hpd]
   exact wpS_pure ⟨rfl,rfl⟩
  ·rintro c st2 ⟨rfl,rfl⟩
   exact wpS_pure (h st2 t1 sf)
end
def PrV (h:Heap) (v:Value) (p:Int×Int):Prop:=∃ x o t u n,v=.ref x∧h.get? x=some o∧o.cls=.type "tuple" ∧ o.data=.seq #[.int p.1 t,.int p.2 u] n
def rkP (p:Int×Int):Int:=p.1*1000+p.2
section
variable {prog:Program}{w:World}{A:Around}{E:Value→Shared→Prop}{s:Shared}
theorem zdp {x y:Value}{p q:Int×Int}(hx:PrV s.heap x p) (hy:PrV s.heap y q) (bp:0≤p.2∧p.2<1000) (bq:0≤q.2∧q.2<1000){Q:Bool→Shared→Prop}(h:Q (decide (rkP p<rkP q)) s):wpAny (model prog w) A (keyLt' (tuples' true) x y) Q E s:=by
 obtain⟨x,o,t,u,n,rfl,ho,_,hd⟩:=hx
 obtain⟨y,o',t',u',n',rfl,ho',_,hd'⟩:=hy
 unfold rkP at h
 refine kat_lt ho hd ho' hd' (kat_cons (wpAny_eqBool_int ?_))
 by_cases e1:p.1=q.1
 ·refine kat_go (fun _=>kat_yes (kat_cons (wpAny_eqBool_int ?_))) fun z=>absurd e1 (by simpa using z)
  by_cases e2:p.2=q.2
  ·refine kat_go (fun _=>kat_yes (kat_nil ?_)) fun z=>absurd e2 (by simpa using z)
   have e:decide (p.1*1000+p.2<q.1*1000+q.2)=false:=decide_eq_false (by omega)
   rw[e] at h
   exact h
  ·refine kat_go (fun z=>absurd (by simpa using z) e2) fun _=>kat_no (kat_one _ _ (lt_int ?_))
   have e:decide (p.1*1000+p.2<q.1*1000+q.2)=decide (p.2<q.2):=decide_eq_decide.mpr (by omega)
   rw[e] at h
   exact h
 ·refine kat_go (fun z=>absurd (by simpa using z) e1) fun _=>kat_no (oneLt_int ?_)
  have e:decide (p.1*1000+p.2<q.1*1000+q.2)=decide (p.1<q.1):=decide_eq_decide.mpr (by omega)
  rw[e] at h
  exact h
theorem ZH:∀ {vs:List Value},(∀ v∈vs,(∃ p,PrV s.heap v p))→∃ fs:List Value,KatTups s.heap vs fs∧fs.length=vs.length∧∀ f∈fs,∃ i t,f=.int i t
 |[],_=>⟨[],.nil,rfl,fun f hf=>by cases hf⟩
 |v::vs,h=>by
  obtain⟨fs,k,hl,hi⟩:=ZH (vs:=vs) fun v hv=>h v (List.mem_cons_of_mem _ hv)
  obtain⟨⟨i,j⟩,x,o,t,u,n,rfl,ho,hc,hd⟩:=h v List.mem_cons_self
  refine⟨.int i t::fs,.cons ho hc hd rfl k,by simp[hl],fun f hf=>?_⟩
  rcases List.mem_cons.mp hf with rfl | hf
  ·exact⟨i,t,rfl⟩
  ·exact hi f hf
theorem WY {vs:List Value}(h:∀ v∈vs,(∃ p,PrV s.heap v p)) (hne:0<vs.length){Q:SortKind→Shared→Prop}(q:Q (tuples' true) s):wpAny (model prog w) A (keyKind' vs.toArray) Q E s:=by
 obtain⟨fs,k,hl,hi⟩:=ZH h
 refine kat_kind (T:=.type "int") k (by omega) (fun v hv=>?_) rfl q
 obtain⟨i,t,rfl⟩:=hi v hv
 exact Looks.of_pure rfl
theorem uG {vs:List Value}{p:Keyed}(h:p∈vs.toArray.zip vs.toArray):p.1∈vs∧p.2∈vs:=by
 have h:p∈(vs.toArray.zip vs.toArray).toList:=Array.mem_def.mp h
 rw[Array.toList_zip] at h
 obtain⟨a,b⟩:=p
 exact List.of_mem_zip h
theorem PrV.keeps {h h':Heap}{v:Value}{p:Int×Int}(q:PrV h v p) (k:∀ b o,h.get? b=some o→o.cls=.type "tuple" → h'.get? b=some o):PrV h' v p:=by
 obtain⟨x,o,t,u,n,e,ho,hc,hd⟩:=q
 exact⟨x,o,t,u,n,e,k _ _ ho hc,hc,hd⟩
theorem Zj:∀ vs:List Value,(vs.toArray.zip vs.toArray).toList.map (fun p:Keyed=>p.2)=vs:=fun vs=>by
 rw[Array.toList_zip]
 exact List.map_snd_zip (Nat.le_refl _)
theorem uh {vs:List Value}{p:Keyed}(h:p∈(vs.toArray.zip vs.toArray).toList):p.1=p.2:=by
 rw[Array.toList_zip] at h
 obtain⟨i,hi,e⟩:=List.getElem_of_mem h
 rw[List.getElem_zip] at e
 rw[← e]
theorem WX {vs:List Value}{val:Value→Int×Int}(h:∀ v∈vs,PrV s.heap v (val v)) (hb:∀ v∈vs,0≤(val v).2∧(val v).2<1000) (h2:2≤vs.length) (h66:vs.length≤63){Q:Unit→SortSt→Prop}
  (q:∀ st':SortSt,failedOf st'=none→((arrOf st').map (·.2)).toList.Perm vs→((arrOf st').map (·.2)).toList.Pairwise (fun x y=>rkP (val x)≤rkP (val y))→Q () st') :
  wpS (model prog w) A E s sortRuns' Q (SortSt.mk' (tuples' true) (vs.toArray.zip vs.toArray) #[] 7 none):=by
 have hz:(vs.toArray.zip vs.toArray).size=vs.length:=by simp
 refine V4 (it:=(vs.toArray.zip vs.toArray).toList) (T:=(vs.toArray.zip vs.toArray).toList) (κ:=tuples' true) (n:=vs.length) (rk:=fun v=>rkP (val v)) (fun x hx y hy Q E hq=>?_) ⟨hz,List.Perm.refl _,fun x hx=>Array.mem_def.mp hx,rfl,rfl⟩ rfl h2 h66 fun st' t sg=>q st' t.f ?_ ?_
 ·have mx:=(uG (Array.mem_def.mpr hx)).1
  have my:=(uG (Array.mem_def.mpr hy)).1
  exact zdp (h _ mx) (h _ my) (hb _ mx) (hb _ my) hq
 ·rw[Array.toList_map]
  have:=t.p.map (fun p:Keyed=>p.2)
  rw[Zj] at this
  exact this
 ·rw[Array.toList_map,List.pairwise_map]
  have sa:SA (fun v=>rkP (val v)) (arrOf st').toList:=Sg.sa (by rw[t.z];exact sg)
  refine sa.imp_of_mem fun {x y} hx hy hxy=>?_
  rw[← uh (t.p.mem_iff.mp hx),← uh (t.p.mem_iff.mp hy)]
  exact hxy
theorem wM {a:Addr}{vs:List Value}{n:Nat}{P:PySem.Fin→Shared→Prop}(ho:s.heap.get? a=some (seqObj "list" vs.toArray n)){val:Value→Int×Int}(hp:∀ v∈vs,PrV s.heap v (val v)) (hb:∀ v∈vs,0≤(val v).2∧(val v).2<1000) (h66:vs.length≤63)
  (h:∀ o:Array Value,o.toList.Perm vs→o.toList.Pairwise (fun x y=>rkP (val x)≤rkP (val y))→P (.done (.ret .none)) { s with heap:=sortedHeap s.heap a vs o }):wpAny (model prog w) A (Builtin.«list.sort» ⟨[.ref a],[]⟩) P E s:=by
 have big:63≤sizeLine:=by decide
 have ha:=Heap.lt_size ho
 rw[list_sort_plain]
 refine wpAny_bind (listItems_at ho rfl (wpAny_bind (listUpdate_at ho rfl ?_ (by simp;omega) (Nat.zero_le _))))
 have o1:=get?_update_seq ho (fun _=>(#[]:Array Value))
 refine wpAny_bind (seqEpoch_at o1 rfl (wpAny_bind (wpAny_newTuple (wpAny_bind (wpAny_newList (wpAny_holding ?_) (Nat.zero_le _))) (by show vs.length≤_;omega))))
 generalize hH:Heap.push (Heap.push (s.heap.update a (Obj.mapSeq fun _=>(#[]:Array Value))) (seqObj "tuple" vs.toArray 0)) (seqObj "list" #[] 0)=H6
 have hs:∀ o:Array Value,sortedHeap s.heap a vs o=H6.update a (Obj.mapSeq fun _=>o):=fun o=>by rw[← hH];rfl
 have o6:=Heap.get?_push_of_some (seqObj "list" #[] 0) (Heap.get?_push_of_some (seqObj "tuple" vs.toArray 0) o1)
 rw[hH] at o6
 have hp6:∀ v∈vs,PrV H6 v (val v):=fun v hv=>(hp v hv).keeps fun b o e hc=>by
  have hb:a≠b:=fun z=>by
   rw[← z,ho] at e
   cases e
   have hc:Value.type "list" = .type "tuple" := hc
   injection hc with hc
   exact absurd hc (by decide)
  rw[← hH]
  refine Heap.get?_push_of_some _ (Heap.get?_push_of_some _ ?_)
  rw[Heap.get?_update_other _ _ hb]
  exact e
 have e6:({ s with heap:=Heap.push (Heap.push (s.heap.update a (Obj.mapSeq fun _=>(#[]:Array Value))) (seqObj "tuple" vs.toArray 0)) (seqObj "list" #[] 0) }:Shared)={ s with heap:=H6 }:=by rw[hH]
 refine(show wpAny (model prog w) A _ P E { s with heap:=H6 } from ?_)
 dsimp only
 have hz0:((vs.toArray.zip vs.toArray).map (fun p:Keyed=>p.2)).size=vs.length:=by simp
 by_cases q:vs.toArray.size<2
 ·rw[if_pos q,if_pos q]
  refine wpAny_bind (wpAny_pure ?_)
  rw[StateT.run_pure]
  refine wpAny_bind (wpAny_pure (wpAny_bind (seqEpoch_at o6 rfl (wpAny_bind (listUpdate_at o6 rfl ?_ (Nat.zero_le _) (by show((vs.toArray.zip vs.toArray).map (fun p:Keyed=>p.2)).size≤_;omega))))))
  simp only[bne_self_eq_false,Bool.false_eq_true,if_false]
  refine wpAny_pure ?_
  rw[← hs]
  have e:((vs.toArray.zip vs.toArray).map (fun p:Keyed=>p.2)).toList=vs:=by rw[Array.toList_map];exact Zj vs
  refine h _ (by rw[e]) ?_
  rw[e]
  have q:vs.length<2:=by simpa using q
  match vs,q with
  |[],_=>exact List.Pairwise.nil
  |[x],_=>exact List.pairwise_singleton _ _
 ·rw[if_neg q,if_neg q]
  have q:2≤vs.length:=by simp at q;omega
  refine wpAny_bind (WY (fun v hv=>⟨_,hp6 v hv⟩) (by omega) ?_)
  refine wpAny_bind (wpAny_mono (WX (s:={ s with heap:=H6 }) hp6 hb q h66 (Q:=fun _ st'=>failedOf st'=none∧((arrOf st').map (·.2)).toList.Perm vs∧((arrOf st').map (·.2)).toList.Pairwise (fun x y=>rkP (val x)≤rkP (val y))) fun st' a1 a2 a3=>⟨a1,a2,a3⟩) ?_ fun _ _ e=>e)
  rintro⟨⟨⟩,st'⟩ s' ⟨rfl,hf,hz,hm⟩
  have hz':((arrOf st').map (·.2)).size=vs.length:=by rw[← Array.length_toList,hz.length_eq]
  refine wpAny_bind (seqEpoch_at o6 rfl (wpAny_bind (listUpdate_at o6 rfl ?_ (Nat.zero_le _) (by show((arrOf st').map (·.2)).size≤_;omega))))
  rw[hf]
  simp only[bne_self_eq_false,Bool.false_eq_true,if_false]
  refine wpAny_pure ?_
  rw[← hs]
  exact h _ hz hm
theorem vv {l:Addr}{vs:List Value}{Q:Value→Shared→Prop}(hl:s.heap.IsList l vs.toArray){val:Value→Int×Int}(hp:∀ v∈vs,PrV s.heap v (val v)) (hb:∀ v∈vs,0≤(val v).2∧(val v).2<1000) (h66:vs.length≤63)
  (h:∀ o:Array Value,o.toList.Perm vs→o.toList.Pairwise (fun x y=>rkP (val x)≤rkP (val y))→Q (.ref (s.heap.objs.size+1)) { s with heap:=sortedAll s.heap vs o }):wpAny (model prog w) A (call (.builtin "sorted") [.ref l]) Q E s:=by
 have big:63≤sizeLine:=by decide
 refine Calls.call_function_entry kind_sorted plain_sorted entry_sorted (args_sorted1 _) ?_
 unfold Builtin.«sorted»
 refine wpAny_bind (m:=checkCount "sorted" 1 1 _) (wpAny_pure (wpAny_bind (collect_list hl (wpAny_bind (wpAny_newList ?_ (by show vs.length≤_;omega))) (by omega))))
 have hz:(Heap.update (Heap.push s.heap (seqObj "list" #[] 0)) s.heap.objs.size (Obj.mapSeq fun x=>x++vs.toArray)).objs.size=s.heap.objs.size+1:=(Heap.size_update _ _ _).trans (size_push' _ _)
 have hk:∀ b o,s.heap.get? b=some o→(Heap.push (Heap.update (Heap.push s.heap (seqObj "list" #[] 0)) s.heap.objs.size (Obj.mapSeq fun x=>x++vs.toArray)) (seqObj "list" vs.toArray 0)).get? b=some o:=fun b o e=>by
  refine Heap.get?_push_of_some _ ?_
  rw[Heap.get?_update_other _ _ (Nat.ne_of_gt (Heap.lt_size e))]
  exact Heap.get?_push_of_some _ e
 have ho:=Heap.get?_push_size (Heap.update (Heap.push s.heap (seqObj "list" #[] 0)) s.heap.objs.size (Obj.mapSeq fun x=>x++vs.toArray)) (o:=seqObj "list" vs.toArray 0) rfl
 refine(show wpAny _ _ _ _ _ { s with heap:=Heap.push (Heap.update (Heap.push s.heap (seqObj "list" #[] 0)) s.heap.objs.size (Obj.mapSeq fun x=>x++vs.toArray)) (seqObj "list" vs.toArray 0) } from ?_)
 rw[hz] at ho ⊢
 refine wpAny_bind (wpAny_holding (wpAny_call_entry slot_list_sort ⟨_,ho,rfl⟩ entry_list_sort ?_ (args_list_sort _)))
 refine wM ho (fun v hv=>(hp v hv).keeps fun b o e _=>hk b o e) hb h66 fun o z m=>⟨_,rfl,wpAny_pure ⟨_,rfl,h o z m⟩⟩
end
section
variable {X:Cx}
abbrev PT:=Addr×Int×Int
theorem ZJ {α β:Type}{f:α→β}:∀ {l m:List β},l.Perm m→∀ ps:List α,ps.map f=m→∃ qs:List α,qs.Perm ps∧qs.map f=l:=by
 intro l m h
 induction h with
 |nil =>
  intro ps e
  exact⟨ps,List.Perm.refl _,e⟩
 | @cons x l m _ ih =>
  intro ps e
  cases ps with
  |nil=>cases e
  |cons p ps =>
   rw[List.map_cons] at e
   injection e with e1 e2
   obtain⟨qs,h1,h2⟩:=ih ps e2
   exact⟨p::qs,h1.cons p,by rw[List.map_cons,h2,e1]⟩
 |swap x y l =>
  intro ps e
  match ps,e with
  |p::q::ps,e =>
   rw[List.map_cons,List.map_cons] at e
   injection e with e1 e2
   injection e2 with e2 e3
   exact⟨q::p::ps,List.Perm.swap _ _ _,by rw[List.map_cons,List.map_cons,e1,e2,e3]⟩
 |trans _ _ ih1 ih2 =>
  intro ps e
  obtain⟨qs,h1,h2⟩:=ih2 ps e
  obtain⟨rs,h3,h4⟩:=ih1 qs h2
  exact⟨rs,h3.trans h1,h4⟩
def vlH (H:Hp):Value→Int×Int
 |.ref a=>match H a with
  |some (.tup [.int i,.int j])=>(i,j)
  |_=>(0,0)
 |_=>(0,0)
def PsAt (H:Hp) (ps:List PT):Prop:=∀ p∈ps,H p.1=some (.tup [.int p.2.1,.int p.2.2])∧0≤p.2.2∧p.2.2<1000
theorem PsAt.vl {H:Hp}{ps:List PT}(h:PsAt H ps){p:PT}(hp:p∈ps):vlH H (.ref p.1)=p.2:=by
 show(match H p.1 with
  |some (.tup [.int i,.int j])=>(i,j)
  |_=>(0,0))=p.2
 rw[(h p hp).1]
theorem PsAt.prv {pins:List (Addr×Obj)}{σ:St}{H:Hp}{s:Shared}{ps:List PT}(I:Inv X pins σ H s) (h:PsAt H ps):∀ v∈ps.map (fun p=>Value.ref p.1),PrV s.heap v (vlH H v):=fun v hv=>by
 obtain⟨p,hp,rfl⟩:=List.mem_map.mp hv
 rw[h.vl hp]
 obtain⟨_,vs,rr,ob,e1,e2,n,e3⟩:=(show ObjOk X.prog X.w H s.heap p.1 (.tup [.int p.2.1,.int p.2.2]) from I.hok p.1 _ (h p hp).1)
 cases rr with
 |cons r1 rr =>
  cases rr with
  |cons r2 rr =>
   cases rr
   obtain⟨t1,rfl⟩:=r1
   obtain⟨t2,rfl⟩:=r2
   exact⟨p.1,ob,t1,t2,n,rfl,e1,e2,e3⟩
theorem wg:∀ {ps:List PT}{us:List Value},Vals (ps.map fun p=>V.ref p.1) us→us=ps.map fun p=>Value.ref p.1
 |[],_,h=>by cases h;rfl
 |p::ps,_,h=>by
  cases h with
  |cons r t =>
   cases r
   rw[List.map_cons,wg t]
theorem wk:∀ (ps:List PT),Vals (ps.map fun p=>V.ref p.1) (ps.map fun p=>Value.ref p.1)
 |[]=>.nil
 |p::ps=>.cons rfl (wk ps)
def Us (K:PySem.W.Frag):List V→Hp→VK→Prop:=fun xs H Q=>∃ (a:Addr) (ps:List PT),xs=[V.ref a]∧SqL K H a (ps.map fun p=>V.ref p.1)∧ps.length≤63∧PsAt H ps ∧
 ∀ (l:Addr) (qs:List PT),H l=none→qs.Perm ps→qs.Pairwise (fun x y=>rkP x.2≤rkP y.2)→Q (.ref l) (upd H l (.lst (qs.map fun p=>V.ref p.1)))
theorem vx {H:Hp}{ps:List PT}(h:PsAt H ps){o:Array Value}(po:o.toList.Perm (ps.map fun p=>Value.ref p.1)) (so:o.toList.Pairwise (fun x y=>rkP (vlH H x)≤rkP (vlH H y))):∃ qs:List PT,qs.Perm ps∧qs.Pairwise (fun x y=>rkP x.2≤rkP y.2)∧o.toList=qs.map fun p=>Value.ref p.1:=by
 obtain⟨qs,h1,h2⟩:=ZJ po ps rfl
 refine⟨qs,h1,?_,h2.symm⟩
 rw[← h2,List.pairwise_map] at so
 refine so.imp_of_mem fun {x y} hx hy hxy=>?_
 rw[h.vl (h1.mem_iff.mp hx),h.vl (h1.mem_iff.mp hy)] at hxy
 exact hxy
theorem call_sortX:xj X (.builtin "sorted") (Us X.K):=by
 intro pins s σ H xs us Q I r h
 obtain⟨a,ps,rfl,ha,h66,hy,q⟩:=h
 obtain⟨u,rfl,ru⟩:=r.one
 cases ru
 obtain⟨its,rv,p,hz⟩:=I.list ha
 have hl:=wg rv
 subst hl
 refine vv p.isList (hy.prv I) (fun v hv=>?_) (by rw[List.length_map];exact h66) fun o z m=>?_
 ·obtain⟨p,hp,rfl⟩:=List.mem_map.mp hv
  rw[hy.vl hp]
  exact(hy p hp).2
 ·obtain⟨qs,h1,h2,h3⟩:=vx hy z m
  have hn:H (s.heap.objs.size+1)=none:=I.hok.fresh (Nat.le_succ _)
  obtain⟨c,hc⟩:=sortedAll_at s.heap (ps.map fun p=>Value.ref p.1) o
  refine⟨.ref _,_,I.laid (a:=s.heap.objs.size+1) (o:=.lst (qs.map fun p=>V.ref p.1)) (t':=s.toks) (fun _ _ e=>sortedAll_old e) (Nat.le_succ _) ⟨by rw[List.length_map,h1.length_eq];rw[List.length_map] at hz;exact hz,o.toList,c,by rw[h3];exact wk qs,hc⟩,rfl,q _ qs hn h1 h2⟩
end
end Sco
end L2
namespace L2
open PySem PySem.Spec PyProof.Rows
def Zh (h:Heap) (d:Addr) (es:Array DictEntry) (ep:Nat):Prop:=∃ o,h.get? d=some o∧o.ExactDict∧o.data=.dict es ep
def VIt (h:Heap) (it d:Addr) (i n ep:Nat):Prop:=h.get? it=some { cls:=.type "dict_valueiterator",data:=.fields #[.ref d,.int i 0,.int n 0,.int ep 0] }
section
variable {prog:Program}{w:World}{A:Around}{E:Value→Shared→Prop}{s:Shared}
theorem XQ {it d:Addr}{i ep:Nat}{es:Array DictEntry}{e:DictEntry}{Q:PySem.Fin→Shared→Prop}(hi:VIt s.heap it d i es.size ep) (hd:Zh s.heap d es ep) (he:es[i]?=some e)
  (h:∀ h',VIt h' it d (i+1) es.size ep→Heap.SameBut it s.heap h'→Q (.done (.ret e.val)) { s with heap:=h' }):wpAny (model prog w) A (Builtin.«dict_valueiterator.__next__» ⟨[.ref it],[]⟩) Q E s:=by
 obtain⟨⟨c,dct,dat,sl⟩,ho,ex,hdat⟩:=hd
 cases hdat
 have hT:s.TypeIs (.ref it) "dict_valueiterator" := ⟨_,hi,rfl⟩
 refine wpAny_bind (m:=Builtin.Dict_items.slot0 "__next__" _) (wpAny_pure ?_)
 refine wpAny_bind ?_
 refine wpAny_bind ?_
 have z1:((es.size:Int) != (es.size:Int))=false:=by simp
 have z2:((ep:Int) != (ep:Int))=false:=by simp
 repeat (any_goals (first | assumption | (simp only[z1,z2,Bool.false_eq_true,if_false]) | wp_step))
 have z3:(if (i:Int)<0 then none else es[((i:Int)).toNat]?)=some e:=by
  rw[if_neg (by omega)]
  exact he
 rw[z3]
 refine wpAny_bind ?_
 refine wpAny_bind (m:=typeNameOfWhole (.ref it)) ?_
 repeat (any_goals (first | assumption | wp_step))
 refine h _ ((Heap.get?_update_self _ hi (by kernel_rfl)).trans (congrArg some ?_)) ⟨Heap.size_update _ _ _,fun b hb=>Heap.get?_update_ne _ _ _ _ hb⟩
 kernel_rfl
theorem VZ {it d:Addr}{ep:Nat}{es:Array DictEntry}{Q:PySem.Fin→Shared→Prop}(hh:A.handled=none) (hi:VIt s.heap it d es.size es.size ep) (hd:Zh s.heap d es ep)
  (h:∀ h' e,Heap.ExtBut it s.heap h'→(∃ o,h'.get? e=some o∧o.cls=.type "StopIteration")→E (.ref e) { s with heap:=h' }):wpAny (model prog w) A (Builtin.«dict_valueiterator.__next__» ⟨[.ref it],[]⟩) Q E s:=by
 obtain⟨⟨c,dct,dat,sl⟩,ho,ex,hdat⟩:=hd
 cases hdat
 have hT:s.TypeIs (.ref it) "dict_valueiterator" := ⟨_,hi,rfl⟩
 refine wpAny_bind (m:=Builtin.Dict_items.slot0 "__next__" _) (wpAny_pure ?_)
 refine wpAny_bind ?_
 refine wpAny_bind ?_
 have z1:((es.size:Int) != (es.size:Int))=false:=by simp
 have z2:((ep:Int) != (ep:Int))=false:=by simp
 repeat (any_goals (first | assumption | (simp only[z1,z2,Bool.false_eq_true,if_false]) | wp_step))
 have z3:(if (es.size:Int)<0 then none else es[((es.size:Int)).toNat]?)=none:=by
  rw[if_neg (by omega)]
  show es[es.size]?=none
  simp
 rw[z3]
 refine wpAny_bind ?_
 refine wpAny_bind (m:=typeNameOfWhole (.ref it)) ?_
 repeat (any_goals (first | assumption | wp_step))
 refine wpAny_raiseNew_none hh ?_
 refine h _ _ (fun b o hb e=>?_) ⟨_,Heap.get?_push_size _ rfl,rfl⟩
 exact Heap.get?_push_of_some _ (Heap.get?_push_of_some _ ((Heap.get?_update_ne _ _ _ _ hb).trans e))
theorem vo {it d:Addr}{i ep:Nat}{es:Array DictEntry}{e:DictEntry}{Q:Option Value→Shared→Prop}(hi:VIt s.heap it d i es.size ep) (hd:Zh s.heap d es ep) (he:es[i]?=some e)
  (h:∀ h',VIt h' it d (i+1) es.size ep→Heap.SameBut it s.heap h'→Q (some e.val) { s with heap:=h' }):wpAny (model prog w) A (pyNext (.ref it)) Q E s:=by
 have hT:s.TypeIs (.ref it) "dict_valueiterator" := ⟨_,hi,rfl⟩
 unfold pyNext
 exact wpAny_bind (wpAny_attempt (wpAny_callSpecial?_slot (name:=Str.ofString "__next__") hT F.slot_dict_valueiterator_next (wpAny_call_entry F.slot_dict_valueiterator_next hT F.entry_dict_valueiterator_next (XQ hi hd he fun h' a1 a2=>⟨_,rfl,wpAny_pure (h h' a1 a2)⟩) (F.args_dict_valueiterator_next_1 _))))
theorem ul {it d:Addr}{ep:Nat}{es:Array DictEntry}{Q:Option Value→Shared→Prop}(hh:A.handled=none) (hi:VIt s.heap it d es.size es.size ep) (hd:Zh s.heap d es ep)
  (h:∀ h',Heap.ExtBut it s.heap h'→Q none { s with heap:=h' }):wpAny (model prog w) A (pyNext (.ref it)) Q E s:=by
 have hT:s.TypeIs (.ref it) "dict_valueiterator" := ⟨_,hi,rfl⟩
 unfold pyNext
 refine wpAny_bind (wpAny_attempt (wpAny_callSpecial?_slot (name:=Str.ofString "__next__") hT F.slot_dict_valueiterator_next (wpAny_call_entry F.slot_dict_valueiterator_next hT F.entry_dict_valueiterator_next (VZ hh hi hd fun h' e hk he=>?_) (F.args_dict_valueiterator_next_1 _))))
 obtain⟨o,ho,hc⟩:=he
 exact wpAny_bind (wpAny_isInstance (T := "StopIteration") (b:=true) ⟨o,ho,hc⟩ isSubtype_stop (wpAny_pure (h _ hk)))
theorem Yx (hh:A.handled=none) (it d:Addr) (es:Array DictEntry) (ep:Nat) (hne:it≠d):Walks prog w A it [it,d] [it] es.size (fun i v=>∃ e,es[i]?=some e∧v=e.val) (fun i h=>VIt h it d i es.size ep∧Zh h d es ep) where
 sub:=fun b hb=>by simp at hb;simp[hb]
 frame:=fun i h h' ⟨a1,o,ho,r⟩ k=>⟨k it (by simp) _ a1,o,k d (by simp) _ ho,r⟩
 item:=fun i s Q E hi ⟨a1,hd⟩ q=>by
  have hd':=hd
  obtain⟨o,ho,r⟩:=hd
  refine vo a1 hd' (e:=es[i]) (by simp[hi]) fun h' b1 sb=>?_
  exact q _ h' s.toks ⟨es[i],by simp[hi],rfl⟩ ⟨b1,o,(sb.2 d hne.symm).trans ho,r⟩ fun b o hb e=>(sb.2 b (by simpa using hb)).trans e
 done:=fun s Q E ⟨a1,hd⟩ q=>ul hh a1 hd fun h' k=>q h' s.toks fun b o hb e=>k b o (by simpa using hb) e
 self:=fun i s Q E ⟨a1,_⟩ q=>wpAny_pyIter_valiter (it:=it) (d:=d) (i:=i) (n:=es.size) (ep:=ep) ⟨_,a1,rfl,rfl⟩ q
theorem Zs {r d:Addr}{ep:Nat}{es:Array DictEntry}{Q:Value→Shared→Prop}(hv:s.heap.IsValuesView r d) (hd:Zh s.heap d es ep)
  (q:Q (.ref s.heap.objs.size) { s with heap:=s.heap.push { cls:=.type "dict_valueiterator",data:=.fields #[.ref d,.int 0 0,.int es.size 0,.int ep 0] } }):wpAny (model prog w) A (pyIter (.ref r)) Q E s:=by
 obtain⟨⟨c,dct,dat,sl⟩,ho,ex,hdat⟩:=hd
 cases hdat
 obtain⟨⟨cv,dv,av,sv⟩,h1,h2,h3⟩:=hv
 cases h3
 have hT:s.TypeIs (.ref r) "dict_values" := ⟨_,h1,h2⟩
 refine wpAny_pyIter_slot hT F.slot_dict_values_iter (wpAny_call_entry F.slot_dict_values_iter hT F.entry_dict_values_iter ?_ (F.args_dict_values_iter_1 _))
 unfold Builtin.«dict_values.__iter__»
 refine wpAny_bind (m:=Builtin.Dict_items.slot0 "__iter__" _) (wpAny_pure ?_)
 repeat (any_goals (first | assumption | wp_step))
 refine⟨_,rfl, "dict_valueiterator",_,⟨_,Heap.get?_push_size _ rfl,rfl⟩,F.slot_dict_valueiterator_next.lookup,?_⟩
 exact q
theorem VY {r d:Addr}(es:Array DictEntry) (ep:Nat):PySem.W.KdlSrc prog w "dict_values" r d es.size (fun i v=>∃ e,es[i]?=some e∧v=e.val) (fun h=>h.IsValuesView r d∧Zh h d es ep) where
 type:=fun s ⟨⟨o,h1,h2,_⟩,_⟩=>⟨o,h1,h2⟩
 there:=fun h ⟨⟨o,h1,_⟩,o2,h2,_⟩=>⟨Heap.lt_size h1,Heap.lt_size h2⟩
 keep:=fun h h' ⟨⟨o,h1,h2⟩,o2,h3,h4⟩ k=>⟨⟨o,k r (.inl rfl) _ h1,h2⟩,o2,k d (.inr rfl) _ h3,h4⟩
 notList:=by decide
 notTuple:=by decide
 hint:=fun A E s Q ⟨⟨o,h1,h2,_⟩,_⟩ q=>PySem.W.kdl_hint_values ⟨o,h1,h2⟩ q
 iter:=fun A s hh ⟨hv,hd⟩=>by
  have hd':=hd
  obtain⟨o,ho,hr⟩:=hd
  refine⟨_,_,fun E Q q=>Zs hv hd' q,Yx hh s.heap.objs.size d es ep (Nat.ne_of_gt (Heap.lt_size ho)),Heap.get?_push_size _ rfl,o,Heap.get?_push_of_some _ ho,hr⟩
theorem Zr {d:Addr}{Q:PySem.Fin→Shared→Prop}(hT:s.TypeIs (.ref d) "dict") (hd:(d == sysModules)=false)
  (q:Q (.done (.ret (.ref s.heap.objs.size))) { s with heap:=s.heap.push { cls:=.type "dict_values",data:=.fields #[.ref d] } }):wpAny (model prog w) A (Builtin.«dict.values» ⟨[.ref d],[]⟩) Q E s:=by
 refine wpAny_bind (m:=Builtin.Dict.noArgs "values" _) ?_
 unfold Builtin.Dict.noArgs
 refine wpAny_bind (wpAny_notOrdered_dict hT ?_)
 show wpAny _ _ (pure d) _ _ _
 refine wpAny_pure ?_
 have e:Builtin.Dict.showsAll d=pure ():=by
  unfold Builtin.Dict.showsAll
  rw[if_neg (by rw[hd];simp)]
 rw[e]
 repeat (any_goals (first | assumption | wp_step))
open Sco PySem.W in
theorem ZC {r d:Addr}{es:Array DictEntry}{ep:Nat}{Q:Value→Shared→Prop}(hh:A.handled=none) (hv:s.heap.IsValuesView r d) (hd:Zh s.heap d es ep){val:Value→Int×Int}
  (hp:∀ v∈es.toList.map (·.val),PrV s.heap v (val v)) (hb:∀ v∈es.toList.map (·.val),0≤(val v).2∧(val v).2<1000) (h66:es.size≤63)
  (h:∀ (D:Addr) (h':Heap) (tk:Nat) (o:Array Value),(∀ b u,s.heap.get? b=some u→h'.get? b=some u)→s.heap.get? D=none→o.toList.Perm (es.toList.map (·.val))→o.toList.Pairwise (fun x y=>rkP (val x)≤rkP (val y))→(∃ c,h'.get? D=some (seqObj "list" o c))→Q (.ref D) { s with heap:=h',toks:=tk }) :
  wpAny (model prog w) A (call (.builtin "sorted") [.ref r]) Q E s:=by
 have big:63≤sizeLine:=by decide
 refine Calls.call_function_entry kind_sorted plain_sorted entry_sorted (args_sorted1 _) ?_
 unfold Builtin.«sorted»
 refine wpAny_bind (m:=checkCount "sorted" 1 1 _) (wpAny_pure ?_)
 refine wpAny_bind (PySem.W.kdu_collect (A:=A.in1) (VY es ep) hh ⟨hv,hd⟩ (by omega) fun h' tk acc hk' hacc=>?_)
 have ev:acc.toList=es.toList.map (·.val):=by
  apply List.ext_getElem?
  intro i
  by_cases hi:i<es.size
  ·have hi':i<acc.size:=by rw[hacc.1];exact hi
   obtain⟨e,e1,e2⟩:=hacc.2 i acc[i] (by simp[hi'])
   rw[List.getElem?_map,Array.getElem?_toList,Array.getElem?_toList,e1,Array.getElem?_eq_getElem hi',e2]
   rfl
  ·rw[List.getElem?_eq_none (by rw[Array.length_toList,hacc.1];omega),List.getElem?_eq_none (by rw[List.length_map,Array.length_toList];omega)]
 have hl:acc.toList.length=es.size:=by rw[Array.length_toList];exact hacc.1
 refine wpAny_bind (wpAny_newList ?_ (by omega))
 have hoL:(h'.push (seqObj "list" acc.toList.toArray 0)).get? h'.objs.size=some (seqObj "list" acc.toList.toArray 0):=Heap.get?_push_size _ rfl
 refine(show wpAny _ _ _ _ _ { s with heap:=h'.push (seqObj "list" acc.toList.toArray 0),toks:=tk } from ?_)
 refine wpAny_bind (wpAny_holding (wpAny_call_entry slot_list_sort ⟨_,hoL,rfl⟩ entry_list_sort ?_ (args_list_sort _)))
 refine wM (val:=val) hoL (fun v hv=>?_) (fun v hv=>hb v (by rw[← ev];exact hv)) (by omega) fun o z m=>⟨_,rfl,?_⟩
 ·exact(hp v (by rw[← ev];exact hv)).keeps fun b o e _=>Heap.get?_push_of_some _ (hk' b o e)
 rw[ev] at z
 refine wpAny_pure ⟨_,rfl,h h'.objs.size _ tk o (fun b o e=>?_) ?_ z m (sortedHeap_at hoL)⟩
 ·have e1:=hk' b o e
  have lt:=Heap.lt_size e1
  rw[sortedHeap_old (Nat.ne_of_lt lt) (by rw[size_push'];exact Nat.lt_succ_of_lt lt)]
  exact Heap.get?_push_of_some _ e1
 ·cases z:s.heap.get? h'.objs.size with
  |none=>rfl
  |some o=>exact absurd (Heap.lt_size (hk' _ _ z)) (Nat.lt_irrefl _)
end
section
variable {X:Cx}
open Sco in
def XV (td:TE):TE:=fun σ H Q=>td σ H fun x H1=>∃ (d:Addr) (kvs:List (List Key×V)) (ps:List Sco.PT),x=.ref d∧H1 d=some (.dT kvs)∧kvs.map (·.2)=ps.map (fun p=>V.ref p.1)∧ps.length≤63∧PsAt H1 ps ∧
 ∀ (l:Addr) (qs:List Sco.PT),H1 l=none→qs.Perm ps→qs.Pairwise (fun x y=>rkP x.2≤rkP y.2)→Q (.ref l) (upd H1 l (.lst (qs.map fun p=>V.ref p.1)))
theorem KT.vals {H:Hp}:∀ {kvs:List (List Key×V)}{xs:List (List Key×Addr×Value)},KT H kvs xs→Vals (kvs.map (·.2)) (xs.map (·.2.2))
 |_,_,.nil=>.nil
 |_,_,.cons h t=>.cons h.2.2 (KT.vals t)
open Sco in
theorem vT {o:Expr}{td:TE}{apos cpos p pos:Pos}(hc:X.calm=true) (hgl:Gl X "sorted") (hm:X.mg "sorted" = none) (hv:bootBuiltins "sorted" = some (.builtin "sorted")) (ho:Bx (PE X o td)) (hbase:attributeBase o "values" X.env (eval o X.env)=eval o X.env:=by rfl) (hline:(apos.endLine == cpos.line)=true:=by rfl) (hs:starEach [.Call (.Attribute o "values" apos) [] [] cpos] X.env=[(false,eval (.Call (.Attribute o "values" apos) [] [] cpos) X.env)]:=by rfl):Bx (PE X (.Call (.Name "sorted" p) [.Call (.Attribute o "values" apos) [] [] cpos] [] pos) (XV td)):=by
 have ho:=ho.of
 refine⟨?_⟩
 intro pins s σ H Q I h
 refine wpAny_Call_Name_kw (ld_blt I hgl hm hv ?_ (by decide) (by decide))
 refine Calls.callWith_builtin rfl (Calls.evalArgs_plain ?_)
 show wpAny _ _ (spliced ((false,eval (.Call (.Attribute o "values" apos) [] [] cpos) X.env)::backTo pos [])) _ _ s
 refine Calls.spliced_cons (wpAny_Call_method0_late hbase hline (thn (ho pins s σ H _ I h) fun v s1 hq0=>?_))
 obtain⟨x,H1,I1,rx,d,kvs,ps,ex,e,ek,h66,hps,q⟩:=hq0
 subst ex
 obtain rfl:v=Value.ref d:=rx
 obtain⟨t1,t2,_⟩:=xQ I1 (.inr ⟨_,.inl e⟩)
 obtain⟨z,hd,xs,rel,dd⟩:=Zd I1.hok e
 refine⟨"dict", "dict.values",PySem.F.plainAttrs_dict,PySem.F.slot_dict_values,PySem.F.type_dict_values,t1,t2,Calls.callWith_builtin rfl (PySem.evalArgs_none ?_)⟩
 have hT:=dd.typeIs
 obtain⟨od,es,ep,q1,q2,q3,q4,q5,q6⟩:=dd
 refine wpAny_call_entry PySem.F.slot_dict_values hT PySem.F.entry_dict_values ?_ (PySem.F.args_dict_values_1 _)
 refine Zr hT hd ?_
 refine⟨_,rfl,Calls.spliced_nil ?_⟩
 have I2:=I1.kept (t':=s1.toks) (h':=s1.heap.push { cls:=.type "dict_values",data:=.fields #[.ref d] }) fun b u q=>Heap.get?_push_of_some _ q
 have rv:=rel.vals
 rw[ek] at rv
 have er:=wg rv
 have ev:es.toList.map (·.val)=ps.map (fun p=>Value.ref p.1):=by
  rw[q4,← er,List.map_map]
  rfl
 refine ZC (val:=vlH H1) (s:={ s1 with heap:=s1.heap.push { cls:=.type "dict_values",data:=.fields #[.ref d] } }) (I1.ok.hd hc) ⟨_,Heap.get?_push_size _ rfl,rfl,rfl⟩ ⟨od,Heap.get?_push_of_some _ q1,q2,q3⟩ ?_ ?_ ?_ fun D h' tk o k1 k2 z m hD=>?_
 ·rw[ev]
  exact hps.prv I2
 ·rw[ev]
  intro v hv
  obtain⟨p,hp,rfl⟩:=List.mem_map.mp hv
  rw[hps.vl hp]
  exact(hps p hp).2
 ·have:=congrArg List.length ev
  rw[List.length_map,List.length_map,Array.length_toList] at this
  omega
 ·rw[ev] at z
  obtain⟨qs,h1,h2,h3⟩:=vx hps z m
  obtain⟨c,hD⟩:=hD
  exact⟨.ref D,_,Srt.laidF (o:=.lst (qs.map fun p=>V.ref p.1)) I2 k1 k2 ⟨by rw[List.length_map,h1.length_eq];exact Nat.le_trans h66 (by decide),o.toList,c,by rw[h3];exact wk qs,by rw[Array.toArray_toList];exact hD⟩,rfl,q D qs (I2.hok.untr k2) h1 h2⟩
end
def KIt (h:Heap) (it d:Addr) (i n ep:Nat):Prop:=h.get? it=some { cls:=.type "dict_keyiterator",data:=.fields #[.ref d,.int i 0,.int n 0,.int ep 0] }
section
variable {prog:Program}{w:World}{A:Around}{E:Value→Shared→Prop}{s:Shared}
theorem XR {it d:Addr}{i ep:Nat}{es:Array DictEntry}{e:DictEntry}{Q:PySem.Fin→Shared→Prop}(hi:KIt s.heap it d i es.size ep) (hd:Zh s.heap d es ep) (he:es[i]?=some e)
  (h:∀ h',KIt h' it d (i+1) es.size ep→Heap.SameBut it s.heap h'→Q (.done (.ret e.key)) { s with heap:=h' }):wpAny (model prog w) A (Builtin.«dict_keyiterator.__next__» ⟨[.ref it],[]⟩) Q E s:=by
 obtain⟨⟨c,dct,dat,sl⟩,ho,ex,hdat⟩:=hd
 cases hdat
 have hT:s.TypeIs (.ref it) "dict_keyiterator" := ⟨_,hi,rfl⟩
 refine wpAny_bind (m:=Builtin.Dict_items.slot0 "__next__" _) (wpAny_pure ?_)
 refine wpAny_bind ?_
 refine wpAny_bind ?_
 have z1:((es.size:Int) != (es.size:Int))=false:=by simp
 have z2:((ep:Int) != (ep:Int))=false:=by simp
 repeat (any_goals (first | assumption | (simp only[z1,z2,Bool.false_eq_true,if_false]) | wp_step))
 have z3:(if (i:Int)<0 then none else es[((i:Int)).toNat]?)=some e:=by
  rw[if_neg (by omega)]
  exact he
 rw[z3]
 refine wpAny_bind ?_
 refine wpAny_bind (m:=typeNameOfWhole (.ref it)) ?_
 repeat (any_goals (first | assumption | wp_step))
 refine h _ ((Heap.get?_update_self _ hi (by kernel_rfl)).trans (congrArg some ?_)) ⟨Heap.size_update _ _ _,fun b hb=>Heap.get?_update_ne _ _ _ _ hb⟩
 kernel_rfl
theorem V0 {it d:Addr}{ep:Nat}{es:Array DictEntry}{Q:PySem.Fin→Shared→Prop}(hh:A.handled=none){i:Nat}(hi:KIt s.heap it d i es.size ep) (hle:es.size≤i) (hd:Zh s.heap d es ep)
  (h:∀ h' e,Heap.ExtBut it s.heap h'→(∃ o,h'.get? e=some o∧o.cls=.type "StopIteration")→E (.ref e) { s with heap:=h' }):wpAny (model prog w) A (Builtin.«dict_keyiterator.__next__» ⟨[.ref it],[]⟩) Q E s:=by
 obtain⟨⟨c,dct,dat,sl⟩,ho,ex,hdat⟩:=hd
 cases hdat
 have hT:s.TypeIs (.ref it) "dict_keyiterator" := ⟨_,hi,rfl⟩
 refine wpAny_bind (m:=Builtin.Dict_items.slot0 "__next__" _) (wpAny_pure ?_)
 refine wpAny_bind ?_
 refine wpAny_bind ?_
 have z1:((es.size:Int) != (es.size:Int))=false:=by simp
 have z2:((ep:Int) != (ep:Int))=false:=by simp
 repeat (any_goals (first | assumption | (simp only[z1,z2,Bool.false_eq_true,if_false]) | wp_step))
 have z3:(if (i:Int)<0 then none else es[((i:Int)).toNat]?)=none:=by
  rw[if_neg (by omega)]
  show es[i]?=none
  simp[hle]
 rw[z3]
 refine wpAny_bind ?_
 refine wpAny_bind (m:=typeNameOfWhole (.ref it)) ?_
 repeat (any_goals (first | assumption | wp_step))
 refine wpAny_raiseNew_none hh ?_
 refine h _ _ (fun b o hb e=>?_) ⟨_,Heap.get?_push_size _ rfl,rfl⟩
 exact Heap.get?_push_of_some _ (Heap.get?_push_of_some _ ((Heap.get?_update_ne _ _ _ _ hb).trans e))
theorem Zu {it d:Addr}{i ep:Nat}{es:Array DictEntry}{e:DictEntry}{Q:Option Value→Shared→Prop}(hi:KIt s.heap it d i es.size ep) (hd:Zh s.heap d es ep) (he:es[i]?=some e)
  (h:∀ h',KIt h' it d (i+1) es.size ep→Heap.SameBut it s.heap h'→Q (some e.key) { s with heap:=h' }):wpAny (model prog w) A (pyNext (.ref it)) Q E s:=by
 have hT:s.TypeIs (.ref it) "dict_keyiterator" := ⟨_,hi,rfl⟩
 unfold pyNext
 exact wpAny_bind (wpAny_attempt (wpAny_callSpecial?_slot (name:=Str.ofString "__next__") hT F.slot_dict_keyiterator_next (wpAny_call_entry F.slot_dict_keyiterator_next hT F.entry_dict_keyiterator_next (XR hi hd he fun h' a1 a2=>⟨_,rfl,wpAny_pure (h h' a1 a2)⟩) (F.args_dict_keyiterator_next_1 _))))
theorem Yy {it d:Addr}{ep:Nat}{es:Array DictEntry}{Q:Option Value→Shared→Prop}(hh:A.handled=none){i:Nat}(hi:KIt s.heap it d i es.size ep) (hle:es.size≤i) (hd:Zh s.heap d es ep)
  (h:∀ h',Heap.ExtBut it s.heap h'→Q none { s with heap:=h' }):wpAny (model prog w) A (pyNext (.ref it)) Q E s:=by
 have hT:s.TypeIs (.ref it) "dict_keyiterator" := ⟨_,hi,rfl⟩
 unfold pyNext
 refine wpAny_bind (wpAny_attempt (wpAny_callSpecial?_slot (name:=Str.ofString "__next__") hT F.slot_dict_keyiterator_next (wpAny_call_entry F.slot_dict_keyiterator_next hT F.entry_dict_keyiterator_next (V0 hh hi hle hd fun h' e hk he=>?_) (F.args_dict_keyiterator_next_1 _))))
 obtain⟨o,ho,hc⟩:=he
 exact wpAny_bind (wpAny_isInstance (T := "StopIteration") (b:=true) ⟨o,ho,hc⟩ isSubtype_stop (wpAny_pure (h _ hk)))
theorem XS {d:Addr}{ep:Nat}{es:Array DictEntry}{Q:Value→Shared→Prop}(hd:Zh s.heap d es ep) (hm:(d == sysModules)=false)
  (q:Q (.ref s.heap.objs.size) { s with heap:=s.heap.push { cls:=.type "dict_keyiterator",data:=.fields #[.ref d,.int 0 0,.int es.size 0,.int ep 0] } }):wpAny (model prog w) A (pyIter (.ref d)) Q E s:=by
 obtain⟨⟨c,dct,dat,sl⟩,ho,ex,hdat⟩:=hd
 cases hdat
 have hT:s.TypeIs (.ref d) "dict" := ⟨_,ho,ex.1⟩
 refine wpAny_pyIter_slot hT F.slot_dict_iter (wpAny_call_entry F.slot_dict_iter hT F.entry_dict_iter ?_ (F.args_dict_iter_1 _))
 unfold Builtin.«dict.__iter__»
 refine wpAny_bind ?_
 unfold Builtin.Dict.dictSlotNone
 refine wpAny_bind (wpAny_notOrdered_dict hT ?_)
 show wpAny _ _ (pure (Value.ref d)) _ _ _
 refine wpAny_pure ?_
 have e:Builtin.Dict.showsAll d=pure ():=by
  unfold Builtin.Dict.showsAll
  rw[if_neg (by rw[hm];simp)]
 refine wpAny_bind (m:=Builtin.Dict.addrOf (.ref d)) (wpAny_pure ?_)
 rw[e]
 repeat (any_goals (first | assumption | wp_step))
 refine⟨_,rfl, "dict_keyiterator",_,⟨_,Heap.get?_push_size _ rfl,rfl⟩,F.slot_dict_keyiterator_next.lookup,?_⟩
 exact q
end
section
variable {X:Cx}{pins:List (Addr×Obj)}{σ:St}{H G:Hp}{s:Shared}{d:Addr}{od:Obj}{kvs:List (List Key×V)}
theorem Inv.frozT (I:Inv X pins σ H s) (e:H d=some (.dT kvs)) (q0:s.heap.get? d=some od):Inv X pins σ (upd H d (.frz od (.dT kvs))) s:=by
 have ne:∀ {b:Addr}{o:HO},H b=some o→(∀ kvs,o≠.dT kvs)→upd H d (.frz od (.dT kvs)) b=some o:=fun {b o} q n=>by
  rw[upd_ne (fun z=>by rw[z,e] at q;injection q with q;exact n _ q.symm)];exact q
 have no:∀ {b:Addr},H b=none→upd H d (.frz od (.dT kvs)) b=none:=fun {b} q=>by
  rw[upd_ne (fun z=>by rw[z,e] at q;cases q)];exact q
 refine⟨I.ok,I.os,I.bare,⟨I.base.keep,I.base.slot,fun b o q n x=>no (I.base.free b o q n x),I.base.there,fun b xs q=>ne (I.base.tups b xs q) (fun _ z=>by cases z),fun b o u q=>ne (I.base.frzs b o u q) (fun _ z=>by cases z),fun b ps q=>?_⟩,I.loc,I.cell,no I.free,fun x c q=>no (I.freeC x c q),fun p hp=>?_,fun b o q=>?_,I.len⟩
 ·obtain⟨m,q⟩:=I.base.tbls b ps q
  exact⟨m,ne q (fun _ z=>by cases z)⟩
 ·obtain⟨p1,p2,p3⟩:=I.pin p hp
  exact⟨p1,no p2,p3⟩
 ·have st:∀ {b:Addr}{o:HO},H b=some o→ObjOk X.prog X.w (upd H d (.frz od (.dT kvs))) s.heap b o:=fun {b o} q=>(I.hok b o q).stay (fun c u _ q=>q) (fun c q=>ne q (fun _ z=>by cases z)) fun c xs q=>ne q (fun _ z=>by cases z)
  by_cases c:b=d
  ·subst c
   rw[upd_same] at q
   cases q
   exact⟨q0,st e⟩
  ·rw[upd_ne c] at q
   exact st q
def ItT (d:Addr) (od:Obj) (kvs:List (List Key×V)):It :=
 ⟨fun i H=>H d=some (.frz od (.dT kvs))∧i<kvs.length,fun i H x H'=>H'=H∧∃ kv b,kvs[i]?=some kv∧x=.ref b∧H b=some (.tup (kv.1.map kV)),fun i H=>H d=some (.frz od (.dT kvs))∧kvs.length≤i⟩
theorem KT.getAt {H:Hp}:∀ {kvs:List (List Key×V)}{xs:List (List Key×Addr×Value)},KT H kvs xs→∀ {i:Nat}{p:List Key×V},kvs[i]?=some p→∃ x,xs[i]?=some x∧p.1=x.1∧H x.2.1=some (.tup (p.1.map kV))
 |_,_,.cons h t,0,p,e=>by cases e;exact⟨_,rfl,h.1,h.2.1⟩
 |_,_,.cons h t,i+1,p,e=>by
  obtain⟨x,h1,h2⟩:=KT.getAt t (i:=i) (p:=p) (by simpa using e)
  exact⟨x,by simpa using h1,h2⟩
 |_,_,.nil,i,p,e=>by simp at e
theorem vW {P:Program}{w:World}{K:PySem.W.Frag}{tg:Expr}{it d:Addr}{od:Obj}{kvs:List (List Key×V)}{es:Array DictEntry}{ep:Nat}(hed:od.ExactDict) (hda:od.data=.dict es ep) (hle:es.size=kvs.length) :
  Turn P w K tg (ItT d od kvs) [it] it (fun i h=>KIt h it d i es.size ep) where
 mem:=by simp
 obj:=fun i h o1 b hb=>by
  rw[List.mem_singleton.mp hb]
  exact⟨_,o1,fun v z=>by
   have z':Data.fields _=Data.cell v:=z
   cases z'⟩
 keep:=fun i h h' st k=>k it (by simp) _ st
 item:=by
  intro X hP hw hK hc i pins s σ H E I hf st hg
  subst hP hw hK
  obtain⟨f0,f1,f2,f3,f4,f5⟩:=hf it (by simp)
  obtain⟨d3,d4⟩:=I.hok d _ hg.1
  have hx:kvs[i]?=some (kvs[i]'hg.2):=List.getElem?_eq_getElem hg.2
  obtain⟨z,y,xs,rel,o,es2,ep2,h1,h2,h3,h4,h5⟩:=(show ObjOk X.prog X.w H s.heap d (.dT kvs) from d4)
  rw[d3] at h1
  cases h1
  rw[hda] at h3
  cases h3
  obtain⟨x,hxi,e1,e2⟩:=KT.getAt rel hx
  have he:es[i]?=some (entryOfKey (tupleKind (zB X.prog X.w)) x):=by
   rw[← Array.getElem?_toList,h4,List.getElem?_map,hxi]
   rfl
  refine Zu st ⟨od,d3,hed,hda⟩ he fun h' st4 sb=>?_
  refine⟨_,rfl,Yb (s:={ s with heap:=h' }) (n := "dict_keyiterator") st4 rfl rfl (by decide) ⟨.ref x.2.1,H,I.turned (t':=s.toks) (fun b o hb q=>sb.extBut b o hb q) f0 f1 f3 f4 f5,rfl,⟨rfl,_,x.2.1,hx,rfl,e2⟩,st4,fun b hb=>(hf b hb).1⟩⟩
 done:=by
  intro X hP hw hK hc i pins s σ H E I hf st hg
  subst hP hw hK
  obtain⟨f0,f1,f2,f3,f4,f5⟩:=hf it (by simp)
  have d3:=(I.hok d _ hg.1).1
  exact Yy (I.ok.hd hc) st (by have:=hg.2;omega) ⟨od,d3,hed,hda⟩ fun h' kk=>⟨rfl,I.turned (t':=s.toks) (fun b o hb q=>kk b o hb q) f0 f1 f3 f4 f5⟩
 self:=fun _ i s _ _ st h=>wpAny_pyIter_keyiter (it:=it) (d:=d) (i:=i) (n:=es.size) (ep:=ep) ⟨_,st,rfl,rfl⟩ h
def zmO (td:TE):TI:=fun σ H R=>td σ H fun x H1=>∃ (d:Addr) (kvs:List (List Key×V)),x=.ref d∧H1 d=some (.dT kvs)∧∀ od:Obj,R (ItT d od kvs) (upd H1 d (.frz od (.dT kvs)))
theorem vS {tg l:Expr}{td:TE}(hl:Bx (PE X l td)):Bx (PI X tg l (zmO td)):=by
 have hl:=hl.of
 refine⟨?_⟩
 intro pins s σ H R I h
 refine thn (hl pins s σ H _ I h) fun v s1 hq0=>?_
 obtain⟨x,H1,I1,rx,d,kvs,ex,e,q⟩:=hq0
 subst ex
 obtain rfl:v=Value.ref d:=rx
 obtain⟨z,hd,xs,rel,dd⟩:=Zd I1.hok e
 obtain⟨od,es',ep,q1,q2,q3,q4,q5,q6⟩:=dd
 refine XS ⟨od,q1,q2,q3⟩ hd ?_
 have I1f:=I1.frozT e q1
 have hle:es'.size=kvs.length:=by
  rw[← Array.length_toList,q4,List.length_map]
  exact(Paired.length rel).symm
 refine⟨_,[s1.heap.objs.size],_,_,_,rfl,I1f.kept (t':=s1.toks) fun b u q=>Heap.get?_push_of_some _ q,vW q2 q3 hle,Heap.get?_push_size _ rfl,fun b hb=>?_,q od⟩
 rw[List.mem_singleton.mp hb]
 exact I1f.fpOk (Nat.le_refl _) (I1f.hok.fresh (Nat.le_refl _))
end
theorem for_keysT {d:Addr}{od:Obj}{kvs:List (List Key×V)}{g:TG}{tb:TS}{D:Ends}{σ:St}{H:Hp}(Pv:Nat→St→Hp→Prop) (h0:Pv 0 σ H) (hf:∀ i σ H,Pv i σ H→H d=some (.frz od (.dT kvs)))
  (hs:∀ i kv b σ H,kvs[i]?=some kv→H b=some (.tup (kv.1.map kV))→Pv i σ H→g (.ref b) σ H fun σ2 H2=>tb { D with nx:=Pv (i+1),ct:=Pv (i+1),bk:=D.nx } σ2 H2) (hd:∀ σ H,Pv kvs.length σ H→D.nx σ H) :
  ∃ W:Nat→Nat→St→Hp→Prop,(∃ m,W 0 m σ H)∧∀ i m σ H,W i m σ H →
   ((ItT d od kvs).stop i H∧D.nx σ H)∨((ItT d od kvs).go i H∧∃ N:St→Hp→Prop,(∀ σ' H',N σ' H'→∃ m',m'<m∧W (i+1) m' σ' H')∧∀ x H',(ItT d od kvs).yld i H x H'→g x σ H' fun σ2 H2=>tb { D with nx:=N,ct:=N,bk:=D.nx } σ2 H2):=by
 refine⟨fun i m σ H=>m=kvs.length-i∧i≤kvs.length∧Pv i σ H,⟨_,rfl,Nat.zero_le _,h0⟩,?_⟩
 rintro i m σ H ⟨rfl,hi,p⟩
 by_cases hlt:i<kvs.length
 ·refine .inr ⟨⟨hf i σ H p,hlt⟩,Pv (i+1),fun σ' H' p'=>⟨_,by omega,rfl,hlt,p'⟩,fun x H' y=>?_⟩
  obtain⟨rfl,kv,b,hk,rfl,hb⟩:=y
  exact hs i kv b σ _ hk hb p
 ·have e:i=kvs.length:=by omega
  subst e
  exact .inl ⟨⟨hf _ σ H p,Nat.le_refl _⟩,hd σ H p⟩
section
variable {prog:Program}{w:World}{KK:Type} [DecidableEq KK]{knd:HeapKind prog w KK}{A:Around}{E:Value→Shared→Prop}{s:Shared}
theorem ZF {nm:String}{a b:Addr}{xs ys:List (KK×Addr×Value)}{Q:Bool→Shared→Prop}(hu:knd.room A) (ha:(a == sysModules)=false) (hb:(b == sysModules)=false)
  (da:s.heap.DictOfH knd a xs) (db:s.heap.DictOfH knd b ys) (hl:xs.length=ys.length) (hits:∀ x∈xs,∃ p,(x.1,p)∈ys∧SeqAt.EqAt A s x.2.2 p.2 true) (h:Q true s) :
  wpAny (model prog w) A (Builtin.Dict.samePairs nm a b) Q E s:=by
 obtain⟨oa,es,ep,hoa,_,hda,hea,hia,hna⟩:=da
 obtain⟨ob,es',ep',hob,_,hdb,heb,hib,hnb⟩:=db
 have hla:=size_of_entries hea
 have hlb:=size_of_entries heb
 unfold Builtin.Dict.samePairs Builtin.Dict.showsAll
 rw[if_neg (show ¬ (a == sysModules)=true by rw[ha];exact Bool.false_ne_true),if_neg (show ¬ (b == sysModules)=true by rw[hb];exact Bool.false_ne_true)]
 refine wpAny_bind (wpAny_pure (wpAny_bind (wpAny_pure ?_)))
 refine wpAny_bind (wpAny_dictEntries hoa hda ?_)
 dsimp only
 refine wpAny_bind (wpAny_dictEntries hob hdb ?_)
 rw[if_neg (by rw[hla,hlb,hl];simp)]
 refine wpAny_bind (wpAny_dictEpoch hoa hda ?_)
 refine wpAny_bind ?_
 rw[Std.Legacy.Range.forIn_eq_forIn_range']
 simp only[Std.Legacy.Range.size,Nat.sub_zero,Nat.add_sub_cancel,Nat.div_one]
 refine wpAny_forIn_list _ (fun rest q s'=>s'=s∧q=(none,())∧∃ i,rest=List.range' i (es.size-i)∧i≤es.size) _ ?_ ?_ _ _ ⟨rfl,rfl,0,by simp,Nat.zero_le _⟩
 ·rintro x rest q s' ⟨rfl,rfl,i,hr,hi⟩
  have hlt:i<es.size:=by
   rcases Nat.lt_or_ge i es.size with h | h
   ·exact h
   ·rw[Nat.sub_eq_zero_of_le h] at hr;simp at hr
  obtain⟨rfl,hrest⟩:x=i∧rest=List.range' (i+1) (es.size-(i+1)):=by
   have e:es.size-i=(es.size-(i+1))+1:=by omega
   rw[e,List.range'_succ] at hr
   injection hr with h1 h2
   exact⟨h1,h2⟩
  have hlt':x<xs.length:=by rw[← hla];exact hlt
  have hxx:xs[x]?=some xs[x]:=List.getElem?_eq_getElem hlt'
  have hxm:xs[x]∈xs:=List.getElem_mem hlt'
  refine wpAny_bind (wpAny_dictEntries hoa hda ?_)
  rw[entry_at hea x,hxx]
  generalize xs[x]=y at *
  obtain⟨k,ad,v⟩:=y
  obtain⟨p,hpm,he⟩:=hits _ hxm
  have hkey:=hia _ hxm
  dsimp only at hpm he hkey
  show wpAny _ _ (holding [Value.ref ad,v] _ >>= _) _ _ _
  refine wpAny_bind (wpAny_holding (wpAny_bind (wpAny_dictFind_heap hu hkey hob hdb heb hib hnb ?_ ?_)))
  ·intro hno
   obtain⟨j,hj⟩:=List.getElem?_of_mem hpm
   exact absurd hj (hno j p)
  ·intro j p' hj
   have ep:p'=p:=by
    have h1:=atKey_of_get hnb hj
    obtain⟨j2,hj2⟩:=List.getElem?_of_mem hpm
    have h2:=atKey_of_get hnb hj2
    rw[h1] at h2
    injection h2
   subst ep
   refine wpAny_bind (wpAny_dictEntries hob hdb ?_)
   rw[entry_at heb j,hj]
   refine wpAny_holding (he prog w _ _ ?_)
   show wpAny _ _ (if (!true)=true then _ else _) _ _ _
   rw[if_neg (by decide)]
   refine wpAny_bind (wpAny_dictEpoch hoa hda ?_)
   rw[if_neg (by simp)]
   exact wpAny_pure ⟨rfl,rfl,x+1,hrest,hlt⟩
 ·rintro q s' ⟨rfl,rfl,i,hr,hi⟩
  exact wpAny_pure h
theorem ne_heap {a b:Addr}{xs ys:List (KK×Addr×Value)}{Q:Value→Shared→Prop}(hr:knd.room A.in1) (ha:(a == sysModules)=false) (hb:(b == sysModules)=false)
  (da:s.heap.DictOfH knd a xs) (db:s.heap.DictOfH knd b ys) (hu:A.units<cLine) (hl:xs.length=ys.length) (hits:∀ x∈xs,∃ p,(x.1,p)∈ys∧SeqAt.EqAt A.in1 s x.2.2 p.2 true) (h:Q (.bool false) s) :
  wpAny (model prog w) A (compareOp .NotEq (.ref a) (.ref b)) Q E s:=by
 refine wpAny_richCompare_same_room (op:=.NotEq) da.typeIs db.typeIs PySem.F.slot_dict_ne (wpAny_call_entry PySem.F.slot_dict_ne da.typeIs PySem.F.entry_dict_ne ?_ (PySem.F.args_dict_ne_2 _ _)) hu
 show wpAny _ _ (Builtin.Dict.dictSlotArgs "__ne__" ⟨[.ref a,.ref b],[]⟩ >>= _) _ _ s
 refine wpAny_bind ?_
 unfold Builtin.Dict.dictSlotArgs
 refine wpAny_bind (wpAny_notOrdered_dict da.typeIs ?_)
 show wpAny _ _ (pure (Value.ref a,Value.ref b)) _ _ s
 refine wpAny_pure ?_
 refine wpAny_bind (wpAny_isInstance (T := "dict") db.typeIs PySem.F.sub_dict_dict ?_)
 simp only[Bool.not_true,Bool.false_eq_true,if_false]
 refine wpAny_bind (wpAny_pure (wpAny_bind (wpAny_pure ?_)))
 refine wpAny_bind (ZF hr ha hb da db hl hits ?_)
 refine wpAny_pure ⟨_,rfl,?_,?_⟩
 ·exact fun x=>nomatch x
 ·simpa using h
end
section
variable {X:Cx}
def zdk (X:Cx):R2:=fun x y H Q=>∃ (a b:Addr) (kva kvb:List (List Key×V)) (n:Nat),x=.ref a∧y=.ref b∧H a=some (.dT kva)∧H b=some (.dT kvb)∧kva.length=kvb.length∧X.A.units+n+2<cLine ∧
 (∀ p∈kva,∃ y,(p.1,y)∈kvb∧EqP X H p.2 y true n)∧Q (.bl false) H
theorem KT.get1 {H:Hp}{kvs:List (List Key×V)}{xs:List (List Key×Addr×Value)}(r:KT H kvs xs):∀ {x},x∈xs→∃ p∈kvs,p.1=x.1∧RelV p.2 x.2.2:=by
 induction r with
 |nil=>intro x hx;exact nomatch hx
 | @cons p q ps qs hq t ih =>
  intro x hx
  rcases List.mem_cons.mp hx with z | z
  ·exact⟨p,List.mem_cons_self,by rw[z];exact hq.1,by rw[z];exact hq.2.2⟩
  ·obtain⟨p',h1,h2⟩:=ih z
   exact⟨p',List.mem_cons_of_mem _ h1,h2⟩
theorem KT.get2 {H:Hp}{kvs:List (List Key×V)}{xs:List (List Key×Addr×Value)}(r:KT H kvs xs):∀ {p},p∈kvs→∃ x∈xs,p.1=x.1∧RelV p.2 x.2.2:=by
 induction r with
 |nil=>intro x hx;exact nomatch hx
 | @cons p q ps qs hq t ih =>
  intro x hx
  rcases List.mem_cons.mp hx with z | z
  ·exact⟨q,List.mem_cons_self,by rw[z];exact hq.1,by rw[z];exact hq.2.2⟩
  ·obtain⟨p',h1,h2⟩:=ih z
   exact⟨p',List.mem_cons_of_mem _ h1,h2⟩
theorem Va:OpR X (compareOp .NotEq) (zdk X):=by
 intro pins s σ H x y v u Q I rx ry h
 obtain⟨a,b,kva,kvb,n,rfl,rfl,ha,hb,hl,hu,hi,q⟩:=h
 cases rx;cases ry
 obtain⟨z1,d1,xs,r1,o1⟩:=wG I.hok (.inl ha)
 obtain⟨z2,d2,ys,r2,o2⟩:=wG I.hok (.inl hb)
 refine ne_heap (tupleKind_room_in1 (by omega)) d1 d2 o1 o2 (by omega) (by rw[← r1.length,← r2.length,hl]) (fun x hx=>?_) ⟨.bl false,H,I,rfl,q⟩
 obtain⟨p,hp,e1,rv⟩:=r1.get1 hx
 obtain⟨y,hy,he⟩:=hi p hp
 obtain⟨x',hx',e2,rv2⟩:=r2.get2 hy
 refine⟨x'.2,?_,he pins σ s I _ _ _ (by rw[xa];omega) rv rv2⟩
 have:(x.1,x'.2)=x':=by rw[← e1,e2]
 rw[this]
 exact hx'
end
def ThT (G:Hp) (Q:Hp→Prop) (H:Hp):Prop:=Q H∨∃ (d:Addr) (od:Obj) (kvs:List (List Key×V)),(∀ o u,G d≠some (.frz o u))∧H d=some (.frz od (.dT kvs))∧Q (upd H d (.dT kvs))
def zlF (G:Hp) (t:TS):TS:=fun D σ H=>t ⟨fun σ=>ThT G (D.nx σ),fun v=>ThT G (D.rt v),fun σ=>ThT G (D.bk σ),fun σ=>ThT G (D.ct σ)⟩ σ H
section
variable {X:Cx}{pins:List (Addr×Obj)}{σ:St}{H G:Hp}{s:Shared}{d:Addr}{od:Obj}{kvs:List (List Key×V)}
theorem Inv.thawT (I:Inv X pins σ G s) (S:∀ o u,X.H₀ d≠some (.frz o u)) (g:G d=some (.frz od (.dT kvs))):Inv X pins σ (upd G d (.dT kvs)) s:=by
 have ne:∀ {b:Addr}{o:HO},G b=some o→(∀ ob u,o≠.frz ob u)→upd G d (.dT kvs) b=some o:=fun {b o} q n=>by
  rw[upd_ne (fun z=>by rw[z,g] at q;injection q with q;exact n _ _ q.symm)];exact q
 have no:∀ {b:Addr},G b=none→upd G d (.dT kvs) b=none:=fun {b} q=>by
  rw[upd_ne (fun z=>by rw[z,g] at q;cases q)];exact q
 refine⟨I.ok,I.os,I.bare,⟨I.base.keep,I.base.slot,fun b o q n x=>no (I.base.free b o q n x),I.base.there,fun b xs q=>ne (I.base.tups b xs q) (fun _ _ z=>by cases z),fun b o u q=>?_,fun b ps q=>?_⟩,I.loc,I.cell,no I.free,fun x c q=>no (I.freeC x c q),fun p hp=>?_,fun b o q=>?_,I.len⟩
 ·rw[upd_ne (fun(z:b=d)=>S o u (by rw[← z];exact q))]
  exact I.base.frzs b o u q
 ·obtain⟨m,q⟩:=I.base.tbls b ps q
  exact⟨m,ne q (fun _ _ z=>by cases z)⟩
 ·obtain⟨p1,p2,p3⟩:=I.pin p hp
  exact⟨p1,no p2,p3⟩
 ·have st:∀ {b:Addr}{o:HO},ObjOk X.prog X.w G s.heap b o→ObjOk X.prog X.w (upd G d (.dT kvs)) s.heap b o:=fun {b o} q=>q.stay (fun c u _ q=>q) (fun c q=>ne q (fun _ _ z=>by cases z)) fun c xs q=>ne q (fun _ _ z=>by cases z)
  by_cases c:b=d
  ·subst c
   rw[upd_same] at q
   cases q
   exact st (I.hok b _ g).2
  ·rw[upd_ne c] at q
   exact st (I.hok b o q)
theorem ThT.inv {Q:Hp→Prop}(I:Inv X pins σ H s) (h:ThT X.H₀ Q H):∃ H',Inv X pins σ H' s∧Q H':=by
 rcases h with h | ⟨d,od,kvs,S,g,h⟩
 ·exact⟨_,I,h⟩
 ·exact⟨_,I.thawT S g,h⟩
theorem uR {st:Stmt}{t:TS}(h:Bx (PS X st t)):Bx (PS X st (zlF X.H₀ t)):=by
 have h:=h.of
 refine⟨?_⟩
 intro pins s σ H D I q
 refine thn (h pins s σ H _ I q) fun f s' q'=>?_
 cases f with
 |next=>obtain⟨σ',H',I',q'⟩:=q';obtain⟨H2,I2,q2⟩:=ThT.inv I' q';exact⟨_,_,I2,q2⟩
 |cont=>obtain⟨σ',H',I',q'⟩:=q';obtain⟨H2,I2,q2⟩:=ThT.inv I' q';exact⟨_,_,I2,q2⟩
 |brk=>obtain⟨σ',H',I',q'⟩:=q';obtain⟨H2,I2,q2⟩:=ThT.inv I' q';exact⟨_,_,I2,q2⟩
 |ret v=>obtain⟨x,σ',H',I',r,q'⟩:=q';obtain⟨H2,I2,q2⟩:=ThT.inv I' q';exact⟨_,_,_,I2,r,q2⟩
theorem Xh (I:Inv X pins σ H s) (e:H d=some (.dT kvs)):∀ o u,X.H₀ d≠some (.frz o u):=fun o u z=>by
 have:=I.base.frzs d o u z
 rw[e] at this;cases this
theorem KT.getR {H:Hp}:∀ {kvs:List (List Key×V)}{xs:List (List Key×Addr×Value)},KT H kvs xs→∀ {i:Nat}{p:List Key×V},kvs[i]?=some p→∃ x,xs[i]?=some x∧p.1=x.1∧H x.2.1=some (.tup (p.1.map kV))∧RelV p.2 x.2.2
 |_,_,.cons h t,0,p,e=>by cases e;exact⟨_,rfl,h.1,h.2.1,h.2.2⟩
 |_,_,.cons h t,i+1,p,e=>by
  obtain⟨x,h1,h2⟩:=KT.getR t (i:=i) (p:=p) (by simpa using e)
  exact⟨x,by simpa using h1,h2⟩
 |_,_,.nil,i,p,e=>by simp at e
end
theorem u9:typeLookup (.type "list_reverseiterator") "__len__" = pure none:=by rw[typeLookup_type,builtinLookup_eq_fast];kernel_rfl
theorem Y0:typeLookup (.type "list_reverseiterator") "__length_hint__" = pure (some (.builtin "list_reverseiterator.__length_hint__")):=by rw[typeLookup_type,builtinLookup_eq_fast];kernel_rfl
section
variable {prog:Program}{w:World}{A:Around}{E:Value→Shared→Prop}{s:Shared}
theorem WN {it l:Addr}{i:Int}{Q:Bool→Shared→Prop}(hit:s.heap.IsRevIter it l i) (q:Q false s):wpAny (model prog w) A (Builtin.List.listLengthHint (.ref it)) Q E s:=by
 unfold Builtin.List.listLengthHint
 refine wpAny_bind (wpAny_specialOf hit.typeIs u9 ?_)
 show wpAny _ _ (specialOf (Value.ref it) (Str.ofString "__length_hint__") >>= _) _ _ _
 refine wpAny_bind (wpAny_specialOf hit.typeIs Y0 ?_)
 generalize hid:("list_reverseiterator.__length_hint__" : String)=id0
 wp_delta
 rw[show splitId id0=some ("list_reverseiterator", "__length_hint__") from by subst hid;decide +kernel]
 subst hid
 refine wpAny_bind (wpAny_isInstance (T := "list_reverseiterator") (b:=true) hit.typeIs (by rw[isSubtype_type];kernel_rfl) ?_)
 refine wpAny_ite_split (fun hab=>absurd hab (by decide)) (fun _=>?_)
 refine wpAny_ite_split (fun _=>?_) (fun hab=>absurd (by decide +kernel) hab)
 refine wpAny_ite_split (fun hab=>absurd hab (by decide +kernel)) (fun _=>?_)
 exact wpAny_pure q
theorem WM {it l:Addr}{items:Array Value}{Q:Value→Shared→Prop}(hh:A.handled=none) (hne:l≠it) (hit:s.heap.IsRevIter it l ((items.size:Int)-1)) (hl:s.heap.IsList l items) (hn:items.size≤sizeLine)
  (hQ:∀ h' tk acc' c',(∀ b o,b≠it→s.heap.get? b=some o→h'.get? b=some o)→h'.get? s.heap.objs.size=some { cls:=.type "list",dict:=none,data:=.seq acc' c',slots:=#[] }→ItemsOf (fun i v=>items[items.size-1-i]?=some v) acc' items.size→Q (.ref s.heap.objs.size) { s with heap:=h',toks:=tk }) :
  wpAny (model prog w) A (call (.type "list") [.ref it]) Q E s:=by
 refine callType_codes (Q₁:=fun obj s₁=>obj=.ref s.heap.objs.size∧s₁={ s with heap:=s.heap.push { cls:=.type "list",data:=.seq #[] } }) PySem.F.called_list (PySem.F.typeCall_list_1 _) PySem.F.entry_list_init
  (code_list_new _ ⟨rfl,rfl⟩) fun obj s₁ h₁=>?_
 obtain⟨rfl,rfl⟩:=h₁
 have hS:(s.heap.push { cls:=.type "list",data:=.seq #[] }).get? s.heap.objs.size=some { cls:=.type "list",data:=.seq #[] }:=Heap.get?_push_size _ rfl
 have li:it<s.heap.objs.size:=by obtain⟨o,e,_⟩:=hit;exact Heap.lt_size e
 have ll:l<s.heap.objs.size:=by obtain⟨o,e,_⟩:=hl;exact Heap.lt_size e
 have hSI:s.heap.objs.size≠it:=Nat.ne_of_gt li
 have hSf:s.heap.objs.size∉[it,l]:=by
  simp only[List.mem_cons,List.not_mem_nil,or_false,not_or]
  exact⟨hSI,Nat.ne_of_gt ll⟩
 refine⟨⟨_,hS,rfl⟩,PySem.F.args_list_init_2 _ _,?_⟩
 show wpAny _ _ (do let old ← Builtin.List.listItems (.ref s.heap.objs.size);Builtin.List.listUpdate (.ref s.heap.objs.size) (fun _=>#[]);letGo old.toList.reverse;Builtin.List.listExtendWith (.ref s.heap.objs.size) (.ref it) .none) _ _ _
 refine wpAny_bind ?_
 unfold Builtin.List.listItems
 refine wpAny_bind (wpAny_seqItems hS rfl (wpAny_pure ?_))
 show wpAny _ _ (updateSeq s.heap.objs.size (fun _=>#[]) >>= fun _=>letGo (#[]:Array Value).toList.reverse >>= fun _=>Builtin.List.listExtendWith (.ref s.heap.objs.size) (.ref it) .none) _ _ _
 refine wpAny_bind (wpAny_updateSeq hS rfl ?_)
 have hS₂:=Heap.get?_update_self (Obj.mapSeq (fun _=>(#[]:Array Value))) hS rfl
 have oth:∀ b o,s.heap.get? b=some o→((s.heap.push { cls:=.type "list",data:=.seq #[] }).update s.heap.objs.size (Obj.mapSeq (fun _=>(#[]:Array Value)))).get? b=some o :=
  fun b o e=>(Heap.get?_update_other _ _ (Nat.ne_of_gt (Heap.lt_size e))).trans (Heap.get?_push_of_some _ e)
 refine wpAny_bind (wpAny_letGo ?_)
 generalize hh2:(s.heap.push { cls:=.type "list",data:=.seq #[] }).update s.heap.objs.size (Obj.mapSeq (fun _=>(#[]:Array Value)))=h2 at *
 have hit2:h2.IsRevIter it l ((items.size:Int)-1):=hit.at fun o e=>oth _ o e
 have hl2:h2.IsList l items:=hl.at fun o e=>oth _ o e
 unfold Builtin.List.listExtendWith
 refine wpAny_bind (wpAny_typeOf (T := "list_reverseiterator") (s:={ s with heap:=h2 }) hit2.typeIs ?_)
 have h1:Builtin.List.listSameRef (.ref s.heap.objs.size) (.ref it)=false:=by simp[Builtin.List.listSameRef,hSI]
 have h3:(Value.type "list_reverseiterator" == Value.type "list")=false:=by decide
 have h4:(Value.type "list_reverseiterator" == Value.type "tuple")=false:=by decide
 simp only[h1,h3,h4,Bool.or_false,Bool.false_eq_true,if_false]
 refine wpAny_bind (wpAny_pyIter_revIter (s:={ s with heap:=h2 }) hit2 ?_)
 refine wpAny_bind (wpAny_holding (WN (s:={ s with heap:=h2 }) hit2 ?_))
 refine wpAny_ite_split (fun hab=>absurd hab (by decide +kernel)) (fun _=>?_)
 have W:=(Walks.listRev (prog:=prog) (w:=w) (A:=A.in1.in1) hh it l hne items).toS
 have hst:0≤items.size∧h2.IsRevIter it l ((items.size:Int)-1-((0:Nat):Int))∧h2.IsList l items:=⟨Nat.zero_le _,by simpa using hit2,hl2⟩
 refine wpAny_pure ⟨plainId_quiet F.plain_extend_loop _,codeAny_extend_loopS W hn _ hSf _ items.size 0 _ _ _ rfl (Nat.zero_le _) hst hS₂ (ItemsOf.nil _) fun s' acc' c' hm hS' hacc=>?_⟩
 refine⟨rfl,?_⟩
 rw[Moved.eq_with hm]
 refine hQ s'.heap s'.toks acc' c' (fun b o hb e=>hm.heap b o (fun hmem=>?_) (oth b o e)) hS' hacc
 rcases List.mem_cons.mp hmem with e' | hmem
 ·exact absurd (Heap.lt_size e) (by rw[e'];exact Nat.lt_irrefl _)
 ·exact hb (List.mem_singleton.mp hmem)
end
section
variable {X:Cx}
def zcr (K:PySem.W.Frag) (ta:TA):TE:=fun σ H Q=>ta σ H fun vs H1=>∃ (a:Addr) (xs:List V),vs=[.ref a]∧SqL K H1 a xs∧∀ l,H1 l=none→Q (.ref l) (upd H1 l (.lst xs.reverse))
theorem Uq {its:List Value}{acc:Array Value}(h:ItemsOf (fun i v=>its.toArray[its.toArray.size-1-i]?=some v) acc its.toArray.size):acc.toList=its.reverse:=by
 refine List.ext_getElem? fun j=>?_
 by_cases c:j<its.length
 ·have hj:j<acc.size:=by rw[h.1];simpa using c
  have e:acc.toList[j]?=some acc[j]:=by simp[hj]
  have h2:=h.2 j acc[j] (by simp[hj])
  rw[e,List.getElem?_reverse c]
  simp only[List.size_toArray,List.getElem?_toArray] at h2
  exact h2.symm
 ·rw[List.getElem?_eq_none (by rw[Array.length_toList,h.1];simp;omega),List.getElem?_eq_none (by simp;omega)]
theorem vk {e:Expr}{ta:TA}{p p2 pos cpos:Pos}(hc:X.calm=true) (hgl:Gl X "list") (hm:X.mg "list" = none) (hg:Gl X "reversed") (hm2:X.mg "reversed" = none) (ha:Bx (PA X [e] ta)) (hs2:starEach [e] X.env=[(false,eval e X.env)]:=by rfl) (hs:starEach [.Call (.Name "reversed" p2) [e] [] cpos] X.env=[(false,eval (.Call (.Name "reversed" p2) [e] [] cpos) X.env)]:=by rfl):Bx (PE X (.Call (.Name "list" p) [.Call (.Name "reversed" p2) [e] [] cpos] [] pos) (zcr X.K ta)):=by
 have ha:=ha.of
 refine⟨?_⟩
 intro pins s σ H Q I h
 refine wpAny_Call_Name_kw (ld_blt I hgl hm bt_list ?_ (by decide) (by decide))
 refine PyProof.Rows.callWith_type1 ?_ hs rfl
 rw[hs]
 show wpAny _ _ (spliced ((false,eval (.Call (.Name "reversed" p2) [e] [] cpos) X.env)::backTo pos [])) _ _ s
 refine Calls.spliced_cons (Call_ (ld_blt I hg hm2 vg (PyProof.Rows.callWith_type1 (thn (ha cpos pins s σ H _ I h) fun us s1 hq0=>?_) hs2 rfl)))
 obtain⟨vs,H1,I1,r1,q1⟩:=hq0
 obtain⟨b,xs,ex,hq,q⟩:=q1
 subst ex
 obtain⟨u,rfl,ru⟩:=r1.one
 cases ru
 obtain⟨its,rv,pl,hz⟩:=I1.list hq
 have hl:=rv.length
 refine call_reversed_list pl.isList ?_
 refine Calls.spliced_nil ?_
 have lb:b<s1.heap.objs.size:=by obtain⟨o,e,_⟩:=pl.isList;exact Heap.lt_size e
 have hle:s1.heap.objs.size≤(s1.heap.push (revObj b ((its.toArray.size:Int)-1))).objs.size:=by rw[Heap.size_push];exact Nat.le_succ _
 refine WM (s:={ s1 with heap:=s1.heap.push (revObj b ((its.toArray.size:Int)-1)) }) (it:=s1.heap.objs.size) (l:=b) (items:=its.toArray) (I1.ok.hd hc) (Nat.ne_of_lt lb) ⟨_,Heap.get?_push_size _ rfl,rfl,rfl⟩ (pl.isList.push _) (by rw[List.size_toArray,← hl];exact hz) fun h' tk acc c' kp ea hit=>?_
 refine⟨.ref _,_,I1.laid (t':=tk) (h':=h') (fun b o e=>kp b o (Nat.ne_of_lt (Heap.lt_size e)) (Heap.get?_push_of_some _ e)) hle (show ObjOk X.prog X.w _ h' _ (.lst xs.reverse) from⟨by rw[List.length_reverse];exact hz,acc.toList,c',?_,ea⟩),rfl,q _ (I1.hok.fresh hle)⟩
 rw[Uq hit]
 exact rv.reverse
end
section
variable {P:Program}{w:World}{K:PySem.W.Frag}{mg:Str→Option Value}{base:Heap}{N:List Str}{qual:Str}{scope:Scope}{f:Addr}{cd:Value}{A:Around}{outer:List Env}{s0:Shared}{H0:Hp}{E:XK}
 {k:Nat}{f':Addr}{fd:FuncData}{ps:List Str}{sp:Sp}{x:Str}{p pos:Pos}{e:Expr}{es:List Expr}{t:TA}
theorem XO (c:Callee1 P w K mg base x f' fd ps k sp) (hr:Room k (xR (CX1 P w) P w K mg base N qual scope f cd A outer s0 H0 E).A) (ha:Bx (PA (xR (CX1 P w) P w K mg base N qual scope f cd A outer s0 H0 E) (e::es) t)) (hg:Gl (xR (CX1 P w) P w K mg base N qual scope f cd A outer s0 H0 E) x:=by rfl) (hdb:(x == ("__debug__" : Str))=false:=by decide) (he:starEach (e::es) (xR (CX1 P w) P w K mg base N qual scope f cd A outer s0 H0 E).env=(false,eval e (xR (CX1 P w) P w K mg base N qual scope f cd A outer s0 H0 E).env)::starEach es (xR (CX1 P w) P w K mg base N qual scope f cd A outer s0 H0 E).env:=by rfl) (hpl:(backTo pos (starEach es (xR (CX1 P w) P w K mg base N qual scope f cd A outer s0 H0 E).env)).any (·.1)=false:=by rfl):Bx (PE (xR (CX1 P w) P w K mg base N qual scope f cd A outer s0 H0 E) (.Call (.Name x p) (e::es) [] pos) (Zy sp [] E t)):=by
 have ha:=ha.of
 exact⟨ZM (X:=xR (CX1 P w) P w K mg base N qual scope f cd A outer s0 H0 E) (CX:=CX1 P w) c.ok hr hg c.g c.kp c.b .nil zds ha hdb he hpl⟩
end
def V3 (K:PySem.W.Frag) (C1:Addr) (i:Nat) (th:TS):Addr→Option Addr→TS:=fun C dd D σ H=>VT K C C1=some true∧XAny K C∧∀ a,H a=none→th (D.sans i) (σ.set i (some (.ref a))) (upd H a (.ext (ObX a C dd)))
section
variable {X:Cx}{suite body:List Stmt}{b0:Stmt}{i:Nat}{x n:Str}{C1:Addr}{np hpos pos:Pos}{th:TS}{tb:XK→TS}{rest:List ExceptHandler}
theorem Uy (hN:X.N.Nodup) (hi:X.N[i]?=some n) (hk:X.env.scope.names.lookup n=some .local) (c:XAny X.K C1) (hm:X.mg x=some (.ref C1)) (hh:∀ a,PSs (X.inH a) (b0::suite) th)
  (hg:Gl X x:=by rfl) (hdb:(x == ("__debug__" : Str))=false:=by decide):PH X (.ExceptHandler (some (.Name x np)) (some n) (b0::suite) hpos::rest) (V3 X.K C1 i th):=by
 intro pins σ H D s h a C dd F q
 have I5:=F.inv
 have J5:=I5.inH a
 refine wpAny_handleBy_cons (codeAny_handlers_test (ld_glob J5 hg hm ?_ hdb)) (by intro q;cases q)
 obtain⟨hs,cC,hts⟩:=q
 refine VU I5.kIn cC c hs F.ob ?_
 obtain⟨sh,sg,sd,stk,sos⟩:=s
 refine codeAny_handlers_suite_as (F.lands fun h6 F6=>?_)
 have I7:=F6.look
 refine store_ok (v:=.ref a) I7 hN hi (.inl hk) rfl (fun s8 I8=>?_) (.inr hk)
 refine wpAny_mono (hh a pins _ _ _ (D.sans i) (I8.inH a) (hts a F.ha)) (fun fl s9 q=>?_) (fun _ _ z=>False.elim z)
 have q:=SP.unH (X:=X) I5.ok q
 cases fl with
 |ret u =>
  obtain⟨v,σ',H9,I9,r,q⟩:=q
  exact Ya I9 hN hi hk fun s' I'=>⟨v,_,_,I',r,q⟩
 |_ =>
  obtain⟨σ',H9,I9,q⟩:=q
  exact Ya I9 hN hi hk fun s' I'=>⟨_,_,I',q⟩
theorem Zn (hst:X.stack=X.env::X.outer) (hfr:X.env.frame=some X.env.locals) (hN:X.N.Nodup) (hi:X.N[i]?=some n) (hk:X.env.scope.names.lookup n=some .local) (c:XAny X.K C1) (hm:X.mg x=some (.ref C1)) (hb:Bx (PX X body tb)) (hh:∀ a,Bx (PSs (X.inH a) (b0::suite) th)) (hg:Gl X x:=by rfl) (hdb:(x == ("__debug__" : Str))=false:=by decide):Bx (PS X (.Try body [.ExceptHandler (some (.Name x np)) (some n) (b0::suite) hpos] [] [] pos) (V6 tb (V3 X.K C1 i th))):=by
 have hb:=hb.of
 have hh:=fun x0=>(hh x0).of
 exact⟨WW hst hfr hb (Uy hN hi hk c hm hh hg hdb)⟩
end
def ItV (d:Addr) (od:Obj) (kvs:List (List Key×V)):It :=
 ⟨fun i H=>H d=some (.frz od (.dT kvs))∧i<kvs.length,fun i H x H'=>H'=H∧∃ kv,kvs[i]?=some kv∧x=kv.2,fun i H=>H d=some (.frz od (.dT kvs))∧kvs.length≤i⟩
theorem vV {P:Program}{w:World}{K:PySem.W.Frag}{tg:Expr}{it d:Addr}{od:Obj}{kvs:List (List Key×V)}{es:Array DictEntry}{ep:Nat}(hed:od.ExactDict) (hda:od.data=.dict es ep) (hle:es.size=kvs.length) :
  Turn P w K tg (ItV d od kvs) [it] it (fun i h=>i≤es.size∧VIt h it d i es.size ep) where
 mem:=by simp
 obj:=fun i h o1 b hb=>by
  rw[List.mem_singleton.mp hb]
  exact⟨_,o1.2,fun v z=>by
   have z':Data.fields _=Data.cell v:=z
   cases z'⟩
 keep:=fun i h h' st k=>⟨st.1,k it (by simp) _ st.2⟩
 item:=by
  intro X hP hw hK hc i pins s σ H E I hf st hg
  subst hP hw hK
  obtain⟨f0,f1,f2,f3,f4,f5⟩:=hf it (by simp)
  obtain⟨d3,d4⟩:=I.hok d _ hg.1
  have hx:kvs[i]?=some (kvs[i]'hg.2):=List.getElem?_eq_getElem hg.2
  obtain⟨z,y,xs,rel,o,es2,ep2,h1,h2,h3,h4,h5⟩:=(show ObjOk X.prog X.w H s.heap d (.dT kvs) from d4)
  rw[d3] at h1
  cases h1
  rw[hda] at h3
  cases h3
  obtain⟨x,hxi,e1,e2,e3⟩:=KT.getR rel hx
  have he:es[i]?=some (entryOfKey (tupleKind (zB X.prog X.w)) x):=by
   rw[← Array.getElem?_toList,h4,List.getElem?_map,hxi]
   rfl
  refine vo st.2 ⟨od,d3,hed,hda⟩ he fun h' st4 sb=>?_
  refine⟨_,rfl,Yb (s:={ s with heap:=h' }) (n := "dict_valueiterator") st4 rfl rfl (by decide) ⟨(kvs[i]'hg.2).2,H,I.turned (t':=s.toks) (fun b o hb q=>sb.extBut b o hb q) f0 f1 f3 f4 f5,e3,⟨rfl,_,hx,rfl⟩,⟨by have:=hg.2;omega,st4⟩,fun b hb=>(hf b hb).1⟩⟩
 done:=by
  intro X hP hw hK hc i pins s σ H E I hf st hg
  subst hP hw hK
  obtain⟨f0,f1,f2,f3,f4,f5⟩:=hf it (by simp)
  have d3:=(I.hok d _ hg.1).1
  have e:i=es.size:=by have:=hg.2;have:=st.1;omega
  subst e
  exact ul (I.ok.hd hc) st.2 ⟨od,d3,hed,hda⟩ fun h' kk=>⟨rfl,I.turned (t':=s.toks) (fun b o hb q=>kk b o hb q) f0 f1 f3 f4 f5⟩
 self:=fun _ i s _ _ st h=>wpAny_pyIter_valiter (it:=it) (d:=d) (i:=i) (n:=es.size) (ep:=ep) ⟨_,st.2,rfl,rfl⟩ h
section
variable {X:Cx}
def iVT (G:Hp) (td:TE):TI:=fun σ H R=>td σ H fun x H1=>∃ (d:Addr) (kvs:List (List Key×V)),x=.ref d∧H1 d=some (.dT kvs)∧∀ od:Obj,(∀ o u,G d≠some (.frz o u))→R (ItV d od kvs) (upd H1 d (.frz od (.dT kvs)))
theorem vR {tg o:Expr}{td:TE}{apos cpos:Pos}(ho:Bx (PE X o td)) (hbase:attributeBase o "values" X.env (eval o X.env)=eval o X.env:=by rfl) (hline:(apos.endLine == cpos.line)=true:=by rfl):Bx (PI X tg (.Call (.Attribute o "values" apos) [] [] cpos) (iVT X.H₀ td)):=by
 have ho:=ho.of
 refine⟨?_⟩
 intro pins s σ H R I h
 refine wpAny_Call_method0_late hbase hline (thn (ho pins s σ H _ I h) fun v s1 hq0=>?_)
 obtain⟨x,H1,I1,rx,d,kvs,ex,e,q⟩:=hq0
 subst ex
 obtain rfl:v=Value.ref d:=rx
 obtain⟨t1,t2,_⟩:=xQ I1 (.inr ⟨_,.inl e⟩)
 obtain⟨z,hd,xs,rel,dd⟩:=Zd I1.hok e
 refine⟨"dict", "dict.values",PySem.F.plainAttrs_dict,PySem.F.slot_dict_values,PySem.F.type_dict_values,t1,t2,Calls.callWith_builtin rfl (PySem.evalArgs_none ?_)⟩
 have hT:=dd.typeIs
 obtain⟨od,es',ep,q1,q2,q3,q4,q5,q6⟩:=dd
 refine wpAny_call_entry PySem.F.slot_dict_values hT PySem.F.entry_dict_values (Zr hT hd ⟨_,rfl,?_⟩) (PySem.F.args_dict_values_1 _)
 have hle2:es'.size=kvs.length:=by
  rw[← Array.length_toList,q4,List.length_map]
  exact(Paired.length rel).symm
 refine Zs (s:={ s1 with heap:=s1.heap.push { cls:=.type "dict_values",data:=.fields #[.ref d] } }) (d:=d) ⟨_,Heap.get?_push_size _ rfl,rfl,rfl⟩ ⟨od,Heap.get?_push_of_some _ q1,q2,q3⟩ ?_
 have hle:s1.heap.objs.size≤(s1.heap.push { cls:=.type "dict_values",data:=.fields #[.ref d] }).objs.size:=by rw[Heap.size_push];exact Nat.le_succ _
 have I1f:=I1.frozT e q1
 refine⟨_,[(s1.heap.push { cls:=.type "dict_values",data:=.fields #[.ref d] }).objs.size],_,_,_,rfl,I1f.kept (t':=s1.toks) fun b u q=>Heap.get?_push_of_some _ (Heap.get?_push_of_some _ q),vV q2 q3 hle2,⟨Nat.zero_le _,Heap.get?_push_size _ rfl⟩,fun b hb=>?_,q od (Xh I1 e)⟩
 rw[List.mem_singleton.mp hb]
 exact I1f.fpOk hle (I1f.hok.fresh hle)
def Uf (to:TE):TE:=fun σ H Q=>to σ H fun x H1=>∃ a kvs,x=.ref a∧H1 a=some (.dT kvs)∧Q .non (upd H1 a (.dT []))
theorem YZ {prog:Program}{w:World}{A:Around}{E:Value→Shared→Prop}{s:Shared}{d:Addr}{o:Obj}{es:Array DictEntry}{ep:Nat}{Q:PySem.Fin→Shared→Prop}(hT:s.TypeIs (.ref d) "dict") (ho:s.heap.get? d=some o) (hc:o.ExactDict) (ha:o.data=.dict es ep) (hz:es.size≤sizeLine)
  (q:∀ h',(∃ o',h'.get? d=some o'∧o'.ExactDict∧o'.data=.dict #[] (ep+1))→Heap.SameBut d s.heap h'→Q (.done (.ret .none)) { s with heap:=h' }):wpAny (model prog w) A (Builtin.«dict.clear» ⟨[.ref d],[]⟩) Q E s:=by
 refine wpAny_bind (m:=Builtin.Dict.noArgs "clear" _) ?_
 unfold Builtin.Dict.noArgs
 refine wpAny_bind (wpAny_notOrdered_dict hT (wpAny_pure ?_))
 refine wpAny_bind (wpAny_dictEntries ho ha (wpAny_bind (m:=bearsInstanceDictMark d) ?_))
 unfold bearsInstanceDictMark
 refine wpAny_bind (wpAny_load ho (wpAny_pure (wpAny_bind (wpAny_updateDictKeys (hz:=hz) ho ha ?_))))
 have new:∃ o',(s.heap.update d (Obj.mapDictKeys fun _=>#[])).get? d=some o'∧o'.ExactDict∧o'.data=.dict #[] (ep+1):=⟨_,Heap.get?_update_self _ ho (Obj.isFreed_of_dict (Obj.data_mapDictKeys ha _)),hc.mapDictKeys _,Obj.data_mapDictKeys ha _⟩
 have fin:=q _ new (Heap.SameBut.update ..)
 split
 ·exact wpAny_bind (wpAny_letGo (wpAny_pure fin))
 ·exact wpAny_bind (wpAny_pure (wpAny_pure fin))
theorem uV {o:Expr}{to:TE}{apos cpos:Pos}(ho:Bx (PE X o to)) (hbase:attributeBase o "clear" X.env (eval o X.env)=eval o X.env:=by rfl) (hline:(apos.endLine == cpos.line)=true:=by rfl):Bx (PE X (.Call (.Attribute o "clear" apos) [] [] cpos) (Uf to)):=by
 have ho:=ho.of
 refine⟨?_⟩
 intro pins s σ H Q I h
 refine wpAny_Call_method0_late hbase hline (thn (ho pins s σ H _ I h) fun v s1 hq0=>?_)
 obtain⟨x,H1,I1,rx,a,kvs,ex,e,q1⟩:=hq0
 subst ex
 obtain rfl:v=Value.ref a:=rx
 obtain⟨t1,t2,_⟩:=xQ I1 (.inr ⟨_,.inl e⟩)
 obtain⟨z,hd,xs,rel,dd⟩:=Zd I1.hok e
 have hT:=dd.typeIs
 obtain⟨od,es,ep,g1,g2,g3,g4,g5,g6⟩:=dd
 have hz:es.size≤sizeLine:=by
  rw[← Array.length_toList,g4,List.length_map,← (Paired.length rel)]
  exact z
 refine⟨"dict", "dict.clear",PySem.F.plainAttrs_dict,PySem.F.slot_dict_clear,PySem.F.type_dict_clear,t1,t2,Calls.callWith_builtin rfl (PySem.evalArgs_none ?_)⟩
 refine wpAny_call_entry PySem.F.slot_dict_clear hT PySem.F.entry_dict_clear (YZ hT g1 g2 g3 hz fun h' nw sb=>⟨_,rfl,?_⟩) (PySem.F.args_dict_clear_1 _)
 obtain⟨o',n1,n2,n3⟩:=nw
 exact⟨.non,_,xr (t':=s1.toks) (ob:=.dT []) I1 (by rw[e];exact True.intro) sb ⟨_,n1⟩ ⟨Nat.zero_le _,hd,[],.nil,o',#[],_,n1,n2,n3,rfl,List.nodup_nil⟩,rfl,q1⟩
end
theorem Yd {d:Addr}{od:Obj}{kvs:List (List Key×V)}{g:TG}{tb:TS}{D:Ends}{σ:St}{H:Hp}(Pv:Nat→St→Hp→Prop) (h0:Pv 0 σ H) (hf:∀ i σ H,Pv i σ H→H d=some (.frz od (.dT kvs)))
  (hs:∀ i kv σ H,kvs[i]?=some kv→Pv i σ H→g kv.2 σ H fun σ2 H2=>tb { D with nx:=Pv (i+1),ct:=Pv (i+1),bk:=D.nx } σ2 H2) (hd:∀ σ H,Pv kvs.length σ H→D.nx σ H) :
  ∃ W:Nat→Nat→St→Hp→Prop,(∃ m,W 0 m σ H)∧∀ i m σ H,W i m σ H →
   ((ItV d od kvs).stop i H∧D.nx σ H)∨((ItV d od kvs).go i H∧∃ N:St→Hp→Prop,(∀ σ' H',N σ' H'→∃ m',m'<m∧W (i+1) m' σ' H')∧∀ x H',(ItV d od kvs).yld i H x H'→g x σ H' fun σ2 H2=>tb { D with nx:=N,ct:=N,bk:=D.nx } σ2 H2):=by
 refine⟨fun i m σ H=>m=kvs.length-i∧i≤kvs.length∧Pv i σ H,⟨_,rfl,Nat.zero_le _,h0⟩,?_⟩
 rintro i m σ H ⟨rfl,hi,p⟩
 by_cases hlt:i<kvs.length
 ·refine .inr ⟨⟨hf i σ H p,hlt⟩,Pv (i+1),fun σ' H' p'=>⟨_,by omega,rfl,hlt,p'⟩,fun x H' y=>?_⟩
  obtain⟨rfl,kv,hk,rfl⟩:=y
  exact hs i kv σ _ hk p
 ·have e:i=kvs.length:=by omega
  subst e
  exact .inl ⟨⟨hf _ σ H p,Nat.le_refl _⟩,hd σ H p⟩
end L2
namespace K04
open PySem L2
structure Hs (hs:LI):Prop where
 l1:1≤hs.length
 l12:hs.length≤12
 up:hs.Pairwise (· < ·)
 lo:∀ h∈hs,0≤h
 hi:∀ h∈hs,h≤99
structure Ls (hs:LI) (ls:LP):Prop where
 nd:ls.Nodup
 ok:∀ p∈ls,p.1∈hs∧p.2∈hs∧p.1<p.2
 le:ls.length≤66
def Adj (ls:LP) (x y:Int):Prop:=(x,y)∈ls∨(y,x)∈ls
theorem Yz {as:LI}(h:as.Pairwise (· < ·)):as.Nodup:=h.imp fun {a b} z=>by omega
theorem yX:∀ {as bs:LI},as.Nodup→(∀ x∈as,x∈bs)→as.length≤bs.length
 |[],_,_,_=>Nat.zero_le _
 |a::as,bs,hn,hs=>by
  rw[List.nodup_cons] at hn
  have ha:=hs a List.mem_cons_self
  have ih:=yX (as:=as) (bs:=bs.erase a) hn.2 fun x hx=>by
   have ne:x≠a:=fun z=>hn.1 (by rw[← z];exact hx)
   exact(List.mem_erase_of_ne ne).mpr (hs x (List.mem_cons_of_mem _ hx))
  rw[List.length_erase_of_mem ha] at ih
  have:=List.length_pos_of_mem ha
  rw[List.length_cons];omega
def nbs (ls:LP) (h:Int):LI:=ls.flatMap fun p=>(if p.1=h then[p.2] else[])++if p.2=h then[p.1] else[]
theorem mem_nbs {ls:LP}{h x:Int}:x∈nbs ls h↔Adj ls h x:=by
 unfold nbs Adj
 rw[List.mem_flatMap]
 constructor
 ·rintro⟨⟨u,v⟩,hp,hx⟩
  dsimp only at hx
  rw[List.mem_append] at hx
  rcases hx with hx | hx
  ·split at hx
   ·rename_i e;subst e
    rw[List.mem_singleton] at hx;subst hx;exact .inl hp
   ·cases hx
  ·split at hx
   ·rename_i e;subst e
    rw[List.mem_singleton] at hx;subst hx;exact .inr hp
   ·cases hx
 ·rintro(h1 | h1)
  ·exact⟨_,h1,by simp⟩
  ·exact⟨_,h1,by simp⟩
theorem ZU {h:Int}:∀ {ls:LP},(nbs ls h).length≤2*ls.length
 |[]=>Nat.le_refl _
 |p::ls=>by
  have ih:=ZU (h:=h) (ls:=ls)
  unfold nbs at ih ⊢
  rw[List.flatMap_cons,List.length_append,List.length_append,List.length_cons]
  have h1:(if p.1=h then[p.2] else[]).length≤1:=by split<;>simp
  have h2:(if p.2=h then[p.1] else[]).length≤1:=by split<;>simp
  omega
theorem YX {ls:LP}{p:Int×Int}{h:Int}:nbs (ls++[p]) h=nbs ls h++((if p.1=h then[p.2] else[])++if p.2=h then[p.1] else[]):=by
 unfold nbs
 rw[List.flatMap_append,List.flatMap_cons,List.flatMap_nil,List.append_nil]
theorem YW {ls:LP}{p:Int×Int}{i:Nat}{h:Int}(e:ls[i]?=some p):nbs (ls.take (i+1)) h=nbs (ls.take i) h++((if p.1=h then[p.2] else[])++if p.2=h then[p.1] else[]):=by
 rw[List.take_add_one,e]
 exact YX
def top (i:Nat):Stmt:=PySem.Challenge.pw_beatless_k31_roads_told.main.body.getD i (.Pass ⟨0,0,0,0⟩)
abbrev Wq:Stmt:=top 8
abbrev Wp:Stmt:=top 10
abbrev Wo:Stmt:=top 12
abbrev Wn:Stmt:=top 13
abbrev Wm:Stmt:=top 14
abbrev Wl:Stmt:=top 15
abbrev Wk:Stmt:=top 16
abbrev Wj:Stmt:=top 17
abbrev Wi:Stmt:=top 18
abbrev Wh:Stmt:=top 19
abbrev Wg:Stmt:=top 20
abbrev Wf:Stmt:=top 21
abbrev We:Stmt:=top 22
abbrev Wd:Stmt:=top 24
abbrev Wc:Stmt:=top 25
abbrev Wb:Stmt:=top 26
abbrev Wa:Stmt:=top 27
abbrev X9:Stmt:=top 28
abbrev X8:Stmt:=top 29
abbrev X7:Stmt:=top 33
abbrev X6:Stmt:=top 34
abbrev X1:Stmt:=top 35
abbrev X0:Stmt:=top 36
abbrev XZ:Stmt:=top 39
abbrev XY:Stmt:=top 40
abbrev YD:Stmt:=top 41
abbrev WK:Stmt:=top 42
abbrev WJ:Stmt:=top 43
abbrev WI:Stmt:=top 44
abbrev WH:Stmt:=top 45
abbrev WG:Stmt:=top 46
abbrev WF:Stmt:=top 47
abbrev YG:Stmt:=top 48
abbrev WE:Stmt:=top 49
abbrev WD:Stmt:=top 50
abbrev YF:Stmt:=top 51
abbrev YE:Stmt:=top 52
abbrev WC:Stmt:=inClass (top 11) 0
abbrev WB:Stmt:=inClass (top 11) 1
abbrev WA:Stmt:=inClass (top 11) 2
abbrev Wz:Stmt:=inClass (top 11) 3
abbrev Wy:Stmt:=inClass (top 11) 4
abbrev Wx:Stmt:=inClass (top 11) 5
abbrev Ww:Stmt:=inClass (top 37) 0
abbrev Wv:Stmt:=inClass (top 37) 1
abbrev Wu:Stmt:=inClass (top 37) 2
abbrev Wt:Stmt:=inClass (top 37) 3
abbrev Ws:Stmt:=inClass (top 37) 4
abbrev Wr:Stmt:=inClass (top 37) 5
theorem Up:FnScope ["value"] ["value"] (defScope Wq):=⟨rfl,rfl,rfl,by decide +kernel,rfl,by decide +kernel,by decide +kernel⟩
theorem zc7:FnScope ["value"] ["value"] (defScope Wp):=⟨rfl,rfl,rfl,by decide +kernel,rfl,by decide +kernel,by decide +kernel⟩
theorem sc_qc:FnScope ["web", "parents", "hand", "parent"] ["web", "parents"] (defScope Wo):=⟨rfl,rfl,rfl,by decide +kernel,rfl,by decide +kernel,by decide +kernel⟩
theorem sc_qd:FnScope ["web", "way", "hand"] ["web", "way"] (defScope Wn):=⟨rfl,rfl,rfl,by decide +kernel,rfl,by decide +kernel,by decide +kernel⟩
theorem zc6:FnScope ["web", "way", "bridge"] ["web", "way", "bridge"] (defScope Wm):=⟨rfl,rfl,rfl,by decide +kernel,rfl,by decide +kernel,by decide +kernel⟩
theorem sc_qf:FnScope ["web", "way", "bridges", "seen", "bridge"] ["web", "way", "bridges"] (defScope Wl):=⟨rfl,rfl,rfl,by decide +kernel,rfl,by decide +kernel,by decide +kernel⟩
theorem zc5:FnScope ["web", "way"] ["web", "way"] (defScope Wk):=⟨rfl,rfl,rfl,by decide +kernel,rfl,by decide +kernel,by decide +kernel⟩
theorem sc_qh:FnScope ["way", "lines", "found", "one", "other", "leaders"] ["way", "lines"] (defScope Wj):=⟨rfl,rfl,rfl,by decide +kernel,rfl,by decide +kernel,by decide +kernel⟩
theorem sc_qi:FnScope ["web", "way", "bridged", "leaders"] ["web", "way"] (defScope Wi):=⟨rfl,rfl,rfl,by decide +kernel,rfl,by decide +kernel,by decide +kernel⟩
theorem zc4:FnScope ["web", "way"] ["web", "way"] (defScope Wh):=⟨rfl,rfl,rfl,by decide +kernel,rfl,by decide +kernel,by decide +kernel⟩
theorem sc_qk:FnScope ["web", "left", "parents", "ring", "found", "hand", "other"] ["web", "left", "parents", "ring"] (defScope Wg):=⟨rfl,rfl,rfl,by decide +kernel,rfl,by decide +kernel,by decide +kernel⟩
theorem sc_ql:FnScope ["web", "left", "reach", "parents", "ring", "steps", "found"] ["web", "left", "reach"] (defScope Wf):=⟨rfl,rfl,rfl,by decide +kernel,rfl,by decide +kernel,by decide +kernel⟩
theorem sc_qm:FnScope ["web", "reach", "parents", "left", "joins"] ["web", "reach"] (defScope We):=⟨rfl,rfl,rfl,by decide +kernel,rfl,by decide +kernel,by decide +kernel⟩
theorem sc_qn:FnScope ["way", "hand", "neighbour", "down"] ["way", "hand", "neighbour"] (defScope Wd):=⟨rfl,rfl,rfl,by decide +kernel,rfl,by decide +kernel,by decide +kernel⟩
theorem zc3:FnScope ["way", "hand", "neighbour", "bridge"] ["way", "hand", "neighbour", "bridge"] (defScope Wc):=⟨rfl,rfl,rfl,by decide +kernel,rfl,by decide +kernel,by decide +kernel⟩
theorem sc_qp:FnScope ["way", "found", "one", "other"] ["way"] (defScope Wb):=⟨rfl,rfl,rfl,by decide +kernel,rfl,by decide +kernel,by decide +kernel⟩
theorem sc_qq:FnScope ["way", "bridges", "hand", "neighbour", "leaders"] ["way", "bridges", "hand", "neighbour"] (defScope Wa):=⟨rfl,rfl,rfl,by decide +kernel,rfl,by decide +kernel,by decide +kernel⟩
theorem sc_qr:FnScope ["web", "pairs", "one", "other"] ["web"] (defScope X9):=⟨rfl,rfl,rfl,by decide +kernel,rfl,by decide +kernel,by decide +kernel⟩
theorem sc_qs:FnScope ["web", "way", "bridges", "paper", "hand", "neighbour"] ["web", "way"] (defScope X8):=⟨rfl,rfl,rfl,by decide +kernel,rfl,by decide +kernel,by decide +kernel⟩
theorem sc_qt:FnScope ["hands", "ahead", "hand"] ["hands"] (defScope X7):=⟨rfl,rfl,rfl,by decide +kernel,rfl,by decide +kernel,by decide +kernel⟩
theorem zc2:FnScope ["line", "hands"] ["line", "hands"] (defScope X6):=⟨rfl,rfl,rfl,by decide +kernel,rfl,by decide +kernel,by decide +kernel⟩
theorem sc_qv:FnScope ["lines", "hands", "seen", "line"] ["lines", "hands"] (defScope X1):=⟨rfl,rfl,rfl,by decide +kernel,rfl,by decide +kernel,by decide +kernel⟩
theorem sc_qw:FnScope ["hands", "lines", "near", "hand", "one", "other"] ["hands", "lines"] (defScope X0):=⟨rfl,rfl,rfl,by decide +kernel,rfl,by decide +kernel,by decide +kernel⟩
theorem zc1:FnScope ["_law_script", "_law_k"] ["_law_script", "_law_k"] (defScope XZ):=⟨rfl,rfl,rfl,by decide +kernel,rfl,by decide +kernel,by decide +kernel⟩
theorem sc_qy:FnScope ["_law_cell", "_law_many", "_law_found", "_law_rest", "_law_number", "_law_k", "_law_mixed"] ["_law_cell", "_law_many"] (defScope XY):=⟨rfl,rfl,rfl,by decide +kernel,rfl,by decide +kernel,by decide +kernel⟩
theorem zc0:FnScope ["_law_xs", "_law_size"] ["_law_xs", "_law_size"] (defScope YD):=⟨rfl,rfl,rfl,by decide +kernel,rfl,by decide +kernel,by decide +kernel⟩
theorem sc_qA:FnScope ["_law_xs", "_law_most", "_law_hand", "_law_found", "_law_k"] ["_law_xs", "_law_most"] (defScope WK):=⟨rfl,rfl,rfl,by decide +kernel,rfl,by decide +kernel,by decide +kernel⟩
theorem sc_qB:FnScope ["_law_xs", "_law_hands_here", "_law_way", "_law_found", "_law_j", "_law_k", "_law_near_here", "_law_draw", "_law_at"] ["_law_xs", "_law_hands_here"] (defScope WJ):=⟨rfl,rfl,rfl,by decide +kernel,rfl,by decide +kernel,by decide +kernel⟩
theorem sc_qC:FnScope ["_law_xs", "_law_most", "_law_hands_here", "_law_lines_here"] ["_law_xs"] (defScope WI):=⟨rfl,rfl,rfl,by decide +kernel,rfl,by decide +kernel,by decide +kernel⟩
theorem sc_qD:FnScope ["_law_lines_here", "_law_hand", "_law_found"] ["_law_lines_here", "_law_hand"] (defScope WH):=⟨rfl,rfl,rfl,by decide +kernel,rfl,by decide +kernel,by decide +kernel⟩
theorem sc_qE:FnScope ["_law_parents", "_law_hand", "_law_found"] ["_law_parents", "_law_hand"] (defScope WG):=⟨rfl,rfl,rfl,by decide +kernel,rfl,by decide +kernel,by decide +kernel⟩
theorem zdi:FnScope ["_law_parents", "_law_one", "_law_other"] ["_law_parents", "_law_one", "_law_other"] (defScope WF):=⟨rfl,rfl,rfl,by decide +kernel,rfl,by decide +kernel,by decide +kernel⟩
theorem sc_qG:FnScope ["_law_xs", "_law_hands_here", "_law_lines_here", "_law_parents", "_law_left", "_law_hand", "_law_near_here", "_law_bridges", "_law_joined", "_law_line", "_law_both_here", "_law_at"] ["_law_xs", "_law_hands_here", "_law_lines_here"] (defScope YG):=⟨rfl,rfl,rfl,by decide +kernel,rfl,by decide +kernel,by decide +kernel⟩
theorem sc_qH:FnScope ["_law_parents", "_law_bridges", "_law_hand", "_law_other", "_law_up_here", "_law_down", "_law_found", "_law_one", "_law_two", "_law_near_here", "_law_far"] ["_law_parents", "_law_bridges", "_law_hand", "_law_other"] (defScope WE):=⟨rfl,rfl,rfl,by decide +kernel,rfl,by decide +kernel,by decide +kernel⟩
theorem sc_qI:FnScope ["_law_web", "_law_way", "_law_word", "e", "_law_others"] ["_law_web", "_law_way"] (defScope WD):=⟨rfl,rfl,rfl,by decide +kernel,rfl,by decide +kernel,by decide +kernel⟩
theorem sc_qJ:FnScope ["_law_web", "_law_hands_here", "_law_lines_here", "_law_parents", "_law_bridges", "_law_due", "_law_hand", "_law_other", "_law_turn", "_law_found", "_law_road"] ["_law_web", "_law_hands_here", "_law_lines_here", "_law_parents", "_law_bridges"] (defScope YF):=⟨rfl,rfl,rfl,by decide +kernel,rfl,by decide +kernel,by decide +kernel⟩
theorem sc_qK:FnScope ["_law_script", "_law_cell", "_law_xs", "_law_hands_here", "_law_lines_here", "_law_web", "_law_parents", "_law_bridges", "_law_made", "_law_none"] ["_law_script"] (defScope YE):=⟨rfl,rfl,rfl,by decide +kernel,rfl,by decide +kernel,by decide +kernel⟩
theorem zdh:FnScope ["self", "parents", "bridges"] ["self", "parents", "bridges"] (defScope WC):=⟨rfl,rfl,rfl,by decide +kernel,rfl,by decide +kernel,by decide +kernel⟩
theorem sc_qM:FnScope ["self", "hand", "each", "parent"] ["self", "hand"] (defScope WB):=⟨rfl,rfl,rfl,by decide +kernel,rfl,by decide +kernel,by decide +kernel⟩
theorem zdg:FnScope ["self"] ["self"] (defScope WA):=⟨rfl,rfl,rfl,by decide +kernel,rfl,by decide +kernel,by decide +kernel⟩
theorem zdf:FnScope ["self"] ["self"] (defScope Wz):=⟨rfl,rfl,rfl,by decide +kernel,rfl,by decide +kernel,by decide +kernel⟩
theorem sc_qP:FnScope ["self", "hand", "path", "above"] ["self", "hand"] (defScope Wy):=⟨rfl,rfl,rfl,by decide +kernel,rfl,by decide +kernel,by decide +kernel⟩
theorem zde:FnScope ["self", "hand"] ["self", "hand"] (defScope Wx):=⟨rfl,rfl,rfl,by decide +kernel,rfl,by decide +kernel,by decide +kernel⟩
theorem zdd:FnScope ["self", "hands", "lines"] ["self", "hands", "lines"] (defScope Ww):=⟨rfl,rfl,rfl,by decide +kernel,rfl,by decide +kernel,by decide +kernel⟩
theorem zdc:FnScope ["self"] ["self"] (defScope Wv):=⟨rfl,rfl,rfl,by decide +kernel,rfl,by decide +kernel,by decide +kernel⟩
theorem zdb:FnScope ["self"] ["self"] (defScope Wu):=⟨rfl,rfl,rfl,by decide +kernel,rfl,by decide +kernel,by decide +kernel⟩
theorem zda:FnScope ["self", "hand"] ["self", "hand"] (defScope Wt):=⟨rfl,rfl,rfl,by decide +kernel,rfl,by decide +kernel,by decide +kernel⟩
theorem zc9:FnScope ["self", "one", "other"] ["self", "one", "other"] (defScope Ws):=⟨rfl,rfl,rfl,by decide +kernel,rfl,by decide +kernel,by decide +kernel⟩
theorem zc8:FnScope ["self", "hand"] ["self", "hand"] (defScope Wr):=⟨rfl,rfl,rfl,by decide +kernel,rfl,by decide +kernel,by decide +kernel⟩
set_option genInjectivity false in
set_option genSizeOf false in
structure Ad where
 f_qa:Addr
 d_qa:FuncData
 f_qb:Addr
 d_qb:FuncData
 f_qc:Addr
 d_qc:FuncData
 f_qd:Addr
 d_qd:FuncData
 f_qe:Addr
 d_qe:FuncData
 f_qf:Addr
 d_qf:FuncData
 f_qg:Addr
 d_qg:FuncData
 f_qh:Addr
 d_qh:FuncData
 f_qi:Addr
 d_qi:FuncData
 f_qj:Addr
 d_qj:FuncData
 f_qk:Addr
 d_qk:FuncData
 f_ql:Addr
 d_ql:FuncData
 f_qm:Addr
 d_qm:FuncData
 f_qn:Addr
 d_qn:FuncData
 f_qo:Addr
 d_qo:FuncData
 f_qp:Addr
 d_qp:FuncData
 f_qq:Addr
 d_qq:FuncData
 f_qr:Addr
 d_qr:FuncData
 f_qs:Addr
 d_qs:FuncData
 f_qt:Addr
 d_qt:FuncData
 f_qu:Addr
 d_qu:FuncData
 f_qv:Addr
 d_qv:FuncData
 f_qw:Addr
 d_qw:FuncData
 f_qx:Addr
 d_qx:FuncData
 f_qy:Addr
 d_qy:FuncData
 f_qz:Addr
 d_qz:FuncData
 f_qA:Addr
 d_qA:FuncData
 f_qB:Addr
 d_qB:FuncData
 f_qC:Addr
 d_qC:FuncData
 f_qD:Addr
 d_qD:FuncData
 f_qE:Addr
 d_qE:FuncData
 f_qF:Addr
 d_qF:FuncData
 f_qG:Addr
 d_qG:FuncData
 f_qH:Addr
 d_qH:FuncData
 f_qI:Addr
 d_qI:FuncData
 f_qJ:Addr
 d_qJ:FuncData
 f_qK:Addr
 d_qK:FuncData
 f_qL:Addr
 d_qL:FuncData
 f_qM:Addr
 d_qM:FuncData
 f_qN:Addr
 d_qN:FuncData
 f_qO:Addr
 d_qO:FuncData
 f_qP:Addr
 d_qP:FuncData
 f_qQ:Addr
 d_qQ:FuncData
 f_qR:Addr
 d_qR:FuncData
 f_qS:Addr
 d_qS:FuncData
 f_qT:Addr
 d_qT:FuncData
 f_qU:Addr
 d_qU:FuncData
 f_qV:Addr
 d_qV:FuncData
 f_qW:Addr
 d_qW:FuncData
 c_Way:Addr
 c_Web:Addr
 c_NoWay:Addr
 c_BeatlessError:Addr
 c_NoHand:Addr
 c_NoProgram:Addr
 c_NoWeb:Addr
 t_MOST_HANDS:Tok
 t_LAST_HAND:Tok
structure Txt (w:World) (K:PySem.W.Frag) (mg:Str→Option Value) (a:Ad):Prop where
 n_len:mg "len" = none
 n_int:mg "int" = none
 n_range:mg "range" = none
 n_isinstance:mg "isinstance" = none
 n_list:mg "list" = none
 n_dict:mg "dict" = none
 n_sorted:mg "sorted" = none
 n_bool:mg "bool" = none
 n_tuple:mg "tuple" = none
 n_reversed:mg "reversed" = none
 n_ValueError:mg "ValueError" = none
 F_qa:Fun K "is_whole" "is_whole" Wq a.f_qa a.d_qa
 b_qa:Binds K a.d_qa ["value"] []
 g_qa:mg "is_whole" = some (.ref a.f_qa)
 F_qb:Fun K "copied" "copied" Wp a.f_qb a.d_qb
 b_qb:Binds K a.d_qb ["value"] []
 g_qb:mg "copied" = some (.ref a.f_qb)
 F_qc:Fun K "are_parents" "are_parents" Wo a.f_qc a.d_qc
 b_qc:Binds K a.d_qc ["web", "parents"] []
 g_qc:mg "are_parents" = some (.ref a.f_qc)
 F_qd:Fun K "come_to_leaders" "come_to_leaders" Wn a.f_qd a.d_qd
 b_qd:Binds K a.d_qd ["web", "way"] []
 g_qd:mg "come_to_leaders" = some (.ref a.f_qd)
 F_qe:Fun K "is_bridge" "is_bridge" Wm a.f_qe a.d_qe
 b_qe:Binds K a.d_qe ["web", "way", "bridge"] []
 g_qe:mg "is_bridge" = some (.ref a.f_qe)
 F_qf:Fun K "are_bridges" "are_bridges" Wl a.f_qf a.d_qf
 b_qf:Binds K a.d_qf ["web", "way", "bridges"] []
 g_qf:mg "are_bridges" = some (.ref a.f_qf)
 F_qg:Fun K "is_grounded" "is_grounded" Wk a.f_qg a.d_qg
 b_qg:Binds K a.d_qg ["web", "way"] []
 g_qg:mg "is_grounded" = some (.ref a.f_qg)
 F_qh:Fun K "first_joins" "first_joins" Wj a.f_qh a.d_qh
 b_qh:Binds K a.d_qh ["way", "lines"] []
 g_qh:mg "first_joins" = some (.ref a.f_qh)
 F_qi:Fun K "lets" "lets" Wi a.f_qi a.d_qi
 b_qi:Binds K a.d_qi ["web", "way"] []
 g_qi:mg "lets" = some (.ref a.f_qi)
 F_qj:Fun K "refuse_unlet" "refuse_unlet" Wh a.f_qj a.d_qj
 b_qj:Binds K a.d_qj ["web", "way"] []
 g_qj:mg "refuse_unlet" = some (.ref a.f_qj)
 F_qk:Fun K "next_ring" "next_ring" Wg a.f_qk a.d_qk
 b_qk:Binds K a.d_qk ["web", "left", "parents", "ring"] []
 g_qk:mg "next_ring" = some (.ref a.f_qk)
 F_ql:Fun K "parents_in_cluster" "parents_in_cluster" Wf a.f_ql a.d_ql
 b_ql:Binds K a.d_ql ["web", "left", "reach"] []
 g_ql:mg "parents_in_cluster" = some (.ref a.f_ql)
 F_qm:Fun K "by_clusters" "by_clusters" We a.f_qm a.d_qm
 b_qm:Binds K a.d_qm ["web", "reach"] []
 g_qm:mg "by_clusters" = some (.ref a.f_qm)
 F_qn:Fun K "road_within" "road_within" Wd a.f_qn a.d_qn
 b_qn:Binds K a.d_qn ["way", "hand", "neighbour"] []
 g_qn:mg "road_within" = some (.ref a.f_qn)
 F_qo:Fun K "road_over" "road_over" Wc a.f_qo a.d_qo
 b_qo:Binds K a.d_qo ["way", "hand", "neighbour", "bridge"] []
 g_qo:mg "road_over" = some (.ref a.f_qo)
 F_qp:Fun K "bridges_by_leaders" "bridges_by_leaders" Wb a.f_qp a.d_qp
 b_qp:Binds K a.d_qp ["way"] []
 g_qp:mg "bridges_by_leaders" = some (.ref a.f_qp)
 F_qq:Fun K "roads_for" "roads_for" Wa a.f_qq a.d_qq
 b_qq:Binds K a.d_qq ["way", "bridges", "hand", "neighbour"] []
 g_qq:mg "roads_for" = some (.ref a.f_qq)
 F_qr:Fun K "pairs_of" "pairs_of" X9 a.f_qr a.d_qr
 b_qr:Binds K a.d_qr ["web"] []
 g_qr:mg "pairs_of" = some (.ref a.f_qr)
 F_qs:Fun K "roads" "roads" X8 a.f_qs a.d_qs
 b_qs:Binds K a.d_qs ["web", "way"] []
 g_qs:mg "roads" = some (.ref a.f_qs)
 F_qt:Fun K "are_hands" "are_hands" X7 a.f_qt a.d_qt
 b_qt:Binds K a.d_qt ["hands"] []
 g_qt:mg "are_hands" = some (.ref a.f_qt)
 F_qu:Fun K "is_line" "is_line" X6 a.f_qu a.d_qu
 b_qu:Binds K a.d_qu ["line", "hands"] []
 g_qu:mg "is_line" = some (.ref a.f_qu)
 F_qv:Fun K "are_lines" "are_lines" X1 a.f_qv a.d_qv
 b_qv:Binds K a.d_qv ["lines", "hands"] []
 g_qv:mg "are_lines" = some (.ref a.f_qv)
 F_qw:Fun K "near_by_hand" "near_by_hand" X0 a.f_qw a.d_qw
 b_qw:Binds K a.d_qw ["hands", "lines"] []
 g_qw:mg "near_by_hand" = some (.ref a.f_qw)
 F_qx:Fun K "_law_cell_at" "_law_cell_at" XZ a.f_qx a.d_qx
 b_qx:Binds K a.d_qx ["_law_script", "_law_k"] []
 g_qx:mg "_law_cell_at" = some (.ref a.f_qx)
 F_qy:Fun K "_law_draws" "_law_draws" XY a.f_qy a.d_qy
 b_qy:Binds K a.d_qy ["_law_cell", "_law_many"] []
 g_qy:mg "_law_draws" = some (.ref a.f_qy)
 F_qz:Fun K "_law_take" "_law_take" YD a.f_qz a.d_qz
 b_qz:Binds K a.d_qz ["_law_xs", "_law_size"] []
 g_qz:mg "_law_take" = some (.ref a.f_qz)
 F_qA:Fun K "_law_hands" "_law_hands" WK a.f_qA a.d_qA
 b_qA:Binds K a.d_qA ["_law_xs", "_law_most"] []
 g_qA:mg "_law_hands" = some (.ref a.f_qA)
 F_qB:Fun K "_law_lines" "_law_lines" WJ a.f_qB a.d_qB
 b_qB:Binds K a.d_qB ["_law_xs", "_law_hands_here"] []
 g_qB:mg "_law_lines" = some (.ref a.f_qB)
 F_qC:Fun K "_law_web_drawn" "_law_web_drawn" WI a.f_qC a.d_qC
 b_qC:Binds K a.d_qC ["_law_xs"] []
 g_qC:mg "_law_web_drawn" = some (.ref a.f_qC)
 F_qD:Fun K "_law_near" "_law_near" WH a.f_qD a.d_qD
 b_qD:Binds K a.d_qD ["_law_lines_here", "_law_hand"] []
 g_qD:mg "_law_near" = some (.ref a.f_qD)
 F_qE:Fun K "_law_up" "_law_up" WG a.f_qE a.d_qE
 b_qE:Binds K a.d_qE ["_law_parents", "_law_hand"] []
 g_qE:mg "_law_up" = some (.ref a.f_qE)
 F_qF:Fun K "_law_both" "_law_both" WF a.f_qF a.d_qF
 b_qF:Binds K a.d_qF ["_law_parents", "_law_one", "_law_other"] []
 g_qF:mg "_law_both" = some (.ref a.f_qF)
 F_qG:Fun K "_law_drawn_way" "_law_drawn_way" YG a.f_qG a.d_qG
 b_qG:Binds K a.d_qG ["_law_xs", "_law_hands_here", "_law_lines_here"] []
 g_qG:mg "_law_drawn_way" = some (.ref a.f_qG)
 F_qH:Fun K "_law_roads" "_law_roads" WE a.f_qH a.d_qH
 b_qH:Binds K a.d_qH ["_law_parents", "_law_bridges", "_law_hand", "_law_other"] []
 g_qH:mg "_law_roads" = some (.ref a.f_qH)
 F_qI:Fun K "_law_refused" "_law_refused" WD a.f_qI a.d_qI
 b_qI:Binds K a.d_qI ["_law_web", "_law_way"] []
 g_qI:mg "_law_refused" = some (.ref a.f_qI)
 F_qJ:Fun K "_law_right" "_law_right" YF a.f_qJ a.d_qJ
 b_qJ:Binds K a.d_qJ ["_law_web", "_law_hands_here", "_law_lines_here", "_law_parents", "_law_bridges"] []
 g_qJ:mg "_law_right" = some (.ref a.f_qJ)
 F_qK:Fun K "law" "law" YE a.f_qK a.d_qK
 b_qK:Binds K a.d_qK ["_law_script"] []
 b0_qK:∀ (s:Shared) (u:Value),BindsTo s a.d_qK ⟨[u],[]⟩ [("_law_script",u)]
 g_qK:mg "law" = some (.ref a.f_qK)
 F_qL:Fun K "__init__" "Way.__init__" WC a.f_qL a.d_qL
 b_qL:Binds K a.d_qL ["self", "parents", "bridges"] []
 F_qM:Fun K "parent_of" "Way.parent_of" WB a.f_qM a.d_qM
 b_qM:Binds K a.d_qM ["self", "hand"] []
 mt_qM:Meth K a.c_Way "parent_of" a.f_qM
 F_qN:Fun K "all_parents" "Way.all_parents" WA a.f_qN a.d_qN
 b_qN:Binds K a.d_qN ["self"] []
 mt_qN:Meth K a.c_Way "all_parents" a.f_qN
 F_qO:Fun K "all_bridges" "Way.all_bridges" Wz a.f_qO a.d_qO
 b_qO:Binds K a.d_qO ["self"] []
 mt_qO:Meth K a.c_Way "all_bridges" a.f_qO
 F_qP:Fun K "path_up" "Way.path_up" Wy a.f_qP a.d_qP
 b_qP:Binds K a.d_qP ["self", "hand"] []
 mt_qP:Meth K a.c_Way "path_up" a.f_qP
 F_qQ:Fun K "leader" "Way.leader" Wx a.f_qQ a.d_qQ
 b_qQ:Binds K a.d_qQ ["self", "hand"] []
 mt_qQ:Meth K a.c_Way "leader" a.f_qQ
 F_qR:Fun K "__init__" "Web.__init__" Ww a.f_qR a.d_qR
 b_qR:Binds K a.d_qR ["self", "hands", "lines"] []
 F_qS:Fun K "hands" "Web.hands" Wv a.f_qS a.d_qS
 b_qS:Binds K a.d_qS ["self"] []
 mt_qS:Meth K a.c_Web "hands" a.f_qS
 F_qT:Fun K "lines" "Web.lines" Wu a.f_qT a.d_qT
 b_qT:Binds K a.d_qT ["self"] []
 mt_qT:Meth K a.c_Web "lines" a.f_qT
 F_qU:Fun K "has_hand" "Web.has_hand" Wt a.f_qU a.d_qU
 b_qU:Binds K a.d_qU ["self", "hand"] []
 mt_qU:Meth K a.c_Web "has_hand" a.f_qU
 F_qV:Fun K "has_line" "Web.has_line" Ws a.f_qV a.d_qV
 b_qV:Binds K a.d_qV ["self", "one", "other"] []
 mt_qV:Meth K a.c_Web "has_line" a.f_qV
 F_qW:Fun K "neighbours" "Web.neighbours" Wr a.f_qW a.d_qW
 b_qW:Binds K a.d_qW ["self", "hand"] []
 mt_qW:Meth K a.c_Web "neighbours" a.f_qW
 g_Way:mg "Way" = some (.ref a.c_Way)
 cl_Way:Cls K a.c_Way
 mk_Way:Mk K a.c_Way a.f_qL
 ty_Way:∀ (H:Hp) (p dx:Addr) (fs:List (Str×V)),H p=some (.ins a.c_Way dx fs)→TyOf K H (.ref p) (.ref a.c_Way)
 na_Way_own_parents:NoAttr K a.c_Way "own_parents"
 na_Way_own_bridges:NoAttr K a.c_Way "own_bridges"
 g_Web:mg "Web" = some (.ref a.c_Web)
 cl_Web:Cls K a.c_Web
 mk_Web:Mk K a.c_Web a.f_qR
 ty_Web:∀ (H:Hp) (p dx:Addr) (fs:List (Str×V)),H p=some (.ins a.c_Web dx fs)→TyOf K H (.ref p) (.ref a.c_Web)
 na_Web_own_hands:NoAttr K a.c_Web "own_hands"
 na_Web_own_lines:NoAttr K a.c_Web "own_lines"
 na_Web_near:NoAttr K a.c_Web "near"
 k_tint_tint:PySem.W.kitOne K (.type "int") (.type "int")=some true
 k_tint_tbool:PySem.W.kitOne K (.type "int") (.type "bool")=some false
 k_tlist_tlist:PySem.W.kitOne K (.type "list") (.type "list")=some true
 k_ttuple_ttuple:PySem.W.kitOne K (.type "tuple") (.type "tuple")=some true
 k_ttuple_tlist:PySem.W.kitOne K (.type "tuple") (.type "list")=some false
 k_tdict_tlist:PySem.W.kitOne K (.type "dict") (.type "list")=some false
 k_tdict_ttuple:PySem.W.kitOne K (.type "dict") (.type "tuple")=some false
 k_tdict_tdict:PySem.W.kitOne K (.type "dict") (.type "dict")=some true
 k_tint_tlist:PySem.W.kitOne K (.type "int") (.type "list")=some false
 k_tint_ttuple:PySem.W.kitOne K (.type "int") (.type "tuple")=some false
 k_tint_tdict:PySem.W.kitOne K (.type "int") (.type "dict")=some false
 k_tNoneType_tlist:PySem.W.kitOne K (.type "NoneType") (.type "list")=some false
 k_tNoneType_ttuple:PySem.W.kitOne K (.type "NoneType") (.type "tuple")=some false
 k_tNoneType_tdict:PySem.W.kitOne K (.type "NoneType") (.type "dict")=some false
 k_tNoneType_tint:PySem.W.kitOne K (.type "NoneType") (.type "int")=some false
 k_tstr_tint:PySem.W.kitOne K (.type "str") (.type "int")=some false
 k_Way_Way:PySem.W.kitOne K (.ref a.c_Way) (.ref a.c_Way)=some true
 k_tbool_tbool:PySem.W.kitOne K (.type "bool") (.type "bool")=some true
 k_NoWay_NoHand:PySem.W.kitOne K (.ref a.c_NoWay) (.ref a.c_NoHand)=some false
 k_NoWay_NoProgram:PySem.W.kitOne K (.ref a.c_NoWay) (.ref a.c_NoProgram)=some false
 k_NoWay_NoWeb:PySem.W.kitOne K (.ref a.c_NoWay) (.ref a.c_NoWeb)=some false
 k_NoWay_tValueError:PySem.W.kitOne K (.ref a.c_NoWay) (.type "ValueError")=some true
 k_NoWay_NoWay:PySem.W.kitOne K (.ref a.c_NoWay) (.ref a.c_NoWay)=some true
 g_MOST_HANDS:mg "MOST_HANDS" = some (.int 12 a.t_MOST_HANDS)
 g_LAST_HAND:mg "LAST_HAND" = some (.int 99 a.t_LAST_HAND)
 g_NoWay:mg "NoWay" = some (.ref a.c_NoWay)
 xc_NoWay:XCls K a.c_NoWay
 g_BeatlessError:mg "BeatlessError" = some (.ref a.c_BeatlessError)
 xc_BeatlessError:XCls K a.c_BeatlessError
 g_NoHand:mg "NoHand" = some (.ref a.c_NoHand)
 g_NoProgram:mg "NoProgram" = some (.ref a.c_NoProgram)
 g_NoWeb:mg "NoWeb" = some (.ref a.c_NoWeb)
 xi_NoWay:XIs K a.c_NoWay
 xu_NoWay_BeatlessError:VT K a.c_NoWay a.c_BeatlessError=some true
def LnAt (H:Hp) (rs:List V) (ls:LP):Prop:=rs.length=ls.length∧∀ (i:Nat) r p,rs[i]?=some r→ls[i]?=some p→∃ q,r=.ref q∧H q=some (.tup [.int p.1,.int p.2])
theorem LnAt.same {H H':Hp}{rs:List V}{ls:LP}(h:LnAt H rs ls) (s:Same H H'):LnAt H' rs ls:=⟨h.1,fun i r p h1 h2=>by
 obtain⟨q,e,t⟩:=h.2 i r p h1 h2
 exact⟨q,e,s _ _ t⟩⟩
theorem LnAt.get {H:Hp}{rs:List V}{ls:LP}(h:LnAt H rs ls){i:Nat}{r:V}(e:rs[i]?=some r):∃ p q,ls[i]?=some p∧r=.ref q∧H q=some (.tup [.int p.1,.int p.2]):=by
 have hi:i<ls.length:=by rw[← h.1];exact(List.getElem?_eq_some_iff.mp e).1
 have hp:ls[i]?=some ls[i]:=by simp[hi]
 obtain⟨q,e1,e2⟩:=h.2 i r _ e hp
 exact⟨_,q,hp,e1,e2⟩
theorem yZ {x:Int}:∀ {ns:LI},inV (.int x) (ns.map V.int)=decide (x∈ns)
 |[]=>by simp[inV]
 |n::ns=>by
  have ih:=yZ (x:=x) (ns:=ns)
  unfold inV at ih ⊢
  rw[List.map_cons,List.any_cons,ih]
  show((n == x)||decide (x∈ns))=decide (x∈n::ns)
  by_cases e:n=x
  ·simp[e]
  ·have e':¬ x=n:=fun z=>e z.symm
   simp[e,e']
theorem yD (ns:LI):(ns.map V.int).all wA=true:=by
 rw[List.all_eq_true]
 intro v hv
 obtain⟨x,_,rfl⟩:=List.mem_map.mp hv
 rfl
section
variable {P:Program}{w:World}{K:PySem.W.Frag}{mg:Str→Option Value}{base:Heap}{a:Ad}
def wW:Sp:=fun vs H Q _=>∃ i:Int,vs=[.int i]∧Q (.bl true) H
theorem w4 (T:Txt w K mg a):FnOk P w K mg base CX0 1 a.f_qa a.d_qa ["value"] wW:=by
 refine T.F_qa.ok Up (fun vs H Q E h=>?_) (fun cdv A outer s H vs Q E hr h=>?_)
 ·obtain⟨i,rfl,_⟩:=h
  rfl
 ·obtain⟨i,rfl,k⟩:=h
  refine zM (zb (zg (yz (zi zS (by rfl) T.n_isinstance zo (zd (zf 0) (zd (zR T.n_int Yq) za))) (yp (xU (zi zS (by rfl) T.n_isinstance zo (zd (zf 0) (zd (zR T.n_bool uf) za)))))))) ?_
  refine⟨_,rfl,_,_,_,_,_,rfl,rfl,.int i,T.k_tint_tint,_,rfl,xH ?_⟩
  exact⟨_,rfl,_,_,_,_,_,rfl,rfl,.int i,T.k_tint_tbool,_,rfl,k⟩
def ZA:Sp:=fun vs H Q _=>∃ (h:Addr) (hs:LI),vs=[.ref h]∧H h=some (.lst (hs.map V.int))∧Hs hs∧Q (.bl true) H
theorem YT (T:Txt w K mg a):FnOk P w K mg base CX0 2 a.f_qt a.d_qt ["hands"] ZA:=by
 have c_qa:Callee P w K mg base "is_whole" a.f_qa a.d_qa ["value"] 1 wW:=⟨w4 T,T.g_qa,T.F_qa.kp,T.b_qa⟩
 refine T.F_qt.ok sc_qt (fun vs H Q E h=>?_) (fun cdv A outer s H vs Q E hr h=>?_)
 ·obtain⟨h,hs,rfl,_⟩:=h
  rfl
 ·obtain⟨h,hs,rfl,hh,W,k⟩:=h
  have w1:=W.l1
  have w12:=W.l12
  refine zM (w_pss_cons (zu (we (yg (zG (zy (zi zS (by rfl) T.n_isinstance zo (zd (zf 0) (zd (zR T.n_list bt_list) za))))) (yg (zl vC (zi zD (by rfl) T.n_len yu (zd (zf 0) za)) ze (zC _)) (yb (zl u4 (zi zD (by rfl) T.n_len yu (zd (zf 0) za)) (vm (v:=.int 12) rfl T.g_MOST_HANDS ⟨_,rfl⟩) (zC _))))))
    (zb (zg zF))
    zk)
   (w_pss_cons (w_ps_set (i:=1) sc_qt.nd rfl (Or.inl rfl) (yj yJ ze))
   (w_pss_cons (zE PassesOwn.never rfl (zw (zf 0)) (zh (i:=2) sc_qt.nd rfl (Or.inl rfl))
    (w_pss_cons (zu (we (yg (zG (zy (zm c_qa hr.m (zd (zf 2) za)))) (yg (zl zdt (zf 2) (zf 1) (zC _)) (yb (zl u4 (zf 2) (vm (v:=.int 99) rfl T.g_LAST_HAND ⟨_,rfl⟩) (zC _))))))
     (zb (zg zF))
     zk)
    (zb (w_ps_set (i:=1) sc_qt.nd rfl (Or.inl rfl) (zf 2)))))
   (zb (zg zF))))) ?_
  refine⟨_,rfl,_,_,_,_,_,rfl,rfl,.lst hh,T.k_tlist_tlist,_,rfl,iteN rfl ?_⟩
  refine⟨_,rfl,h,_,rfl,.inl (SqL.of hh),_,_,rfl,rfl,_,rfl,iteN (decide_eq_false (by rw[List.length_map];omega)) ?_⟩
  refine⟨_,rfl,h,_,rfl,.inl (SqL.of hh),_,_,rfl,rfl,_,rfl,iteN (decide_eq_false (by rw[List.length_map];omega)) ?_⟩
  refine⟨1,rfl,_,rfl,h,rfl,⟨_,SqL.of hh⟩,?_⟩
  refine for_list (K:=K) (a:=h) (xs:=hs.map V.int) (fun i σ H'=>H'=H∧∃ (m:Int) (o:Option V),σ=[some (.ref h),some (.int m),o]∧-1≤m∧∀ j x,i≤j→hs[j]?=some x→m<x) ?_ ?_ ?_ ?_
  ·refine⟨rfl,-1,none,rfl,Int.le_refl _,fun j x _ hx=>?_⟩
   have:=W.lo x (List.mem_of_getElem? hx)
   omega
  ·rintro i σ H' _ ⟨rfl,_⟩
   exact SqL.of hh
  ·rintro i x σ H' hi ⟨rfl,m,o,rfl,hm,hall⟩
   rw[List.getElem?_map] at hi
   obtain⟨y,hy,rfl⟩:=Option.map_eq_some_iff.mp hi
   have y1:=hall i y (Nat.le_refl _) hy
   have y2:=W.hi y (List.mem_of_getElem? hy)
   refine⟨_,rfl,y,rfl,_,rfl,iteN rfl ?_⟩
   refine⟨_,rfl,_,rfl,_,_,rfl,rfl,_,rfl,iteN (decide_eq_false (by omega)) ?_⟩
   refine⟨_,rfl,_,_,rfl,rfl,_,rfl,iteN (decide_eq_false (by omega)) ?_⟩
   refine⟨_,rfl,rfl,y,_,rfl,by omega,fun j z hj hz=>?_⟩
   have hlt:i<j:=by omega
   obtain⟨b1,e1⟩:=List.getElem?_eq_some_iff.mp hy
   obtain⟨b2,e2⟩:=List.getElem?_eq_some_iff.mp hz
   rw[← e1,← e2]
   exact List.pairwise_iff_getElem.mp W.up i j b1 b2 hlt
  ·rintro σ H' ⟨rfl,_⟩
   exact k
def spLine:Sp:=fun vs H Q _=>∃ (q h:Addr) (hs:LI) (p:Int×Int),vs=[.ref q,.ref h]∧H q=some (.tup [.int p.1,.int p.2])∧H h=some (.lst (hs.map V.int))∧(p.1∈hs∧p.2∈hs∧p.1<p.2)∧Q (.bl true) H
theorem Vc (T:Txt w K mg a):FnOk P w K mg base CX0 2 a.f_qu a.d_qu ["line", "hands"] spLine:=by
 have c_qa:Callee P w K mg base "is_whole" a.f_qa a.d_qa ["value"] 1 wW:=⟨w4 T,T.g_qa,T.F_qa.kp,T.b_qa⟩
 refine T.F_qu.ok zc2 (fun vs H Q E h=>?_) (fun cdv A outer s H vs Q E hr h=>?_)
 ·obtain⟨q,h,hs,p,rfl,_⟩:=h
  rfl
 ·obtain⟨q,h,hs,⟨x,y⟩,rfl,hq,hh,⟨h1,h2,h3⟩,k⟩:=h
  dsimp only at hq h1 h2 h3
  refine zM (w_pss_cons (zu (we (yg (zG (zy (zi zS (by rfl) T.n_isinstance zo (zd (zf 0) (zd (zR T.n_tuple xh) za))))) (yb (zl u3 (zi zD (by rfl) T.n_len yu (zd (zf 0) za)) ze (zC _)))))
    (zb (zg zF))
    zk)
   (w_pss_cons (zu (we (yg (zG (zy (zm c_qa hr.m (zn (zr yc (zf 0) ze (fun _ _=>rfl)) za)))) (yb (zG (zy (zm c_qa hr.m (zn (zr yc (zf 0) ze (fun _ _=>rfl)) za)))))))
    (zb (zg zF))
    zk)
   (zb (zg (yz (zW xA (zr yc (zf 0) ze (fun _ _=>rfl)) (zf 1) (by with_unfolding_all rfl)) (yz (zW xA (zr yc (zf 0) ze (fun _ _=>rfl)) (zf 1) (by with_unfolding_all rfl)) (yp (zW vC (zr yc (zf 0) ze (fun _ _=>rfl)) (zr yc (zf 0) ze (fun _ _=>rfl)) (zC _))))))))) ?_
  refine⟨_,rfl,_,_,_,_,_,rfl,rfl,.tup hq,T.k_ttuple_ttuple,_,rfl,iteN rfl ?_⟩
  refine⟨_,rfl,q,_,rfl,.inr (SqT.of hq),rfl,_,rfl,iteN rfl ?_⟩
  refine⟨_,rfl,q,_,0,_,rfl,rfl,SqT.of hq,rfl,x,rfl,_,rfl,iteN rfl ?_⟩
  refine⟨_,rfl,q,_,1,_,rfl,rfl,SqT.of hq,rfl,y,rfl,_,rfl,iteN rfl ?_⟩
  refine⟨_,rfl,q,_,0,_,rfl,rfl,SqT.of hq,rfl,_,rfl,h,_,rfl,.inl (SqL.of hh),rfl,yD hs,_,rfl,iteB (by show inV (.int x) _=true;rw[yZ];exact decide_eq_true h1) ?_⟩
  refine⟨_,rfl,q,_,1,_,rfl,rfl,SqT.of hq,rfl,_,rfl,h,_,rfl,.inl (SqL.of hh),rfl,yD hs,_,rfl,iteB (by show inV (.int y) _=true;rw[yZ];exact decide_eq_true h2) ?_⟩
  refine⟨_,rfl,q,_,0,_,rfl,rfl,SqT.of hq,rfl,_,rfl,q,_,1,_,rfl,rfl,SqT.of hq,rfl,_,_,rfl,rfl,?_⟩
  show Q (.bl (decide (x<y))) H
  rw[decide_eq_true h3]
  exact k
section
variable {κ:Type} [DecidableEq κ]
theorem yV {kvs:List (κ×V)}{k:κ}:(yL kvs k).isSome=decide (k∈kvs.map (·.1)):=by
 rw[← yE]
 by_cases h:k∈kvs.map (·.1)
 ·rw[decide_eq_true h,List.any_eq_true]
  obtain⟨p,hp,rfl⟩:=List.mem_map.mp h
  exact⟨p,hp,decide_eq_true rfl⟩
 ·rw[decide_eq_false h,List.any_eq_false]
  intro p hp e
  exact h (List.mem_map.mpr ⟨p,hp,of_decide_eq_true e⟩)
theorem valV_yes {kvs:List (κ×V)}{k:κ}(h:k∈kvs.map (·.1)):(yL kvs k).isSome=true:=by rw[yV];exact decide_eq_true h
theorem wT {kvs:List (κ×V)}{k:κ}(h:k∉kvs.map (·.1)):(yL kvs k).isSome=false:=by rw[yV];exact decide_eq_false h
theorem putK_new {kvs:List (κ×V)}{k:κ}{v:V}(h:k∉kvs.map (·.1)):putK kvs k v=kvs++[(k,v)]:=by
 unfold putK
 rw[if_neg]
 rw[yE,yV,decide_eq_true_iff]
 exact h
theorem ZG {kvs:List (κ×V)}{k:κ}{v:V}(h:k∈kvs.map (·.1)):(putK kvs k v).map (·.1)=kvs.map (·.1):=by
 unfold putK
 rw[if_pos (by rw[yE,yV,decide_eq_true_iff];exact h),List.map_map]
 refine List.map_congr_left fun p _=>?_
 show(if p.1=k then(p.1,v) else p).1=p.1
 split<;>rfl
end
theorem _root_.L2.Same.updF {p:Addr}{H H':Hp}{o:HO}(x:Same H H') (h:H p=none):Same H (L2.upd H' p o):=fun b u e=>by
 rw[upd_ne (ne_of_none e h)];exact x b u e
abbrev yw (p:Int×Int):List Key:=[Sum.inl p.1,Sum.inl p.2]
theorem yP {p q:Int×Int}(h:yw p=yw q):p=q:=by
 obtain⟨a,b⟩:=p
 obtain⟨c,d⟩:=q
 simp[yw] at h
 rw[h.1,h.2]
theorem w6 {α:Type}{xs:List α}{i:Nat}{x:α}(h:xs.Nodup) (e:xs[i]?=some x):x∉xs.take i:=by
 intro m
 obtain⟨j,hj,ej⟩:=List.getElem_of_mem m
 obtain⟨hi,ei⟩:=List.getElem?_eq_some_iff.mp e
 rw[List.getElem_take] at ej
 rw[List.length_take] at hj
 have:=(List.nodup_iff_pairwise_ne.mp h)
 exact List.pairwise_iff_getElem.mp this j i (by omega) hi (by omega) (ej.trans ei.symm)
def Zz:Sp:=fun vs H Q _=>∃ (l h:Addr) (rs:List V) (hs:LI) (ls:LP),vs=[.ref l,.ref h]∧H l=some (.lst rs)∧LnAt H rs ls∧H h=some (.lst (hs.map V.int))∧Ls hs ls∧∀ H',Same H H'→Q (.bl true) H'
theorem YS (T:Txt w K mg a):FnOk P w K mg base CX0 3 a.f_qv a.d_qv ["lines", "hands"] Zz:=by
 have c_qu:Callee P w K mg base "is_line" a.f_qu a.d_qu ["line", "hands"] 2 spLine:=⟨Vc T,T.g_qu,T.F_qu.kp,T.b_qu⟩
 refine T.F_qv.ok sc_qv (fun vs H Q E h=>?_) (fun cdv A outer s H vs Q E hr h=>?_)
 ·obtain⟨l,h,rs,hs,ls,rfl,_⟩:=h
  rfl
 ·obtain⟨l,h,rs,hs,ls,rfl,hl,hrs,hh,L,k⟩:=h
  have l66:=L.le
  have hu:=yQ hr
  refine zM (w_pss_cons (zu (zG (zy (zi zS (by rfl) T.n_isinstance zo (zd (zf 0) (zd (zR T.n_list bt_list) za)))))
    (zb (zg zF))
    zk)
   (w_pss_cons (w_ps_set (i:=2) sc_qv.nd rfl (Or.inl rfl) yk)
   (w_pss_cons (zE PassesOwn.never rfl (zw (zf 0)) (zh (i:=3) sc_qv.nd rfl (Or.inl rfl))
    (w_pss_cons (zu (we (yg (zG (zy (zm c_qu hr.m (zd (zf 3) (zd (zf 1) za))))) (yb (yM (xV hu (zf 3) (zf 2))))))
     (zb (zg zF))
     zk)
    (zb (yr hu (zf 2) (zf 3) zF rfl))))
   (zb (zg zF))))) ?_
  refine⟨_,rfl,_,_,_,_,_,rfl,rfl,.lst hl,T.k_tlist_tlist,_,rfl,iteN rfl ?_⟩
  refine fun d hd=>?_
  refine⟨_,rfl,l,rfl,⟨_,SqL.of (Same.new hd _ _ hl)⟩,?_⟩
  refine for_list (K:=K) (a:=l) (xs:=rs) (fun i σ H'=>∃ (kvs:List (List Key×V)) (o:Option V),σ=[some (.ref l),some (.ref h),some (.ref d),o]∧H' d=some (.dT kvs)∧kvs.map (·.1)=(ls.take i).map yw∧Same H H') ?_ ?_ ?_ ?_
  ·exact⟨[],none,rfl,upd_same,by simp,Same.new hd⟩
  ·rintro i σ H' _ ⟨kvs,o,_,_,_,sm⟩
   exact SqL.of (sm _ _ hl)
  ·rintro i x σ H' hi ⟨kvs,o,rfl,hd',hk,sm⟩
   obtain⟨p,q,hp,rfl,hq⟩:=(hrs.same sm).get hi
   have hm:p∈ls:=List.mem_of_getElem? hp
   refine⟨_,rfl,_,rfl,q,h,hs,p,rfl,hq,sm _ _ hh,L.ok p hm,_,rfl,iteN rfl ?_⟩
   have hnew:yw p∉kvs.map (·.1):=by
    rw[hk]
    intro z
    obtain⟨p',m',e'⟩:=List.mem_map.mp z
    rw[yP e'] at m'
    exact w6 L.nd hp m'
   have hz:kvs.length≤1000:=by
    have:=congrArg List.length hk
    rw[List.length_map,List.length_map,List.length_take] at this
    omega
   refine⟨_,rfl,_,rfl,d,_,rfl,DGet.t (k:=yw p) hd' hq,_,rfl,iteN ?_ ?_⟩
   ·exact wT hnew
   ·refine⟨_,rfl,_,rfl,d,_,rfl,DPut.t (k:=yw p) hd' hq (zj hz),?_⟩
    refine⟨_,_,rfl,upd_same,?_,sm.updF hd⟩
    rw[putK_new hnew,List.map_append,hk,List.take_add_one,hp,List.map_append]
    rfl
  ·rintro σ H' ⟨kvs,o,_,_,_,sm⟩
   exact k H' sm
def tab (ad:Int→Addr) (us:LI):List (Key×V):=us.map fun h=>(Sum.inl h,V.ref (ad h))
theorem YA {ad:Int→Addr}{us:LI}:(tab ad us).map (·.1)=us.map Sum.inl:=by
 unfold tab;rw[List.map_map];rfl
theorem Xr {ad:Int→Addr}{x:Int}:∀ {us:LI},x∈us→yL (tab ad us) (Sum.inl x:Key)=some (V.ref (ad x))
 |u::us,h=>by
  show yL ((Sum.inl u,V.ref (ad u))::tab ad us) _=_
  by_cases e:u=x
  ·subst e;rw[xW rfl]
  ·rw[xX (fun z=>e (by injection z)),Xr]
   rcases List.mem_cons.mp h with z | z
   ·exact absurd z.symm e
   ·exact z
theorem wj {H:Hp}{d:Addr}{ad:Int→Addr}{us:LI}{x:Int}(e:H d=some (.dK (tab ad us))) (h:x∈us):DGet H d (V.int x) (some (V.ref (ad x))):=by
 have:=DGet.k (k:=Sum.inl x) e
 rw[Xr h] at this
 exact this
theorem ua {x:Int}{us:LI}:(Sum.inl x:Key)∈us.map (Sum.inl:Int→Key)↔x∈us:=by
 rw[List.mem_map]
 exact⟨fun⟨y,h,e⟩=>by injection e with e;exact e ▸ h,fun h=>⟨x,h,rfl⟩⟩
def zbr (ad:Int→Addr) (y:Int) (p:Addr):Int→Addr:=fun x=>if x=y then p else ad x
theorem putA_at {ad:Int→Addr}{x y:Int}{p:Addr}(e:x=y):zbr ad y p x=p:=if_pos e
theorem putA_ne {ad:Int→Addr}{x y:Int}{p:Addr}(e:¬ x=y):zbr ad y p x=ad x:=if_neg e
structure Near (H:Hp) (d:Addr) (hs:LI) (ls:LP) (ad:Int→Addr):Prop where
 d:H d=some (.dK (tab ad hs))
 nb:∀ h∈hs,H (ad h)=some (.lst ((nbs ls h).map V.int))
theorem Near.same {H H':Hp}{d:Addr}{hs:LI}{ls:LP}{ad:Int→Addr}(n:Near H d hs ls ad) (s:Same H H'):Near H' d hs ls ad:=⟨s _ _ n.d,fun h m=>s _ _ (n.nb h m)⟩
def Xu:Sp:=fun vs H Q _=>∃ (h l:Addr) (rs:List V) (hs:LI) (ls:LP),vs=[.ref h,.ref l]∧H h=some (.lst (hs.map V.int))∧H l=some (.lst rs)∧LnAt H rs ls∧Hs hs∧Ls hs ls ∧
 ∀ (d:Addr) (ad:Int→Addr) H',Same H H'→H d=none→(∀ x∈hs,H (ad x)=none)→Near H' d hs ls ad→Q (.ref d) H'
theorem Vb (T:Txt w K mg a):FnOk P w K mg base CX0 1 a.f_qw a.d_qw ["hands", "lines"] Xu:=by
 refine T.F_qw.ok sc_qw (fun vs H Q E h=>?_) (fun cdv A outer s H vs Q E hr h=>?_)
 ·obtain⟨h,l,rs,hs,ls,rfl,_⟩:=h
  rfl
 ·obtain⟨h,l,rs,hs,ls,rfl,hh,hl,hrs,W,L,k⟩:=h
  have l66:=L.le
  have l12:=W.l12
  have hu:=yQ hr
  refine zM (w_pss_cons (w_ps_set (i:=2) sc_qw.nd rfl (Or.inl rfl) xb)
   (w_pss_cons (zE PassesOwn.never rfl (zw (zf 0)) (zh (i:=3) sc_qw.nd rfl (Or.inl rfl))
    (zb (yr hu (zf 2) (zf 3) (zA za) rfl)))
   (w_pss_cons (zE PassesOwn.never rfl (zw (zf 1)) (zZ rfl (zp (zh (i:=4) sc_qw.nd rfl (Or.inl rfl)) (zp (zh (i:=5) sc_qw.nd rfl (Or.inl rfl)) zQ)))
    (w_pss_cons (zH (ya PySem.F.plainAttrs_list PySem.F.slot_list_append PySem.F.type_list_append zL (yH hu (zf 2) (zf 4) (fun _ _=>rfl)) (zd (zf 5) za)))
    (zb (zH (ya PySem.F.plainAttrs_list PySem.F.slot_list_append PySem.F.type_list_append zL (yH hu (zf 2) (zf 5) (fun _ _=>rfl)) (zd (zf 4) za))))))
   (zb (zg (zf 2)))))) ?_
  refine fun d hd=>?_
  refine⟨_,rfl,h,rfl,⟨_,SqL.of (Same.new hd _ _ hh)⟩,?_⟩
  refine for_list (K:=K) (a:=h) (xs:=hs.map V.int) (fun i σ H'=>∃ (ad:Int→Addr) (o:Option V),σ=[some (.ref h),some (.ref l),some (.ref d),o,none,none]∧H' d=some (.dK (tab ad (hs.take i))) ∧
   (∀ x∈hs.take i,H' (ad x)=some (.lst [])∧H (ad x)=none)∧(∀ x∈hs.take i,∀ y∈hs.take i,ad x=ad y→x=y)∧Same H H') ?_ ?_ ?_ ?_
  ·exact⟨fun _=>0,none,rfl,upd_same,fun x hx=>by simp at hx,fun x hx=>by simp at hx,Same.new hd⟩
  ·rintro i σ H' _ ⟨ad,o,_,_,_,_,sm⟩
   exact SqL.of (sm _ _ hh)
  ·rintro i x σ H' hi ⟨ad,o,rfl,hd',hat,hinj,sm⟩
   rw[List.getElem?_map] at hi
   obtain⟨y,hy,rfl⟩:=Option.map_eq_some_iff.mp hi
   have hnew:y∉hs.take i:=w6 (Yz W.up) hy
   refine⟨(by show 0≤sizeLine;decide),fun p hp=>?_⟩
   have hpd:p≠d:=fun z=>by rw[z,hd'] at hp;cases hp
   have hd2:(upd H' p (.lst [])) d=some (.dK (tab ad (hs.take i))):=by rw[upd_ne hpd.symm];exact hd'
   refine⟨_,rfl,_,rfl,d,_,rfl,DPut.k (k:=Sum.inl y) hd2 (zj ?_),?_⟩
   ·unfold tab
    rw[List.length_map,List.length_take];omega
   ·have et:hs.take (i+1)=hs.take i++[y]:=by rw[List.take_add_one,hy];rfl
    have hp0:H p=none:=sm.free hp
    have hne:∀ x∈hs.take i,ad x≠p:=fun x hx z=>by
     have:=(hat x hx).1
     rw[z,hp] at this;cases this
    have had:∀ x∈hs.take i,ad x≠d:=fun x hx z=>by
     have:=(hat x hx).1
     rw[z,hd'] at this;cases this
    refine⟨zbr ad y p,_,rfl,?_,?_,?_,(sm.updF hp0).updF hd⟩
    ·rw[upd_same,K04.putK_new (by rw[YA,ua];exact hnew),et]
     unfold tab
     rw[List.map_append]
     congr 3
     ·refine List.map_congr_left fun x hx=>?_
      rw[putA_ne (fun z=>hnew (by rw[← z];exact hx))]
     ·show _=[(Sum.inl y,V.ref (zbr ad y p y))]
      rw[putA_at rfl]
    ·intro x hx
     rw[et,List.mem_append,List.mem_singleton] at hx
     by_cases e:x=y
     ·rw[putA_at e,upd_ne hpd,upd_same]
      exact⟨rfl,hp0⟩
     ·rw[putA_ne e]
      have hx:=hx.resolve_right e
      rw[upd_ne (had x hx),upd_ne (hne x hx)]
      exact hat x hx
    ·intro x hx z hz
     rw[et,List.mem_append,List.mem_singleton] at hx hz
     by_cases e1:x=y
     ·by_cases e2:z=y
      ·intro _;rw[e1,e2]
      ·rw[putA_at e1,putA_ne e2]
       intro q;exact absurd q.symm (hne z (hz.resolve_right e2))
     ·by_cases e2:z=y
      ·rw[putA_ne e1,putA_at e2]
       intro q;exact absurd q (hne x (hx.resolve_right e1))
      ·rw[putA_ne e1,putA_ne e2]
       exact hinj x (hx.resolve_right e1) z (hz.resolve_right e2)
  ·rintro σ H1 ⟨ad,o,rfl,hd',hat,hinj,sm⟩
   rw[List.length_map,List.take_length] at hd' hat hinj
   refine⟨_,rfl,l,rfl,⟨_,SqL.of (sm _ _ hl)⟩,?_⟩
   refine for_list (K:=K) (a:=l) (xs:=rs) (fun i σ H'=>∃ (o1 o2:Option V),σ=[some (.ref h),some (.ref l),some (.ref d),o,o1,o2]∧Near H' d hs (ls.take i) ad∧Same H H') ?_ ?_ ?_ ?_
   ·exact⟨none,none,rfl,⟨hd',fun x hx=>by rw[List.take_zero];exact(hat x hx).1⟩,sm⟩
   ·rintro i σ H' _ ⟨o1,o2,_,_,sm'⟩
    exact SqL.of (sm' _ _ hl)
   ·rintro i x σ H' hi ⟨o1,o2,rfl,N,sm'⟩
    obtain⟨⟨x,y⟩,q,hp,rfl,hq⟩:=(hrs.same sm').get hi
    obtain⟨hx,hy,hxy⟩:=L.ok _ (List.mem_of_getElem? hp)
    dsimp only at hq hx hy hxy
    refine⟨q,_,rfl,SqT.of hq,rfl,_,_,rfl,_,_,rfl,rfl,?_⟩
    have len:∀ z,((nbs (ls.take i) z).map V.int).length<sizeLine:=fun z=>by
     rw[List.length_map]
     have:=ZU (h:=z) (ls:=ls.take i)
     rw[List.length_take] at this
     exact zj (by omega)
    have hdx:ad x≠d:=fun z=>by
     have:=N.nb x hx
     rw[z,N.d] at this;cases this
    have hdy:ad y≠d:=fun z=>by
     have:=N.nb y hy
     rw[z,N.d] at this;cases this
    have hne:ad y≠ad x:=fun z=>by have:=hinj y hy x hx z;omega
    refine⟨_,rfl,_,rfl,d,V.ref (ad x),rfl,wj N.d hx,.inl ⟨rfl,_,SqL.of (N.nb x hx)⟩,_,rfl,_,_,_,rfl,rfl,N.nb x hx,len x,?_⟩
    have nd2:(upd H' (ad x) (.lst ((nbs (ls.take i) x).map V.int++[V.int y]))) d=some (.dK (tab ad hs)):=by rw[upd_ne hdx.symm];exact N.d
    have ny2:(upd H' (ad x) (.lst ((nbs (ls.take i) x).map V.int++[V.int y]))) (ad y)=some (.lst ((nbs (ls.take i) y).map V.int)):=by rw[upd_ne hne];exact N.nb y hy
    refine⟨_,rfl,_,rfl,d,V.ref (ad y),rfl,wj nd2 hy,.inl ⟨rfl,_,SqL.of ny2⟩,_,rfl,_,_,_,rfl,rfl,ny2,len y,?_⟩
    refine⟨_,_,rfl,⟨?_,fun z hz=>?_⟩,(sm'.updF (hat x hx).2).updF (hat y hy).2⟩
    ·rw[upd_ne hdy.symm];exact nd2
    ·rw[YW hp]
     by_cases e2:z=y
     ·subst e2
      rw[upd_same,if_neg (by show ¬ x=z;omega),if_pos rfl,List.map_append]
      rfl
     ·rw[upd_ne (fun q=>e2 (hinj z hz y hy q))]
      by_cases e1:z=x
      ·subst e1
       rw[upd_same,if_pos rfl,if_neg (by show ¬ y=z;omega),List.map_append]
       rfl
      ·rw[upd_ne (fun q=>e1 (hinj z hz x hx q)),if_neg (fun q=>e1 q.symm),if_neg (fun q=>e2 q.symm),List.append_nil,List.append_nil]
       exact N.nb z hz
   ·rintro σ H' ⟨o1,o2,rfl,N,sm'⟩
    rw[hrs.1,List.take_length] at N
    exact⟨_,rfl,k d ad H' sm' hd (fun x hx=>(hat x hx).2) N⟩
theorem Near.ext {H H':Hp}{d p dx C:Addr}{fs:List (Str×V)}{hs:LI}{ls:LP}{ad:Int→Addr}(n:Near H d hs ls ad) (hp:H p=some (.ins C dx fs)) (s:Ext p H H'):Near H' d hs ls ad :=
 ⟨s _ _ n.d (fun z=>by rw[← z,n.d] at hp;cases hp),fun h m=>s _ _ (n.nb h m) (fun z=>by rw[← z,n.nb h m] at hp;cases hp)⟩
theorem LnAt.ext {H H':Hp}{p dx C:Addr}{fs:List (Str×V)}{rs:List V}{ls:LP}(h:LnAt H rs ls) (hp:H p=some (.ins C dx fs)) (s:Ext p H H'):LnAt H' rs ls:=⟨h.1,fun i r q h1 h2=>by
 obtain⟨t,e,ht⟩:=h.2 i r q h1 h2
 exact⟨t,e,s _ _ ht fun z=>by rw[← z,ht] at hp;cases hp⟩⟩
theorem Ext.free {l p:Addr}{H H':Hp}(k:Ext l H H') (n:p≠l) (h:H' p=none):H p=none:=by
 cases e:H p with
 |none=>rfl
 |some o=>have:=k _ _ e n;rw[h] at this;cases this
open Sco
def srt (ls:LP):LP:=ls.mergeSort fun p q=>decide (rkP p≤rkP q)
def Bd (ls:LP):Prop:=∀ p∈ls,0≤p.2∧p.2<1000
theorem zJ (ls:LP):(srt ls).Perm ls:=List.mergeSort_perm _ _
theorem Uk (ls:LP):(srt ls).Pairwise fun p q=>rkP p≤rkP q:=by
 have:=List.pairwise_mergeSort (le:=fun p q:Int×Int=>decide (rkP p≤rkP q)) (fun a b c h1 h2=>by simp at *;omega) (fun a b=>by simp;omega) ls
 exact this.imp fun h=>by simpa using h
theorem WQ {p q:Int×Int}(bp:0≤p.2∧p.2<1000) (bq:0≤q.2∧q.2<1000) (h:rkP p=rkP q):p=q:=by
 obtain⟨a,b⟩:=p
 obtain⟨c,d⟩:=q
 unfold rkP at h
 dsimp only at *
 have:a=c:=by omega
 subst this
 rw[show b=d by omega]
theorem Xq:∀ {as bs:LP},Bd as→as.Perm bs→as.Pairwise (fun p q=>rkP p≤rkP q)→bs.Pairwise (fun p q=>rkP p≤rkP q)→as=bs
 |[],bs,_,pm,_,_=>(List.nil_perm.mp pm).symm
 |x::as,[],_,pm,_,_=>absurd pm.length_eq (by simp)
 |x::as,y::bs,B,pm,u1,u2=>by
  obtain⟨a1,a2⟩:=List.pairwise_cons.mp u1
  obtain⟨b1,b2⟩:=List.pairwise_cons.mp u2
  have hy:y∈x::as:=pm.mem_iff.mpr List.mem_cons_self
  have hx:x∈y::bs:=pm.mem_iff.mp List.mem_cons_self
  have l1:rkP x≤rkP y:=by
   rcases List.mem_cons.mp hy with z | z
   ·rw[z];exact Int.le_refl _
   ·exact a1 y z
  have l2:rkP y≤rkP x:=by
   rcases List.mem_cons.mp hx with z | z
   ·rw[z];exact Int.le_refl _
   ·exact b1 x z
  have e:x=y:=WQ (B x List.mem_cons_self) (B y hy) (by omega)
  subst e
  rw[Xq (fun p hp=>B p (List.mem_cons_of_mem _ hp)) (List.Perm.cons_inv pm) a2 b2]
theorem Ul {as ls:LP}(B:Bd ls) (pm:as.Perm ls) (u:as.Pairwise fun p q=>rkP p≤rkP q):as=srt ls :=
 Xq (fun p hp=>B p (pm.mem_iff.mp hp)) (pm.trans (zJ ls).symm) u (Uk ls)
theorem LnAt.ps {H:Hp}:∀ {rs:List V}{ls:LP},LnAt H rs ls→Bd ls→∃ ps:List PT,ps.map (fun p=>V.ref p.1)=rs∧ps.map (·.2)=ls∧PsAt H ps
 |[],[],_,_=>⟨[],rfl,rfl,fun p hp=>by cases hp⟩
 |[],_::_,h,_=>absurd h.1 (by simp)
 |_::_,[],h,_=>absurd h.1 (by simp)
 |r::rs,p::ls,h,B=>by
  obtain⟨q,rfl,hq⟩:=h.2 0 r p rfl rfl
  obtain⟨ps,e1,e2,e3⟩:=LnAt.ps (H:=H) (rs:=rs) (ls:=ls) ⟨by have:=h.1;simpa using this,fun i r p h1 h2=>h.2 (i+1) r p (by simpa using h1) (by simpa using h2)⟩ fun p hp=>B p (List.mem_cons_of_mem _ hp)
  refine⟨(q,p)::ps,by rw[List.map_cons,e1],by rw[List.map_cons,e2],fun x hx=>?_⟩
  rcases List.mem_cons.mp hx with z | z
  ·rw[z]
   exact⟨hq,B p List.mem_cons_self⟩
  ·exact e3 x z
theorem zdo {H:Hp}{qs:List PT}(h:PsAt H qs):LnAt H (qs.map fun p=>V.ref p.1) (qs.map (·.2)):=by
 refine⟨by simp,fun i r p h1 h2=>?_⟩
 rw[List.getElem?_map] at h1 h2
 obtain⟨q,e1,rfl⟩:=Option.map_eq_some_iff.mp h1
 rw[e1] at h2
 cases h2
 exact⟨q.1,rfl,(h q (List.mem_of_getElem? e1)).1⟩
theorem _root_.L2.Sco.PsAt.same {H H':Hp}{ps:List PT}(h:PsAt H ps) (s:Same H H'):PsAt H' ps:=fun p hp=>⟨s _ _ (h p hp).1,(h p hp).2⟩
theorem _root_.L2.Sco.PsAt.sub {H:Hp}{ps qs:List PT}(h:PsAt H ps) (s:∀ q∈qs,q∈ps):PsAt H qs:=fun p hp=>h p (s p hp)
theorem wV {H:Hp}{ps qs:List PT}(h:PsAt H ps) (pm:qs.Perm ps) (u:qs.Pairwise fun x y=>rkP x.2≤rkP y.2):LnAt H (qs.map fun p=>V.ref p.1) (srt (ps.map (·.2))):=by
 have e:qs.map (·.2)=srt (ps.map (·.2)):=Ul (fun p hp=>by
  obtain⟨x,hx,rfl⟩:=List.mem_map.mp hp
  exact(h x hx).2) (pm.map _) (by rw[List.pairwise_map];exact u)
 have:=zdo (h.sub fun q hq=>pm.mem_iff.mp hq)
 rw[e] at this
 exact this
theorem Ls.bd {hs:LI}{ls:LP}(W:Hs hs) (L:Ls hs ls):Bd ls:=fun p hp=>by
 have:=(L.ok p hp).2.1
 have a1:=W.lo p.2 this
 have a2:=W.hi p.2 this
 omega
structure WebAt (a:Ad) (H:Hp) (p:Addr) (hs:LI) (ls:LP) (dx oh ol d:Addr) (ad:Int→Addr):Prop where
 p:H p=some (.ins a.c_Web dx [("own_hands",.ref oh),("own_lines",.ref ol),("near",.ref d)])
 oh:H oh=some (.lst (hs.map V.int))
 nr:Near H d hs ls ad
 ol:∃ zs,H ol=some (.lst zs)∧LnAt H zs (srt ls)
theorem WebAt.same {H H':Hp}{p dx oh ol d:Addr}{hs:LI}{ls:LP}{ad:Int→Addr}(w:WebAt a H p hs ls dx oh ol d ad) (s:Same H H'):WebAt a H' p hs ls dx oh ol d ad:=⟨s _ _ w.p,s _ _ w.oh,w.nr.same s,by obtain⟨zs,e1,e2⟩:=w.ol;exact⟨zs,s _ _ e1,e2.same s⟩⟩
def Um (a:Ad):Sp:=fun vs H Q _=>∃ (p dx h l:Addr) (rs:List V) (hs:LI) (ls:LP),vs=[.ref p,.ref h,.ref l]∧H p=some (.ins a.c_Web dx [])∧H h=some (.lst (hs.map V.int))∧H l=some (.lst rs)∧LnAt H rs ls∧Hs hs∧Ls hs ls∧ls.length≤63 ∧
 ∀ (oh ol d:Addr) (ad:Int→Addr) H',H oh=none→H ol=none→H d=none→(∀ x∈hs,H (ad x)=none)→Ext p H H'→WebAt a H' p hs ls dx oh ol d ad→Q .non H'
theorem UC (T:Txt w K mg a):FnOk P w K mg base CX0 4 a.f_qR a.d_qR ["self", "hands", "lines"] (Um a):=by
 have c_qt:Callee P w K mg base "are_hands" a.f_qt a.d_qt ["hands"] 2 ZA:=⟨YT T,T.g_qt,T.F_qt.kp,T.b_qt⟩
 have c_qv:Callee P w K mg base "are_lines" a.f_qv a.d_qv ["lines", "hands"] 3 Zz:=⟨YS T,T.g_qv,T.F_qv.kp,T.b_qv⟩
 have c_qw:Callee P w K mg base "near_by_hand" a.f_qw a.d_qw ["hands", "lines"] 1 Xu:=⟨Vb T,T.g_qw,T.F_qw.kp,T.b_qw⟩
 refine T.F_qR.ok zdd (fun vs H Q E h=>?_) (fun cdv A outer s H vs Q E hr h=>?_)
 ·obtain⟨p,dx,h,l,rs,hs,ls,rfl,_⟩:=h
  rfl
 ·obtain⟨p,dx,h,l,rs,hs,ls,rfl,hp,hh,hl,hrs,W,L,l66,k⟩:=h
  have np:∀ {b:Addr}{xs:List V},H b=some (.lst xs)→b≠p:=fun e z=>by rw[z,hp] at e;cases e
  refine zM (w_pss_cons (zu (zG (zy (zm c_qt hr.m (zd (zf 1) za))))
    (zb xI)
    zk)
   (w_pss_cons (zu (zG (zy (zm c_qv hr.m (zd (zf 2) (zd (zf 1) za)))))
    (zb xI)
    zk)
   (w_pss_cons (xt (zf 0) (zT yF (by rfl) T.n_list bt_list (zd (zf 1) za)) rfl)
   (w_pss_cons (xt (zf 0) (zi Sco.call_sortX (by rfl) T.n_sorted yi (zd (zf 2) za)) rfl)
   (zb (xt (zf 0) (zm c_qw hr.m (zd (zf 1) (zd (zf 2) za))) rfl)))))) ?_
  refine⟨_,rfl,h,hs,rfl,hh,W,_,rfl,iteN rfl ?_⟩
  refine⟨_,rfl,_,rfl,l,h,rs,hs,ls,rfl,hl,hrs,hh,L,fun H1 s1=>⟨_,rfl,iteN rfl ?_⟩⟩
  refine⟨_,rfl,h,_,rfl,.inl (SqL.of (s1 _ _ hh)),fun oh hoh=>?_⟩
  have ohp:oh≠p:=fun z=>by rw[z,s1 _ _ hp] at hoh;cases hoh
  refine⟨_,rfl,p,a.c_Web,dx,_,rfl,(upd_ne ohp.symm).trans (s1 _ _ hp),T.cl_Web,T.na_Web_own_hands,(by show 0<1000;decide),?_⟩
  have x3:=((Ext.same (l:=p) s1).trans (Ext.new (l:=p) (o:=.lst (hs.map V.int)) hoh)).trans (Ext.at (l:=p) (o:=.ins a.c_Web dx [("own_hands",.ref oh)]))
  obtain⟨ps,e1,e2,e3⟩:=(hrs.ext hp x3).ps (L.bd W)
  have l67:ps.length≤63:=by
   have:=congrArg List.length e2
   rw[List.length_map] at this
   omega
  refine⟨_,rfl,l,ps,rfl,by rw[e1];exact SqL.of (x3 _ _ hl (np hl)),l67,e3,fun ol qs hol pm up=>?_⟩
  have hq3:=wV e3 pm up
  rw[e2] at hq3
  generalize qs.map (fun p=>V.ref p.1)=zs at hq3 ⊢
  have olp:ol≠p:=fun z=>by rw[z,upd_same] at hol;cases hol
  refine⟨_,rfl,p,a.c_Web,dx,_,rfl,(upd_ne olp.symm).trans upd_same,T.cl_Web,T.na_Web_own_lines,(by show 1<1000;decide),?_⟩
  have x35:=(Ext.new (l:=p) (o:=.lst zs) hol).trans (Ext.at (l:=p) (o:=.ins a.c_Web dx [("own_hands",.ref oh),("own_lines",.ref ol)]))
  have x5:=x3.trans x35
  refine⟨_,rfl,_,rfl,h,l,rs,hs,ls,rfl,x5 _ _ hh (np hh),x5 _ _ hl (np hl),hrs.ext hp x5,W,L,fun d ad H6 s6 hd had N=>?_⟩
  have hp6:=s6 _ _ (upd_same (a:=p))
  refine⟨_,rfl,p,a.c_Web,dx,_,rfl,hp6,T.cl_Web,T.na_Web_near,(by show 2<1000;decide),?_⟩
  have nfr:∀ b,(upd (upd (upd (upd H1 oh (.lst (hs.map V.int))) p (.ins a.c_Web dx [("own_hands",.ref oh)])) ol (.lst zs)) p (.ins a.c_Web dx [("own_hands",.ref oh),("own_lines",.ref ol)])) b=none→H b=none:=fun b e=>x5.free (fun z=>by rw[z,upd_same] at e;cases e) e
  refine k oh ol d ad _ (s1.free hoh) (x3.free olp hol) (nfr d hd) (fun x hx=>nfr _ (had x hx)) ((x5.trans (Ext.same s6)).trans Ext.at) ⟨upd_same,?_,N.ext hp6 Ext.at,zs,?_,?_⟩
  ·rw[upd_ne ohp]
   exact s6 _ _ (x35 _ _ ((upd_ne ohp).trans upd_same) ohp)
  ·rw[upd_ne olp]
   exact s6 _ _ ((upd_ne olp).trans upd_same)
  ·exact((hq3.ext upd_same x35).same s6).ext hp6 Ext.at
theorem ZT {x:Int}:∀ {ls:LP},ls.Nodup→(∀ p∈ls,p.1<p.2)→(nbs ls x).Nodup
 |[],_,_=>List.nodup_nil
 |p::ls,nd,ok=>by
  obtain⟨n1,n2⟩:=List.nodup_cons.mp nd
  have ih:=ZT (x:=x) n2 fun q hq=>ok q (List.mem_cons_of_mem _ hq)
  have lt:=ok p (List.mem_cons_self ..)
  have e:nbs (p::ls) x=((if p.1=x then[p.2] else[])++if p.2=x then[p.1] else[])++nbs ls x:=by unfold nbs;rw[List.flatMap_cons]
  have no:∀ y,Adj ls x y→y∉((if p.1=x then[p.2] else[])++if p.2=x then[p.1] else[]):=by
   intro y hy hm
   have key:∀ q∈ls,q≠p:=fun q hq z=>n1 (z ▸ hq)
   rcases List.mem_append.mp hm with h | h
   ·by_cases c:p.1=x
    ·rw[if_pos c] at h
     have ey:y=p.2:=List.mem_singleton.mp h
     rcases hy with z | z
     ·exact key _ z (by rw[ey,← c])
     ·have:=ok _ (List.mem_cons_of_mem _ z)
      simp at this
      omega
    ·rw[if_neg c] at h;cases h
   ·by_cases c:p.2=x
    ·rw[if_pos c] at h
     have ey:y=p.1:=List.mem_singleton.mp h
     rcases hy with z | z
     ·have:=ok _ (List.mem_cons_of_mem _ z)
      simp at this
      omega
     ·exact key _ z (by rw[ey,← c])
    ·rw[if_neg c] at h;cases h
  rw[e,List.nodup_append]
  refine⟨?_,ih,fun a ha b hb z=>no b (mem_nbs.mp hb) (z ▸ ha)⟩
  by_cases c1:p.1=x
  ·have c2:¬ p.2=x:=by omega
   rw[if_pos c1,if_neg c2]
   simp
  ·rw[if_neg c1]
   by_cases c2:p.2=x
   ·rw[if_pos c2];simp
   ·rw[if_neg c2];simp
theorem ZV {hs:LI}{ls:LP}{x:Int}(W:Hs hs) (L:Ls hs ls):(nbs ls x).length≤12:=by
 have nd:=ZT (x:=x) L.nd fun p hp=>(L.ok p hp).2.2
 have sub:∀ y∈nbs ls x,y∈hs:=fun y hy=>by
  rcases mem_nbs.mp hy with z | z
  ·exact(L.ok _ z).2.1
  ·exact(L.ok _ z).1
 have:=yX nd sub
 have:=W.l12
 omega
theorem Xp:∀ {as bs:LI},as.Pairwise (· < ·)→bs.Pairwise (· < ·)→(∀ x,x∈as↔x∈bs)→as=bs
 |[],[],_,_,_=>rfl
 |[],b::bs,_,_,h=>by have:=(h b).mpr (List.mem_cons_self ..);cases this
 |a::as,[],_,_,h=>by have:=(h a).mp (List.mem_cons_self ..);cases this
 |a::as,b::bs,ha,hb,h=>by
  obtain⟨a1,a2⟩:=List.pairwise_cons.mp ha
  obtain⟨b1,b2⟩:=List.pairwise_cons.mp hb
  have e:a=b:=by
   rcases List.mem_cons.mp ((h a).mp (List.mem_cons_self ..)) with e | e
   ·exact e
   ·rcases List.mem_cons.mp ((h b).mpr (List.mem_cons_self ..)) with e' | e'
    ·exact e'.symm
    ·have:=b1 a e
     have:=a1 b e'
     omega
  subst e
  rw[Xp a2 b2 fun x=>⟨fun hx=>by
   rcases List.mem_cons.mp ((h x).mp (List.mem_cons_of_mem _ hx)) with e | e
   ·have:=a1 x hx;omega
   ·exact e,fun hx=>by
   rcases List.mem_cons.mp ((h x).mpr (List.mem_cons_of_mem _ hx)) with e | e
   ·have:=b1 x hx;omega
   ·exact e⟩]
def adB (ls:LP) (x y:Int):Bool:=decide ((x,y)∈ls)||decide ((y,x)∈ls)
theorem Yt {ls:LP}{x y:Int}:decide (y∈nbs ls x)=adB ls x y:=by
 unfold adB
 rw[Bool.eq_iff_iff,Bool.or_eq_true,decide_eq_true_eq,decide_eq_true_eq,decide_eq_true_eq]
 exact mem_nbs
theorem uw {hs:LI}{ls:LP}{x:Int}{ms:LI}(W:Hs hs) (L:Ls hs ls) (pm:ms.Perm (nbs ls x)) (sd:ms.Pairwise (· ≤ ·)):ms=hs.filter (adB ls x):=by
 have nd:ms.Nodup:=pm.nodup_iff.mpr (ZT L.nd fun p hp=>(L.ok p hp).2.2)
 have up:ms.Pairwise (· < ·):=(sd.and (List.nodup_iff_pairwise_ne.mp nd)).imp fun h=>by
  have h1:=h.1
  have h2:=h.2
  omega
 refine Xp up (W.up.filter _) fun y=>?_
 rw[pm.mem_iff,List.mem_filter,← Yt,decide_eq_true_eq]
 refine⟨fun h=>⟨?_,h⟩,fun h=>h.2⟩
 rcases mem_nbs.mp h with z | z
 ·exact(L.ok _ z).2.1
 ·exact(L.ok _ z).1
def zcY (a:Ad):Sp:=fun vs H Q _=>∃ (p:Addr) (x:Int) (hs:LI) (ls:LP) (dx oh ol d:Addr) (ad:Int→Addr),vs=[.ref p,.int x]∧WebAt a H p hs ls dx oh ol d ad∧x∈hs∧Q (.bl true) H
theorem uE (T:Txt w K mg a):FnOk P w K mg base CX0 2 a.f_qU a.d_qU ["self", "hand"] (zcY a):=by
 have c_qa:Callee P w K mg base "is_whole" a.f_qa a.d_qa ["value"] 1 wW:=⟨w4 T,T.g_qa,T.F_qa.kp,T.b_qa⟩
 refine T.F_qU.ok zda (fun vs H Q E h=>?_) (fun cdv A outer s H vs Q E hr h=>?_)
 ·obtain⟨p,x,hs,ls,dx,oh,ol,d,ad,rfl,_⟩:=h
  rfl
 ·obtain⟨p,x,hs,ls,dx,oh,ol,d,ad,rfl,W,hx,k⟩:=h
  have hu:=yQ hr
  refine zM (zb (zg (yz (zm c_qa hr.m (zd (zf 1) za)) (yp (Yw (xV hu (zf 1) (yq (zf 0) rfl))))))) ?_
  refine⟨_,rfl,x,rfl,_,rfl,xH ?_⟩
  exact⟨_,rfl,_,rfl,p,_,dx,_,_,rfl,W.p,T.cl_Web,T.na_Web_near,rfl,d,some (V.ref (ad x)),rfl,wj W.nr.d hx,k⟩
def YI (a:Ad):Sp:=fun vs H Q _=>∃ (p:Addr) (hs:LI) (ls:LP) (dx oh ol d:Addr) (ad:Int→Addr),vs=[.ref p]∧WebAt a H p hs ls dx oh ol d ad∧∀ q,H q=none→Q (.ref q) (upd H q (.lst (hs.map V.int)))
theorem wt (T:Txt w K mg a):FnOk P w K mg base CX0 1 a.f_qS a.d_qS ["self"] (YI a):=by
 refine T.F_qS.ok zdc (fun vs H Q E h=>?_) (fun cdv A outer s H vs Q E hr h=>?_)
 ·obtain⟨p,hs,ls,dx,oh,ol,d,ad,rfl,_⟩:=h
  rfl
 ·obtain⟨p,hs,ls,dx,oh,ol,d,ad,rfl,W,k⟩:=h
  refine zM (zb (zg (zT yF (by rfl) T.n_list bt_list (zn (yq (zf 0) rfl) za)))) ?_
  exact⟨_,rfl,p,_,dx,_,_,rfl,W.p,T.cl_Web,T.na_Web_own_hands,rfl,oh,_,rfl,.inl (SqL.of W.oh),k⟩
def zmu (a:Ad):Sp:=fun vs H Q _=>∃ (p:Addr) (x:Int) (hs:LI) (ls:LP) (dx oh ol d:Addr) (ad:Int→Addr),vs=[.ref p,.int x]∧WebAt a H p hs ls dx oh ol d ad∧Hs hs∧Ls hs ls∧x∈hs ∧
 ∀ (q:Addr),H q=none→Q (.ref q) (upd H q (.lst ((hs.filter (adB ls x)).map V.int)))
theorem zdG (T:Txt w K mg a):FnOk P w K mg base CX0 3 a.f_qW a.d_qW ["self", "hand"] (zmu a):=by
 refine T.F_qW.ok zc8 (fun vs H Q E h=>?_) (fun cdv A outer s H vs Q E hr h=>?_)
 ·obtain⟨p,x,hs,ls,dx,oh,ol,d,ad,rfl,_⟩:=h
  rfl
 ·obtain⟨p,x,hs,ls,dx,oh,ol,d,ad,rfl,W,wh,wl,hx,k⟩:=h
  have hu:=yQ hr
  refine zM (w_pss_cons (zu (zG (zy (zx (zf 0) (zd (zf 1) za))))
    (zb xI)
    zk)
   (zb (zg (zi xg (by rfl) T.n_sorted yi (zn (yH hu (yq (zf 0) rfl) (zf 1) (fun _ _=>rfl)) za))))) ?_
  refine⟨_,rfl,p,_,dx,_,_,_,_,_,_,rfl,W.p,rfl,T.cl_Web,T.mt_qU,uE (P:=P) (w:=w) T,hr.m,T.b_qU,_,rfl,p,x,hs,ls,dx,oh,ol,d,ad,rfl,W,hx,_,rfl,iteN rfl ?_⟩
  have few:=ZV (x:=x) wh wl
  exact⟨_,rfl,p,_,dx,_,_,rfl,W.p,T.cl_Web,T.na_Web_near,rfl,_,rfl,d,V.ref (ad x),rfl,wj W.nr.d hx,ad x,_,rfl,SqL.of (W.nr.nb x hx),by omega,fun q ms hq pm sd=>by rw[uw wh wl pm sd];exact k q hq⟩
theorem merge_app:∀ {kvs acc:List (Key×V)},((acc++kvs).map (·.1)).Nodup→mergeK acc kvs=acc++kvs
 |[],acc,_=>by simp[mergeK]
 |kv::kvs,acc,h=>by
  have hn:kv.1∉acc.map (·.1):=by
   rw[List.map_append,List.nodup_append] at h
   intro z
   exact h.2.2 _ z _ (by simp) rfl
  show mergeK (putK acc kv.1 kv.2) kvs=_
  rw[putK_new hn,merge_app (by simpa using h)]
  simp
theorem w8 {kvs:List (Key×V)}(h:(kvs.map (·.1)).Nodup):mergeK [] kvs=kvs:=by
 have:=merge_app (kvs:=kvs) (acc:=[]) (by simpa using h)
 simpa using this
theorem Z7 {us:LI}(h:us.Nodup):(us.map (Sum.inl:Int→Key)).Nodup:=by
 rw[List.nodup_iff_pairwise_ne,List.pairwise_map]
 exact(List.nodup_iff_pairwise_ne.mp h).imp fun {a b} n z=>n (by injection z)
theorem vd {hs:LI}(W:Hs hs):hs.Nodup:=List.nodup_iff_pairwise_ne.mpr (W.up.imp fun {a b} h=>by omega)
theorem LnAt.snoc {H:Hp}{rs:List V}{ls:LP}{q:Addr}{p:Int×Int}(h:LnAt H rs ls) (hq:H q=some (.tup [.int p.1,.int p.2])):LnAt H (rs++[.ref q]) (ls++[p]):=by
 refine⟨by simp[h.1],fun i r p' h1 h2=>?_⟩
 have l:=h.1
 by_cases hi:i<rs.length
 ·rw[List.getElem?_append_left hi] at h1
  rw[List.getElem?_append_left (by omega)] at h2
  exact h.2 i r p' h1 h2
 ·rw[List.getElem?_append_right (by omega)] at h1
  rw[List.getElem?_append_right (by omega),← l] at h2
  obtain⟨n,hn⟩:∃ n,n=i-rs.length:=⟨_,rfl⟩
  rw[← hn] at h1 h2
  cases n with
  |zero=>cases h1;cases h2;exact⟨q,rfl,hq⟩
  |succ n=>simp at h1
theorem LnAt.updL {H:Hp}{rs zs:List V}{ls:LP}{p:Addr}{o:HO}(hp:H p=some (.lst zs)) (h:LnAt H rs ls):LnAt (L2.upd H p o) rs ls:=⟨h.1,fun n r pr e1 e2=>by
 obtain⟨q,e,t⟩:=h.2 n r pr e1 e2
 exact⟨q,e,by rw[upd_ne (Vh t hp (by intro z;cases z))];exact t⟩⟩
theorem at_last {xs:List V}{v:V}:atI (xs++[v]) (-1)=some v:=by
 unfold atI ixN
 rw[if_neg (by decide),if_pos (by simp;omega)]
 simp
 have:((-1:Int)+((xs.length:Int)+1)).toNat=xs.length:=by omega
 rw[this]
 simp
def tabV (f:Int→V) (us:LI):List (Key×V):=us.map fun h=>(Sum.inl h,f h)
theorem tabV_keys {f:Int→V}{us:LI}:(tabV f us).map (·.1)=us.map Sum.inl:=by
 unfold tabV
 rw[List.map_map]
 rfl
theorem tabV_len {f:Int→V}{us:LI}:(tabV f us).length=us.length:=by
 unfold tabV
 rw[List.length_map]
theorem wU {f:Int→V}{x:Int}:∀ {us:LI},x∈us→yL (tabV f us) (Sum.inl x:Key)=some (f x)
 |u::us,h=>by
  unfold tabV yL
  rw[List.map_cons,List.find?_cons]
  by_cases e:u=x
  ·subst e;simp
  ·have:¬ ((Sum.inl u:Key)=Sum.inl x):=fun z=>e (by injection z)
   simp only[decide_eq_false this]
   have:=wU (f:=f) ((List.mem_cons.mp h).resolve_left fun z=>e z.symm)
   unfold tabV yL at this
   exact this
theorem YC {f:Int→V}{us:LI}{x:Int}(h:x∉us):yL (tabV f us) (Sum.inl x:Key)=none:=by
 have z:=wT (kvs:=tabV f us) (k:=(Sum.inl x:Key)) (by rw[tabV_keys,ua];exact h)
 cases hv:yL (tabV f us) (Sum.inl x:Key) with
 |none=>rfl
 |some v=>rw[hv] at z;cases z
theorem xz {H:Hp}{d:Addr}{f:Int→V}{us:LI}{x:Int}(e:H d=some (.dK (tabV f us))) (h:x∈us):DGet H d (V.int x) (some (f x)):=by
 have:=DGet.k (k:=.inl x) e
 rw[wU h] at this
 exact this
theorem vY {H:Hp}{d:Addr}{f:Int→V}{us:LI}{x:Int}(e:H d=some (.dK (tabV f us))) (h:x∉us):DGet H d (V.int x) none:=by
 have:=DGet.k (k:=Sum.inl x) e
 rw[YC h] at this
 exact this
theorem yK {f g:Int→V}{us:LI}(h:∀ x∈us,f x=g x):tabV f us=tabV g us:=List.map_congr_left fun x hx=>by rw[h x hx]
theorem ut {f:Int→V}{us:LI}{x:Int}{v:V}(h:x∉us):putK (tabV f us) (.inl x) v=tabV (fun y=>if y=x then v else f y) (us++[x]):=by
 rw[putK_new (by rw[tabV_keys,ua];exact h)]
 unfold tabV
 rw[List.map_append]
 congr 1
 ·exact List.map_congr_left fun y hy=>by
   show _=(Sum.inl y,if y=x then v else f y)
   rw[if_neg (fun(e:y=x)=>h (by rw[← e];exact hy))]
 ·simp
theorem ur {f:Int→V}{us vs:LI}:tabV f (us++vs)=tabV f us++tabV f vs:=List.map_append
theorem wK {f:Int→V}{us vs:LI}(h:(us++vs).Nodup):mergeK (tabV f us) (tabV f vs)=tabV f (us++vs):=by
 rw[merge_app (by rw[← ur,tabV_keys];exact Z7 h),ur]
def XsAt (H:Hp) (l:Addr):Prop:=∃ ns:LI,H l=some (.lst (ns.map V.int))∧(∀ n∈ns,0≤n)∧ns.length≤400
theorem XsAt.ne {H:Hp}{l p:Addr}(s:XsAt H l) (h:H p=none):p≠l:=fun z=>by
 obtain⟨ns,e,_⟩:=s
 rw[← z,h] at e
 cases e
theorem XsAt.same {H H':Hp}{l:Addr}(s:XsAt H l) (k:Same H H'):XsAt H' l:=by
 obtain⟨ns,e,h⟩:=s
 exact⟨ns,k _ _ e,h⟩
theorem XsAt.new {H:Hp}{l p:Addr}{o:HO}(s:XsAt H l) (h:H p=none):XsAt (upd H p o) l:=s.same (Same.new h)
theorem XsAt.upd {H:Hp}{l p:Addr}{o:HO}(s:XsAt H l) (h:p≠l):XsAt (upd H p o) l:=by
 obtain⟨ns,e,h'⟩:=s
 exact⟨ns,by rw[upd_ne h.symm];exact e,h'⟩
def Xv (K:PySem.W.Frag):Sp:=fun vs H Q _=>∃ (l:Addr) (ns:LI) (k:Int),vs=[.ref l,.int k]∧SqL K H l (ns.map V.int)∧0≤k∧∀ i:Int,Q (.int i) H
theorem Vd (T:Txt w K mg a):FnOk P w K mg base CX0 1 a.f_qx a.d_qx ["_law_script", "_law_k"] (Xv K):=by
 refine T.F_qx.ok zc1 (fun vs H Q E h=>?_) (fun cdv A outer s H vs Q E hr h=>?_)
 ·obtain⟨l,ns,k,rfl,_⟩:=h
  rfl
 ·obtain⟨l,ns,k,rfl,hl,k0,q⟩:=h
  refine zM (w_pss_cons (zu (zl vC (zf 1) (zi zD (by rfl) T.n_len yu (zd (zf 0) za)) (zC _))
    (zb (zg (zr zN (zf 0) (zf 1) (fun _ _=>rfl))))
    zk)
   (zb (zg ze))) ?_
  refine⟨_,rfl,_,rfl,l,_,rfl,.inl hl,_,_,rfl,rfl,_,rfl,?_⟩
  rw[List.length_map]
  refine ite2 (fun z=>?_) (fun z=>?_)
  ·have z:k<ns.length:=of_decide_eq_true z
   obtain⟨n,rfl⟩:∃ n:Nat,k=n:=⟨k.toNat,by omega⟩
   have hn:n<ns.length:=by omega
   refine⟨_,rfl,_,rfl,l,_,_,V.int ns[n],rfl,rfl,hl,zY (by simp[hn]),?_⟩
   exact q _
  ·exact q 0
def wL:Sp:=fun vs H Q _=>∃ (l:Addr) (n:Int),vs=[.ref l,.int n]∧XsAt H l∧0<n∧∀ (d:Int) (H':Hp),0≤d→d<n→XsAt H' l→Ext l H H'→Q (.int d) H'
theorem wq (T:Txt w K mg a):FnOk P w K mg base CX0 1 a.f_qz a.d_qz ["_law_xs", "_law_size"] wL:=by
 refine T.F_qz.ok zc0 (fun vs H Q E h=>?_) (fun cdv A outer s H vs Q E hr h=>?_)
 ·obtain⟨l,n,rfl,_⟩:=h
  rfl
 ·obtain⟨l,n,rfl,⟨ns,hl,h0,hlen⟩,hn,k⟩:=h
  have un:∀ n:Nat,n≤3→(A.deeper (PyProof.Rows.envOfC "_law_take" (defScope YD) s.heap.objs.size a.f_qz cdv)).units+n+2<cLine:=fun n hn=>by
   have:=hr.units
   omega
  refine zM (w_pss_cons (zu (zl (vD UA UB) (zf 0) (zA za) (zC _))
    (zb (zg ze))
    zk)
   (zb (zg (zq xN (ya PySem.F.plainAttrs_list PySem.F.slot_list_pop PySem.F.type_list_pop uF (zf 0) (zX ze za)) (zf 1))))) ?_
  refine⟨_,rfl,(by show 0≤sizeLine;decide),fun q hq=>?_⟩
  have hql:q≠l:=fun z=>by rw[z,hl] at hq;cases hq
  have hl1:(L2.upd H q (.lst [])) l=_:=(upd_ne hql.symm).trans hl
  cases ns with
  |nil =>
   refine .inl ⟨l,q,_,_,fun _=>true,0,rfl,rfl,.inl ⟨SqL.of hl1,SqL.of upd_same⟩,rfl,?_,?_,?_⟩
   ·exact un 0 (by decide)
   ·intro j x y hx
    cases hx
   ·refine⟨_,rfl,iteB rfl ?_⟩
    exact k 0 _ (Int.le_refl _) hn ⟨[],hl1,h0,hlen⟩ (Ext.new hq)
  |cons n0 ns =>
   refine .inr ⟨l,q,_,_,rfl,rfl,SqL.of hl1,SqL.of upd_same,(by simp),?_,?_⟩
   ·exact Nat.lt_of_le_of_lt (Nat.le_add_right _ 2) (un 0 (by decide))
   ·refine⟨_,rfl,iteN rfl ?_⟩
    refine⟨_,rfl,.inl ⟨rfl,_,SqL.of hl1⟩,l,_,0,0,_,rfl,rfl,hl1,by decide,by decide,(by simp[seqIndex?]),rfl,?_⟩
    refine⟨_,rfl,_,_,rfl,rfl,hn,?_⟩
    refine k _ _ (Int.emod_nonneg _ (Int.ne_of_gt hn)) (Int.emod_lt_of_pos _ hn) ⟨ns,upd_same,fun x hx=>h0 x (List.mem_cons_of_mem _ hx),?_⟩ ((Ext.new hq).trans Ext.at)
    have:ns.length+1≤400:=hlen
    omega
def ZB:Sp:=fun vs H Q _=>∃ (c:Int) (m:Nat),vs=[.int c,.int (m:Int)]∧m≤400∧∀ (q:Addr) (H':Hp),H q=none→XsAt H' q→Same H H'→Q (.ref q) H'
theorem YU (T:Txt w K mg a):FnOk P w K mg base CX0 1 a.f_qy a.d_qy ["_law_cell", "_law_many"] ZB:=by
 refine T.F_qy.ok sc_qy (fun vs H Q E h=>?_) (fun cdv A outer s H vs Q E hr h=>?_)
 ·obtain⟨c,m,rfl,_⟩:=h
  rfl
 ·obtain⟨c,m,rfl,hm,k⟩:=h
  refine zM (w_pss_cons (w_ps_set (i:=2) sc_qy.nd rfl (Or.inl rfl) (zA za))
   (w_pss_cons (w_ps_set (i:=3) sc_qy.nd rfl (Or.inl rfl) ze)
   (wf (zu (zl zdu (zf 0) (zq uB ze ze) (zC _))
    (zb (w_ps_set (i:=3) sc_qy.nd rfl (Or.inl rfl) (zq wN (zf 0) (zq uB ze ze))))
    zk)
   (w_pss_cons (yA PassesOwn.never (we (yo (zl u4 (zf 3) ze (zC _)) (yd (zl vC (zi zD (by rfl) T.n_len yu (zd (zf 2) za)) (zf 1) (zC _)))))
    (w_pss_cons (zH (ya PySem.F.plainAttrs_list PySem.F.slot_list_append PySem.F.type_list_append zL (zf 2) (xy (zq xN (zf 3) (zq uB ze ze)) za)))
    (zb (w_ps_set (i:=3) sc_qy.nd rfl (Or.inl rfl) (zq xY (zf 3) (zq uB ze ze))))))
   (w_pss_cons (w_ps_set (i:=4) sc_qy.nd rfl (Or.inl rfl) (zq xN (zq vB (zq xl (zq xN (zf 0) ze) ze) ze) ze))
   (w_pss_cons (zE PassesOwn.never rfl (yB rfl T.n_range (xy (zq wN (zf 1) (zi zD (by rfl) T.n_len yu (zd (zf 2) za))) za)) (zh (i:=5) sc_qy.nd rfl (Or.inl rfl))
    (w_pss_cons (w_ps_set (i:=4) sc_qy.nd rfl (Or.inl rfl) (zq xN (zq vB (zq xl (zq xl (zf 4) (zq vB ze (zf 5))) ze) ze) ze))
    (w_pss_cons (w_ps_set (i:=6) sc_qy.nd rfl (Or.inl rfl) (zq xN (zq vB (zf 4) (zq xl (zq xY (zf 4) ze) ze)) ze))
    (zb (zH (ya PySem.F.plainAttrs_list PySem.F.slot_list_append PySem.F.type_list_append zL (zf 2) (xy (zq xN (zq vB (zf 6) (zq xl (zq xY (zf 6) ze) ze)) ze) za)))))))
   (zb (zg (zf 2))))))))) ?_
  refine⟨(by show 0≤sizeLine;decide),fun p hp=>?_⟩
  refine⟨fun σ' H'=>∃ rest:Int,σ'=[some (.int c),some (.int m),some (.ref p),some (.int rest),none,none,none]∧H'=L2.upd H p (.lst []),?_,?_⟩
  ·refine⟨_,rfl,_,_,rfl,rfl,⟨by decide,by decide,by decide⟩,_,_,rfl,rfl,_,rfl,?_⟩
   refine ite2 (fun _=>?_) (fun _=>?_)
   ·exact⟨_,rfl,_,_,rfl,rfl,⟨by decide,by decide,by decide⟩,_,_,rfl,rfl,_,rfl,rfl⟩
   ·exact⟨_,rfl,rfl⟩
  ·rintro σ' H' ⟨rest,rfl,rfl⟩
   refine⟨fun μ σ H'=>∃ (ns:LI) (rest:Int),μ=m-ns.length∧σ=[some (.int c),some (.int m),some (.ref p),some (.int rest),none,none,none]∧H' p=some (.lst (ns.map V.int))∧Same H H'∧(∀ n∈ns,0≤n)∧ns.length≤m,⟨_,[],rest,rfl,rfl,upd_same,Same.new hp,(fun n hn=>nomatch hn),Nat.zero_le _⟩,?_⟩
   rintro μ σ H1 ⟨ns,rest,rfl,rfl,hp1,s1,h0,hlen⟩
   refine⟨_,rfl,_,_,rfl,rfl,_,rfl,?_⟩
   refine(fun hB=>ite2 (fun _=>⟨_,rfl,p,_,rfl,.inl (SqL.of hp1),_,rfl,_,_,rfl,rfl,_,rfl,ite2 (fun z=>?gC) (fun _=>hB)⟩) (fun _=>hB)) ?gB
   case gC =>
    have z:(ns.length:Int)<m:=by
     have z:=of_decide_eq_true z
     rw[List.length_map] at z
     exact z
    refine⟨_,fun σ' H' h=>h,?_⟩
    refine⟨_,rfl,.inl ⟨rfl,_,SqL.of hp1⟩,_,rfl,_,_,rfl,rfl,⟨by decide,by decide,by decide⟩,_,_,rfl,rfl,(by show(0:Int)<10 ^ Int.toNat 6;decide),p,_,_,rfl,rfl,hp1,(by rw[List.length_map];exact zj (by omega)),?_⟩
    refine⟨_,rfl,_,_,rfl,rfl,⟨by decide,by decide,by decide⟩,_,_,rfl,rfl,⟨(by show(0:Int)<10 ^ Int.toNat 6;decide),(by show(10 ^ Int.toNat 6:Int).natAbs.log2<9000;decide)⟩,?_⟩
    refine⟨m-(ns.length+1),by omega,ns++[rest%10 ^ Int.toNat 6],_,by simp,rfl,?_,Same.updF s1 hp,?_,by simp;omega⟩
    ·rw[upd_same,List.map_append]
     rfl
    ·intro n hn
     rcases List.mem_append.mp hn with h | h
     ·exact h0 n h
     ·rw[List.mem_singleton.mp h]
      exact Int.emod_nonneg _ (by decide)
   case gB =>
    refine⟨_,rfl,_,_,rfl,rfl,(by show(0:Int)<2147483647;decide),_,_,rfl,rfl,_,_,rfl,rfl,.inr ⟨by decide,by decide⟩,_,_,rfl,rfl,(by show(0:Int)<2147483647;decide),?_⟩
    refine⟨_,rfl,_,rfl,p,_,rfl,.inl (SqL.of hp1),_,_,rfl,rfl,?_⟩
    rw[List.length_map]
    refine⟨(m:Int)-ns.length,rfl,by omega,by omega,?_⟩
    generalize ((c%2147483647+1)*48271%2147483647)=x0
    refine for_range (lo:=0) (fun i σ H'=>∃ (ns':LI) (x:Int) (o5 o6:Option V),σ=[some (.int c),some (.int m),some (.ref p),some (.int rest),some (.int x),o5,o6]∧H' p=some (.lst (ns'.map V.int))∧Same H H'∧(∀ n∈ns',0≤n)∧ns'.length=ns.length+i) ?_ ?_ ?_
    ·exact⟨ns,_,none,none,rfl,hp1,s1,h0,rfl⟩
    ·rintro i σ H2 hi ⟨ns',x,o5,o6,rfl,hp2,s2,h2,hl2⟩
     refine⟨_,rfl,_,rfl,_,_,rfl,rfl,.inl ⟨by decide,by decide⟩,_,_,rfl,rfl,_,_,rfl,rfl,_,_,rfl,rfl,.inr ⟨by decide,by decide⟩,_,_,rfl,rfl,(by show(0:Int)<2147483647;decide),?_⟩
     generalize hv:(x+7919*(0+(i:Int))+1)*48271%2147483647=v
     have v1:0≤v:=by rw[← hv];exact Int.emod_nonneg _ (by decide)
     have v2:v<2147483647:=by rw[← hv];exact Int.emod_lt_of_pos _ (by decide)
     refine⟨_,rfl,_,rfl,_,_,rfl,rfl,⟨by show(0:Int)<1009;decide,Y6⟩,_,_,rfl,rfl,_,_,rfl,rfl,.inl ⟨by omega,by omega⟩,_,_,rfl,rfl,(by show(0:Int)<2147483647;decide),?_⟩
     generalize hu:v*(v/1009+65537)%2147483647=u
     have u1:0≤u:=by rw[← hu];exact Int.emod_nonneg _ (by decide)
     have u2:u<2147483647:=by rw[← hu];exact Int.emod_lt_of_pos _ (by decide)
     refine⟨_,rfl,.inl ⟨rfl,_,SqL.of hp2⟩,_,rfl,_,rfl,_,_,rfl,rfl,⟨by show(0:Int)<2003;decide,Y4⟩,_,_,rfl,rfl,_,_,rfl,rfl,.inl ⟨by omega,by omega⟩,_,_,rfl,rfl,(by show(0:Int)<2147483399;decide),p,_,_,rfl,rfl,hp2,(by rw[List.length_map];exact zj (by omega)),?_⟩
     refine⟨ns'++[u*(u/2003+40697)%2147483399],v,some (.int (0+(i:Int))),some (.int u),(by rw[← hu,← hv];rfl),?_,Same.updF s2 hp,?_,by simp;omega⟩
     ·rw[upd_same,List.map_append,← hu,← hv]
      rfl
     ·intro n hn
      rcases List.mem_append.mp hn with h | h
      ·exact h2 n h
      ·rw[List.mem_singleton.mp h]
       exact Int.emod_nonneg _ (by decide)
    ·rintro σ H2 ⟨ns',x,o5,o6,rfl,hp2,s2,h2,hl2⟩
     exact⟨_,rfl,k p H2 hp ⟨ns',hp2,h2,by omega⟩ s2⟩
def ot1 (ls:LP) (x:Int):LI:=(ls.filter fun p=>decide (p.1=x)).map (·.2)
def ot2 (ls:LP) (x:Int):LI:=(ls.filter fun p=>decide (p.2=x)).map (·.1)
theorem YR {ls:LP}{p:Int×Int}{x:Int}:ot1 (ls++[p]) x=ot1 ls x++if p.1=x then[p.2] else[]:=by
 unfold ot1
 rw[List.filter_append,List.map_append]
 by_cases c:p.1=x<;>simp[c]
theorem YQ {ls:LP}{p:Int×Int}{x:Int}:ot2 (ls++[p]) x=ot2 ls x++if p.2=x then[p.1] else[]:=by
 unfold ot2
 rw[List.filter_append,List.map_append]
 by_cases c:p.2=x<;>simp[c]
theorem ZN {x:Int}:∀ {ls:LP},(ot1 ls x++ot2 ls x).Perm (nbs ls x)
 |[]=>List.Perm.refl _
 |p::ls=>by
  have e:nbs (p::ls) x=((if p.1=x then[p.2] else[])++if p.2=x then[p.1] else[])++nbs ls x:=by unfold nbs;rw[List.flatMap_cons]
  have e1:ot1 (p::ls) x=(if p.1=x then[p.2] else[])++ot1 ls x:=by unfold ot1;by_cases c:p.1=x<;>simp[c]
  have e2:ot2 (p::ls) x=(if p.2=x then[p.1] else[])++ot2 ls x:=by unfold ot2;by_cases c:p.2=x<;>simp[c]
  rw[e,e1,e2]
  refine List.Perm.trans ?_ (List.Perm.append_left _ (ZN (ls:=ls)))
  rw[List.append_assoc,List.append_assoc]
  refine List.Perm.append_left _ ?_
  rw[← List.append_assoc,← List.append_assoc]
  exact List.Perm.append_right _ List.perm_append_comm
theorem Xx {ls:LP}{x:Int}:(ot1 ls x).length≤ls.length∧(ot2 ls x).length≤ls.length:=by
 unfold ot1 ot2
 rw[List.length_map,List.length_map]
 exact⟨List.length_filter_le _ _,List.length_filter_le _ _⟩
def zcW:Sp:=fun vs H Q _=>∃ (q:Addr) (x:Int) (rs:List V) (hs:LI) (ls:LP),vs=[.ref q,.int x]∧H q=some (.lst rs)∧LnAt H rs ls∧Hs hs∧Ls hs ls ∧
 ∀ (p:Addr) (H':Hp),H p=none→Same H H'→H' p=some (.lst ((hs.filter (adB ls x)).map V.int))→Q (.ref p) H'
theorem UH (T:Txt w K mg a):FnOk P w K mg base CX0 1 a.f_qD a.d_qD ["_law_lines_here", "_law_hand"] zcW:=by
 refine T.F_qD.ok sc_qD (fun vs H Q E h=>?_) (fun cdv A outer s H vs Q E hr h=>?_)
 ·obtain⟨q,x,rs,hs,ls,rfl,_⟩:=h
  rfl
 ·obtain⟨q,x,rs,hs,ls,rfl,hq,L,wh,wl,k⟩:=h
  have hu:=yQ hr
  have l66:=wl.le
  refine zM (w_pss_cons (yU (i:=2) rfl sc_qD.nd rfl (Or.inl rfl) (N':=["_law_one", "_law_other", "_law_hand"]) (t:=2) (caps:=[1]) ⟨rfl,rfl,rfl⟩ (zw (zf 0)) (fun _=>(zZ rfl (zp (zh (i:=0) (show(["_law_one", "_law_other", "_law_hand"]:List Str).Nodup by decide +kernel) rfl (Or.inl rfl)) (zp (zh (i:=1) (show(["_law_one", "_law_other", "_law_hand"]:List Str).Nodup by decide +kernel) rfl (Or.inl rfl)) zQ)))) (fun _=>(yT (zl xo (zf 0) (zf 2) (zC _)))) (fun _=>(zf 1)))
   (zb (zg (zi xg (by rfl) T.n_sorted yi (xy (zq xk (zf 2) (yt rfl (N':=["_law_one", "_law_other", "_law_hand"]) (t:=2) (caps:=[1]) ⟨rfl,rfl,rfl⟩ (zw (zf 0)) (fun _=>(zZ rfl (zp (zh (i:=0) (show(["_law_one", "_law_other", "_law_hand"]:List Str).Nodup by decide +kernel) rfl (Or.inl rfl)) (zp (zh (i:=1) (show(["_law_one", "_law_other", "_law_hand"]:List Str).Nodup by decide +kernel) rfl (Or.inl rfl)) zQ)))) (fun _=>(yT (zl xo (zf 1) (zf 2) (zC _)))) (fun _=>(zf 0)))) za))))) ?_
  refine⟨_,rfl,q,rfl,⟨_,SqL.of hq⟩,fun D hD _=>?_⟩
  refine yh (K:=K) (a:=q) (xs:=rs) (fun j zs τ H'=>∃ o1 o2,τ=[o1,o2,some (.int x)]∧zs=(ot1 (ls.take j) x).map V.int∧H' D=some (.lst zs)∧Same H H') ?_ ?_ ?_ ?_
  ·exact⟨none,none,rfl,rfl,upd_same,Same.new hD⟩
  ·rintro j zs τ H' ⟨o1,o2,_,_,_,sm⟩
   exact SqL.of (sm _ _ hq)
  ·rintro j v zs τ H' hj ⟨o1,o2,rfl,rfl,hD',sm⟩
   obtain⟨pr,r,hpr,rfl,hr'⟩:=L.get hj
   refine⟨r,_,rfl,SqT.of (sm _ _ hr'),rfl,_,_,rfl,_,_,rfl,rfl,?_⟩
   refine⟨_,rfl,_,rfl,rfl,_,rfl,?_⟩
   have st:ot1 (ls.take (j+1)) x=ot1 (ls.take j) x++if pr.1=x then[pr.2] else[]:=by
    rw[List.take_add_one,hpr]
    exact YR
   refine ite2 (fun z=>?_) (fun z=>?_)
   ·have z:pr.1=x:=by
     have:=of_decide_eq_true z
     injection this
    refine⟨_,rfl,hD',?_,_,_,rfl,?_,upd_same,Same.updF sm hD⟩
    ·rw[List.length_map]
     have:=(Xx (ls:=ls.take j) (x:=x)).1
     rw[List.length_take] at this
     exact zj (by omega)
    ·rw[st,if_pos z,List.map_append]
     rfl
   ·have z:¬ pr.1=x:=fun e=>z (by rw[e];exact decide_eq_true rfl)
    refine⟨_,_,rfl,?_,hD',sm⟩
    rw[st,if_neg z,List.append_nil]
  ·rintro zs τ H1 ⟨o1,o2,rfl,rfl,hD1,sm⟩
   rw[L.1,List.take_length] at hD1
   refine⟨_,rfl,_,rfl,q,rfl,⟨_,SqL.of (sm _ _ hq)⟩,fun D2 hD2 _=>?_⟩
   refine yh (K:=K) (a:=q) (xs:=rs) (fun j zs τ H'=>∃ o1 o2,τ=[o1,o2,some (.int x)]∧zs=(ot2 (ls.take j) x).map V.int∧H' D2=some (.lst zs)∧Same H1 H') ?_ ?_ ?_ ?_
   ·exact⟨none,none,rfl,rfl,upd_same,Same.new hD2⟩
   ·rintro j zs τ H' ⟨o1,o2,_,_,_,sm2⟩
    exact SqL.of (sm2 _ _ (sm _ _ hq))
   ·rintro j v zs τ H' hj ⟨o1,o2,rfl,rfl,hD',sm2⟩
    obtain⟨pr,r,hpr,rfl,hr'⟩:=L.get hj
    refine⟨r,_,rfl,SqT.of (sm2 _ _ (sm _ _ hr')),rfl,_,_,rfl,_,_,rfl,rfl,?_⟩
    refine⟨_,rfl,_,rfl,rfl,_,rfl,?_⟩
    have st:ot2 (ls.take (j+1)) x=ot2 (ls.take j) x++if pr.2=x then[pr.1] else[]:=by
     rw[List.take_add_one,hpr]
     exact YQ
    refine ite2 (fun z=>?_) (fun z=>?_)
    ·have z:pr.2=x:=by
      have:=of_decide_eq_true z
      injection this
     refine⟨_,rfl,hD',?_,_,_,rfl,?_,upd_same,Same.updF sm2 hD2⟩
     ·rw[List.length_map]
      have:=(Xx (ls:=ls.take j) (x:=x)).2
      rw[List.length_take] at this
      exact zj (by omega)
     ·rw[st,if_pos z,List.map_append]
      rfl
    ·have z:¬ pr.2=x:=fun e=>z (by rw[e];exact decide_eq_true rfl)
     refine⟨_,_,rfl,?_,hD',sm2⟩
     rw[st,if_neg z,List.append_nil]
   ·rintro zs τ H2 ⟨o1',o2',rfl,rfl,hD3,sm2⟩
    rw[L.1,List.take_length] at hD3
    have pmx:=ZN (x:=x) (ls:=ls)
    have few:=ZV (x:=x) wh wl
    have flen:=pmx.length_eq
    rw[List.length_append] at flen
    refine⟨D,D2,_,_,rfl,rfl,sm2 _ _ hD1,hD3,(by rw[List.length_map,List.length_map];exact Nat.le_of_lt (zj (by omega))),fun p hp=>?_⟩
    have hp':L2.upd H2 p (HO.lst (List.map V.int (ot1 ls x)++List.map V.int (ot2 ls x))) p=some (.lst ((ot1 ls x++ot2 ls x).map V.int)):=by rw[upd_same,List.map_append]
    have y3:=Same.new (o:=HO.lst (List.map V.int (ot1 ls x)++List.map V.int (ot2 ls x))) hp
    have y123:=(sm.trans sm2).trans y3
    exact⟨p,_,rfl,SqL.of hp',by rw[List.length_append];omega,fun q' ms hq' pm sd=>by
     rw[uw wh wl (pm.trans pmx) sd]
     exact k q' _ (y123.free hq') (y123.trans (Same.new hq')) upd_same⟩
def zj9:Sp:=fun vs H Q _=>∃ (l:Addr) (mo:Int),vs=[.ref l,.int mo]∧0<mo∧mo≤12∧XsAt H l ∧
 ∀ (h:Addr) (hs:LI) (H':Hp),H h=none→H' h=some (.lst (hs.map V.int))→Hs hs→(hs.length:Int)≤mo→XsAt H' l→Ext l H H'→Q (.ref h) H'
theorem zdK (T:Txt w K mg a):FnOk P w K mg base CX0 2 a.f_qA a.d_qA ["_law_xs", "_law_most"] zj9:=by
 have c_qz:Callee P w K mg base "_law_take" a.f_qz a.d_qz ["_law_xs", "_law_size"] 1 wL:=⟨wq T,T.g_qz,T.F_qz.kp,T.b_qz⟩
 refine T.F_qA.ok sc_qA (fun vs H Q E h=>?_) (fun cdv A outer s H vs Q E hr h=>?_)
 ·obtain⟨l,mo,rfl,_⟩:=h
  rfl
 ·obtain⟨l,mo,rfl,mo0,mo12,hs,k⟩:=h
  refine zM (w_pss_cons (w_ps_set (i:=2) sc_qA.nd rfl (Or.inl rfl) (zm c_qz hr.m (zd (zf 0) (zX ze za))))
   (w_pss_cons (w_ps_set (i:=3) sc_qA.nd rfl (Or.inr rfl) (zA (zd (zf 2) za)))
   (w_pss_cons (zE PassesOwn.never rfl (yB rfl T.n_range (zI (zm c_qz hr.m (zd (zf 0) (zd (zf 1) za))) za)) (zh (i:=4) sc_qA.nd rfl (Or.inl rfl))
    (w_pss_cons (w_ps_set (i:=2) sc_qA.nd rfl (Or.inl rfl) (zq xl (zq xl (zf 2) ze) (zm c_qz hr.m (zd (zf 0) (zX ze za)))))
    (zb (zH (ya PySem.F.plainAttrs_list PySem.F.slot_list_append PySem.F.type_list_append zL (zf 3) (zd (zf 2) za))))))
   (wf (zu (zl xo (zm c_qz hr.m (zd (zf 0) (zX ze za))) ze (zC _))
    (zb (w_ps_set (i:=3) sc_qA.nd rfl (Or.inr rfl) (yt rfl (N':=["_law_one", "_law_found"]) (t:=1) (caps:=[3]) ⟨rfl,rfl,rfl⟩ (zw (zf 3)) (fun _=>(zh (i:=0) (show(["_law_one", "_law_found"]:List Str).Nodup by decide +kernel) rfl (Or.inl rfl))) (fun _=>yG) (fun _=>(zq wN (zq xl (zf 0) ze) (zr zN (zf 1) (yj yJ ze) (fun _ _=>rfl)))))))
    zk)
   (zb (zg (zf 3))))))) ?_
  refine⟨_,rfl,l,5,rfl,hs,by decide,fun d0 H1 g1 g2 s1 x1=>?_⟩
  refine⟨_,rfl,(by show 1≤sizeLine;decide),fun p hp=>?_⟩
  have npl:=s1.ne hp
  refine⟨_,rfl,_,rfl,l,mo,rfl,s1.new hp,mo0,fun m H2 g3 g4 s2 x2=>?_⟩
  refine⟨m,rfl,by omega,by omega,?_⟩
  have hp2:H2 p=some (.lst [V.int d0]):=x2 _ _ upd_same npl
  have X2:Ext l H1 H2:=(Ext.new hp).trans x2
  refine for_range (lo:=0) (fun i σ H'=>∃ (ns:LI) (x:Int) (o4:Option V),σ=[some (.ref l),some (.int mo),some (.int x),some (.ref p),o4]∧H' p=some (.lst ((ns++[x]).map V.int))∧ns.length=i∧(ns++[x]).Pairwise (· < ·)∧(∀ y∈ns++[x],0≤y)∧(∀ y∈ns++[x],y≤4+8*(i:Int))∧XsAt H' l∧Ext l H1 H') ?_ ?_ ?_
  ·refine⟨[],d0,none,rfl,hp2,rfl,by simp,?_,?_,s2,X2⟩
   ·intro y hy
    rw[List.mem_singleton.mp hy];exact g1
   ·intro y hy
    rw[List.mem_singleton.mp hy];omega
  ·rintro i σ H3 hi ⟨ns,x,o4,rfl,hp3,hln,up,lo,hi',s3,x3⟩
   refine⟨_,rfl,_,_,rfl,rfl,_,rfl,l,8,rfl,s3,by decide,fun d H4 a1 a2 s4 x4=>?_⟩
   have hp4:=x4 _ _ hp3 npl
   refine⟨_,_,rfl,rfl,_,rfl,.inl ⟨rfl,_,SqL.of hp4⟩,_,rfl,p,_,_,rfl,rfl,hp4,(by rw[List.length_map,List.length_append];exact zj (by simp;omega)),?_⟩
   refine⟨ns++[x],x+1+d,_,rfl,?_,by simp[hln],?_,?_,?_,s4.upd npl,?_⟩
   ·rw[upd_same,List.map_append (l₂:=[x+1+d])]
    rfl
   ·rw[List.pairwise_append]
    refine⟨up,by simp,fun y hy z hz=>?_⟩
    rw[List.mem_singleton.mp hz]
    rcases List.mem_append.mp hy with h | h
    ·have:=(List.pairwise_append.mp up).2.2 y h x (by simp)
     omega
    ·rw[List.mem_singleton.mp h];omega
   ·intro y hy
    rcases List.mem_append.mp hy with h | h
    ·exact lo y h
    ·rw[List.mem_singleton.mp h]
     have:=lo x (by simp)
     omega
   ·intro y hy
    rcases List.mem_append.mp hy with h | h
    ·have:=hi' y h
     omega
    ·rw[List.mem_singleton.mp h]
     have:=hi' x (by simp)
     omega
   ·intro b o e nb
    rw[upd_ne (ne_of_none e hp)]
    exact(x3.trans x4) b o e nb
  ·rintro σ H3 ⟨ns,x,o4,rfl,hp3,hln,up,lo,hi',s3,x3⟩
   have hp0:H p=none:=by
    cases e:H p with
    |none=>rfl
    |some o=>have:=x1 _ _ e npl;rw[hp] at this;cases this
   have X3:=x1.trans x3
   refine⟨fun σ' H'=>∃ (h:Addr) (hs':LI),σ'=[some (.ref l),some (.int mo),some (.int x),some (.ref h),o4]∧H h=none∧H' h=some (.lst (hs'.map V.int))∧Hs hs'∧(hs'.length:Int)≤mo∧XsAt H' l∧Ext l H H',?_,?_⟩
   ·refine⟨_,rfl,l,4,rfl,s3,by decide,fun d H4 a1 a2 s4 x4=>⟨rfl,_,rfl,?_⟩⟩
    have hp4:=x4 _ _ hp3 npl
    have X4:=X3.trans x4
    have hl:(ns++[x]).length=m.toNat+1:=by rw[List.length_append,hln];rfl
    refine ite2 (fun _=>?_) (fun _=>?_)
    ·refine⟨_,rfl,p,rfl,⟨_,SqL.of hp4⟩,fun D hD _=>?_⟩
     have nDl:=s4.ne hD
     have hD0:H D=none:=by
      cases e:H D with
      |none=>rfl
      |some o=>have:=X4 _ _ e nDl;rw[hD] at this;cases this
     refine yh (K:=K) (a:=p) (xs:=(ns++[x]).map V.int) (fun j zs τ H'=>∃ o,τ=[o,some (.ref p)]∧zs=(((ns++[x]).take j).map fun y=>y+99-x).map V.int∧H' D=some (.lst zs)∧Same H4 H') ?_ ?_ ?_ ?_
     ·exact⟨none,rfl,by simp,upd_same,Same.new hD⟩
     ·rintro j zs τ H' ⟨o,_,_,_,sm⟩
      exact SqL.of (sm _ _ hp4)
     ·rintro j v zs τ H' hj ⟨o,rfl,rfl,hD',sm⟩
      rw[List.getElem?_map] at hj
      obtain⟨y,hy,rfl⟩:=Option.map_eq_some_iff.mp hj
      have hjl:=(List.getElem?_eq_some_iff.mp hy).1
      refine Yc ?_
      refine⟨_,rfl,_,_,rfl,rfl,_,rfl,_,rfl,p,_,_,V.int x,rfl,rfl,SqL.of (sm _ _ hp4),(by rw[List.map_append];exact at_last),_,_,rfl,rfl,hD',by simp;exact zj (by omega),some (.int y),rfl,?_,upd_same,Same.updF sm hD⟩
      rw[List.take_add_one,hy]
      simp
     ·rintro zs τ H5 ⟨o,rfl,rfl,hD5,sm⟩
      rw[List.length_map,List.take_length] at hD5
      refine⟨D,_,rfl,hD0,hD5,⟨?_,?_,?_,?_,?_⟩,by rw[List.length_map,hl];omega,s4.same sm,X4.trans (Ext.same sm)⟩
      ·rw[List.length_map,hl];omega
      ·rw[List.length_map,hl];omega
      ·rw[List.pairwise_map]
       exact up.imp fun h=>by omega
      ·intro y hy
       obtain⟨z,hz,rfl⟩:=List.mem_map.mp hy
       have h1:=lo z hz
       have h2:=hi' x (by simp)
       omega
      ·intro y hy
       obtain⟨z,hz,rfl⟩:=List.mem_map.mp hy
       rcases List.mem_append.mp hz with h | h
       ·have:=(List.pairwise_append.mp up).2.2 z h x (by simp)
        omega
       ·rw[List.mem_singleton.mp h];omega
    ·refine⟨p,_,rfl,hp0,hp4,⟨?_,?_,up,lo,fun y hy=>?_⟩,by rw[hl];omega,s4,X4⟩
     ·rw[hl];omega
     ·rw[hl];omega
     ·have:=hi' y hy
      omega
   ·rintro σ' H4 ⟨h,hs',rfl,hh0,hh,wh,hmo,s4,x4⟩
    exact⟨_,rfl,k h hs' H4 hh0 hh wh hmo s4 x4⟩
def tri:Nat→Nat
 |0=>0
 |n+1=>tri n+n
theorem XT:∀ n,n≤12→tri n≤66:=by decide
theorem V2 {n j:Nat}(h:j<n):tri j+j≤tri n:=by
 induction n with
 |zero=>omega
 |succ n ih =>
  show tri j+j≤tri n+n
  by_cases c:j=n
  ·subst c;exact Nat.le_refl _
  ·have:=ih (by omega)
   omega
theorem zdq {b1 b2 b3 b4 b5 b6:Bool}{d:Int}(h0:0≤d) (h1:d<6):∃ z,atI [V.bl b1,V.bl b2,V.bl b3,V.bl b4,V.bl b5,V.bl b6] d=some (.bl z):=by
 rcases(by omega:d=0∨d=1∨d=2∨d=3∨d=4∨d=5) with rfl | rfl | rfl | rfl | rfl | rfl
 all_goals exact⟨_,rfl⟩
theorem LnAt.cut {H:Hp}{rs:List V}{ls:LP}{n:Nat}(h:LnAt H rs ls):LnAt H (rs.drop n++rs.take n) (ls.drop n++ls.take n):=by
 refine⟨by simp[h.1],fun i r p e1 e2=>?_⟩
 by_cases c:i<(ls.drop n).length
 ·rw[List.getElem?_append_left (by simp[h.1];simpa using c)] at e1
  rw[List.getElem?_append_left c] at e2
  rw[List.getElem?_drop] at e1 e2
  exact h.2 _ r p e1 e2
 ·rw[List.getElem?_append_right (by simp[h.1];simpa using c)] at e1
  rw[List.getElem?_append_right (by omega)] at e2
  have e:(rs.drop n).length=(ls.drop n).length:=by simp[h.1]
  rw[e,List.getElem?_take] at e1
  rw[List.getElem?_take] at e2
  split at e1
  ·rw[if_pos ‹_›] at e2
   exact h.2 _ r p e1 e2
  ·cases e1
theorem Vu {rs:List V}{n:Nat}(h:n≤rs.length):xF rs (some (n:Int)) none=rs.drop n:=by
 have h1:HT.sIx rs.length 0 (some (n:Int))=n:=by
  unfold HT.sIx
  show(if (n:Int)<0 then _ else _)=n
  rw[if_neg (by omega)]
  simp
  omega
 have h2:HT.sIx rs.length rs.length none=rs.length:=rfl
 unfold xF
 rw[h1,h2]
 exact List.take_of_length_le (by rw[List.length_drop];omega)
theorem Vt {rs:List V}{n:Nat}(h:n≤rs.length):xF rs none (some (n:Int))=rs.take n:=by
 have h1:HT.sIx rs.length rs.length (some (n:Int))=n:=by
  unfold HT.sIx
  show(if (n:Int)<0 then _ else _)=n
  rw[if_neg (by omega)]
  simp
  omega
 have h2:HT.sIx rs.length 0 none=0:=rfl
 unfold xF
 rw[h1,h2]
 simp
theorem za3 {hs:LI}(nd:hs.Nodup){i j:Nat}{x:Int}(h1:hs[i]?=some x) (h2:hs[j]?=some x):i=j:=by
 obtain⟨a1,b1⟩:=List.getElem?_eq_some_iff.mp h1
 obtain⟨a2,b2⟩:=List.getElem?_eq_some_iff.mp h2
 exact(List.getElem?_inj a1 nd).mp (h1.trans h2.symm)
structure Lfd (hs:LI) (ls:LP) (j k:Nat):Prop where
 nd:ls.Nodup
 at_:∀ p∈ls,∃ k' j',hs[k']?=some p.1∧hs[j']?=some p.2∧k'<j'∧(j'<j∨(j'=j∧k'<k))
 le:ls.length≤tri j+k
theorem Lfd.skip {hs:LI}{ls:LP}{j k:Nat}(h:Lfd hs ls j k):Lfd hs ls j (k+1) :=
 ⟨h.nd,fun p hp=>by
  obtain⟨k',j',h1,h2,h3,h4⟩:=h.at_ p hp
  exact⟨k',j',h1,h2,h3,by omega⟩,by have:=h.le;omega⟩
theorem Lfd.row {hs:LI}{ls:LP}{j:Nat}(h:Lfd hs ls j j):Lfd hs ls (j+1) 0 :=
 ⟨h.nd,fun p hp=>by
  obtain⟨k',j',h1,h2,h3,h4⟩:=h.at_ p hp
  exact⟨k',j',h1,h2,h3,by omega⟩,h.le⟩
theorem Lfd.add {hs:LI}{ls:LP}{j k:Nat}{x y:Int}(W:Hs hs) (h:Lfd hs ls j k) (kj:k<j) (hx:hs[k]?=some x) (hy:hs[j]?=some y):Lfd hs (ls++[(x,y)]) j (k+1):=by
 have nd:=vd W
 refine⟨?_,fun p hp=>?_,?_⟩
 ·rw[List.nodup_append]
  refine⟨h.nd,by simp,fun a ha b hb z=>?_⟩
  rw[List.mem_singleton.mp hb] at z
  obtain⟨k',j',h1,h2,h3,h4⟩:=h.at_ a ha
  rw[z] at h1 h2
  have:=za3 nd h1 hx
  have:=za3 nd h2 hy
  omega
 ·rcases List.mem_append.mp hp with h' | h'
  ·obtain⟨k',j',h1,h2,h3,h4⟩:=h.at_ p h'
   exact⟨k',j',h1,h2,h3,by omega⟩
  ·rw[List.mem_singleton.mp h']
   exact⟨k,j,hx,hy,kj,.inr ⟨rfl,by omega⟩⟩
 ·rw[List.length_append]
  have:=h.le
  simp
  omega
theorem Lfd.ls {hs:LI}{ls:LP}{n:Nat}(W:Hs hs) (h:Lfd hs ls hs.length 0):Ls hs (ls.drop n++ls.take n):=by
 have pm:(ls.drop n++ls.take n).Perm ls:=List.perm_append_comm.trans (by rw[List.take_append_drop])
 refine⟨pm.nodup_iff.mpr h.nd,fun p hp=>?_,?_⟩
 ·obtain⟨k',j',h1,h2,h3,_⟩:=h.at_ p (pm.mem_iff.mp hp)
  obtain⟨a1,b1⟩:=List.getElem?_eq_some_iff.mp h1
  obtain⟨a2,b2⟩:=List.getElem?_eq_some_iff.mp h2
  refine⟨b1 ▸ List.getElem_mem a1,b2 ▸ List.getElem_mem a2,?_⟩
  rw[← b1,← b2]
  exact List.pairwise_iff_getElem.mp W.up _ _ a1 a2 h3
 ·rw[pm.length_eq]
  have:=h.le
  have:=XT hs.length W.l12
  omega
def zj8:Sp:=fun vs H Q _=>∃ (l h:Addr) (hs:LI),vs=[.ref l,.ref h]∧XsAt H l∧H h=some (.lst (hs.map V.int))∧h≠l∧Hs hs ∧
 ∀ (q:Addr) (rs:List V) (ls:LP) (H':Hp),H q=none→H' q=some (.lst rs)→LnAt H' rs ls→Ls hs ls→ls.length≤tri hs.length→XsAt H' l→Ext l H H'→Q (.ref q) H'
theorem Xy {tA tB:TE}{σ:St}{H:Hp}{Q:VK}(k:(∀ b:Bool,Q (.bl b) H)→zcn tA tB σ H Q) (J:∀ b:Bool,Q (.bl b) H):zcn tA tB σ H Q:=k J
theorem zdJ (T:Txt w K mg a):FnOk P w K mg base CX0 2 a.f_qB a.d_qB ["_law_xs", "_law_hands_here"] zj8:=by
 have c_qz:Callee P w K mg base "_law_take" a.f_qz a.d_qz ["_law_xs", "_law_size"] 1 wL:=⟨wq T,T.g_qz,T.F_qz.kp,T.b_qz⟩
 refine T.F_qB.ok sc_qB (fun vs H Q E h=>?_) (fun cdv A outer s H vs Q E hr h=>?_)
 ·obtain⟨l,h,hs,rfl,_⟩:=h
  rfl
 ·obtain⟨l,h,hs,rfl,sl,hh,nhl,wh,k⟩:=h
  have l12:=wh.l12
  refine zM (w_pss_cons (w_ps_set (i:=2) sc_qB.nd rfl (Or.inl rfl) (zm c_qz hr.m (zd (zf 0) (zX ze za))))
   (w_pss_cons (w_ps_set (i:=3) sc_qB.nd rfl (Or.inl rfl) (zA za))
   (w_pss_cons (zE PassesOwn.never rfl (yB rfl T.n_range (zI (zi zD (by rfl) T.n_len yu (zd (zf 1) za)) za)) (zh (i:=4) sc_qB.nd rfl (Or.inl rfl))
    (zb (zE PassesOwn.never rfl (yB rfl T.n_range (zd (zf 4) za)) (zh (i:=5) sc_qB.nd rfl (Or.inl rfl))
     (w_pss_cons (w_ps_set (i:=6) sc_qB.nd rfl (Or.inl rfl) (vU (zW xo (zq wN (zf 4) (zf 5)) ze (zC _)) (yp (zW xo (zq wN (zf 4) (zf 5)) (zq wN (zi zD (by rfl) T.n_len yu (zd (zf 1) za)) ze) (zC _)))))
     (w_pss_cons (w_ps_set (i:=7) sc_qB.nd rfl (Or.inl rfl) (zm c_qz hr.m (zd (zf 0) (zX ze za))))
     (zb (zu (zy (zr zN (zA (zd (zf 6) (zn (zW vC (zf 7) ze (zC _)) (zn (zW vC (zf 7) ze (zC _)) (zn (zW vC (zf 7) ze (zC _)) (zX zF (zn (vU (zW xo (zf 5) (zq xN (zf 7) (zf 4)) (zC _)) (yp (zW xo (zf 7) ze (zC _)))) za))))))) (zf 2) (fun _ _=>rfl)))
      (zb (zH (ya PySem.F.plainAttrs_list PySem.F.slot_list_append PySem.F.type_list_append zL (zf 3) (xM (zP (zn (zr zN (zf 1) (zf 5) (fun _ _=>rfl)) (zn (zr zN (zf 1) (zf 4) (fun _ _=>rfl)) za))) za))))
      zk)))))))
   (w_pss_cons (w_ps_set (i:=8) sc_qB.nd rfl (Or.inl rfl) (zm c_qz hr.m (zd (zf 0) (xy (zq xl (zi zD (by rfl) T.n_len yu (zd (zf 3) za)) ze) za))))
   (zb (zg (zq xk (zV yC (zf 3) (w_po_some (zf 8)) yf) (zV yC (zf 3) yf (w_po_some (zf 8)))))))))) ?_
  refine⟨_,rfl,l,6,rfl,sl,by decide,fun way H1 g1 g2 s1 x1=>?_⟩
  refine⟨(by show 0≤sizeLine;decide),fun p hp=>?_⟩
  have npl:=s1.ne hp
  have hh1:=x1 _ _ hh nhl
  have nhp:h≠p:=fun z=>by rw[z,hp] at hh1;cases hh1
  refine⟨_,rfl,h,_,rfl,.inl (SqL.of ((Same.new hp) _ _ hh1)),_,rfl,?_⟩
  rw[List.length_map]
  refine⟨by omega,by omega,?_⟩
  rw[show((hs.length:Int)).toNat=hs.length by omega]
  have St:∀ {rs:List V}{ls:LP}{H':Hp},LnAt H' rs ls→True:=fun _=>trivial
  refine for_range (lo:=0) (fun j σ H'=>∃ (o4 o5 o6 o7:Option V) (rs:List V) (ls:LP),σ=[some (.ref l),some (.ref h),some (.int way),some (.ref p),o4,o5,o6,o7,none]∧H' p=some (.lst rs)∧LnAt H' rs ls∧Lfd hs ls j 0∧XsAt H' l∧Ext l H1 H') ?_ ?_ ?_
  ·exact⟨none,none,none,none,[],[],rfl,upd_same,⟨rfl,fun i r q e=>by cases e⟩,⟨List.nodup_nil,(fun q hq=>nomatch hq),Nat.zero_le _⟩,s1.new hp,Ext.new hp⟩
  ·rintro j σ H2 hj ⟨o4,o5,o6,o7,rs,ls,rfl,hp2,L,F,s2,x2⟩
   refine⟨_,rfl,0+(j:Int),rfl,by omega,by omega,?_⟩
   rw[show(0+(j:Int)).toNat=j by omega]
   refine for_range (lo:=0) (fun i σ H'=>∃ (o5 o6 o7:Option V) (rs:List V) (ls:LP),σ=[some (.ref l),some (.ref h),some (.int way),some (.ref p),some (.int (0+(j:Int))),o5,o6,o7,none]∧H' p=some (.lst rs)∧LnAt H' rs ls∧Lfd hs ls j i∧XsAt H' l∧Ext l H1 H') ?_ ?_ ?_
   ·exact⟨o5,o6,o7,rs,ls,rfl,hp2,L,F,s2,x2⟩
   ·rintro i σ H3 hi ⟨o5,o6,o7,rs,ls,rfl,hp3,L,F,s3,x3⟩
    have hj2:hs[j]?=some hs[j]:=by simp[hj]
    have hi2:hs[i]?=some (hs[i]'(by omega)):=by simp
    have hh3:=x3 _ _ hh1 nhl
    refine Xy (fun hJ=>⟨_,rfl,_,rfl,_,_,rfl,rfl,rfl,_,rfl,ite2 (fun _=>hJ _) (fun _=>⟨_,rfl,_,rfl,_,_,rfl,rfl,_,rfl,h,_,rfl,.inl (SqL.of hh3),_,_,rfl,rfl,rfl,hJ _⟩)⟩) (fun bb=>?_)
    refine⟨_,rfl,l,6,rfl,s3,by decide,fun dr H4 a1 a2 s4 x4=>?_⟩
    refine⟨_,rfl,_,rfl,_,_,rfl,rfl,_,rfl,_,_,rfl,rfl,_,rfl,_,_,rfl,rfl,?_⟩
    refine Xy (fun hJ=>⟨_,rfl,_,rfl,_,rfl,_,_,rfl,rfl,(by show(0:Int)<0+(j:Int);omega),rfl,_,rfl,ite2 (fun _=>hJ _) (fun _=>⟨_,rfl,rfl,hJ _⟩)⟩) (fun bb2=>?_)
    have hp4:=x4 _ _ hp3 npl
    have hh4:=x4 _ _ hh3 nhl
    have L4:LnAt H4 rs ls:=⟨L.1,fun n r pr e1 e2=>by
     obtain⟨q,e,t⟩:=L.2 n r pr e1 e2
     exact⟨q,e,x4 _ _ t fun z=>by
      obtain⟨ns,e3,_⟩:=s3
      rw[z,e3] at t
      cases t⟩⟩
    have X4:=x3.trans x4
    refine⟨by show 6≤sizeLine;decide,fun q6 hq6=>?_⟩
    have y5:∀ o,Same H4 (L2.upd H4 q6 o):=fun o=>Same.new hq6
    have u5:∀ o,L2.upd H4 q6 o q6=some o:=fun o=>upd_same
    generalize L2.upd H4 q6=f at *
    obtain⟨z,hz⟩:=zdq (b1:=_) (b2:=_) (b3:=_) (b4:=_) (b5:=_) (b6:=_) g1 g2
    refine⟨_,rfl,q6,_,_,_,rfl,rfl,SqL.of (u5 _),hz,_,rfl,?_⟩
    have hp5:=fun o=>y5 o _ _ hp4
    have hh5:=fun o=>y5 o _ _ hh4
    have L5:=fun o=>L4.same (y5 o)
    have s5:=fun o=>s4.same (y5 o)
    have X5:=fun o=>X4.trans (Ext.same (y5 o))
    refine ite2 (fun _=>?_) (fun _=>?_)
    ·refine⟨_,rfl,.inl ⟨rfl,_,SqL.of (hp5 _)⟩,_,rfl,_,rfl,h,_,_,V.int (hs[i]'(by omega)),rfl,rfl,SqL.of (hh5 _),(by rw[Int.zero_add];exact zY (by simp)),_,rfl,_,rfl,h,_,_,V.int hs[j],rfl,rfl,SqL.of (hh5 _),(by rw[Int.zero_add];exact zY (by simp[hj])),(by show 2≤sizeLine;decide),fun qt hqt=>?_⟩
     have y6:=Same.new (o:=HO.tup [V.int (hs[i]'(by omega)),V.int hs[j]]) hqt
     have l66:=F.le
     refine⟨p,_,_,rfl,rfl,y6 _ _ (hp5 _),(by rw[L.1];have:=XT hs.length l12;have:=V2 hj;exact zj (by omega)),?_⟩
     refine⟨_,_,_,_,ls++[(hs[i]'(by omega),hs[j])],rfl,upd_same,LnAt.updL (y6 _ _ (hp5 _)) (LnAt.snoc (p:=(hs[i]'(by omega),hs[j])) ((L5 _).same y6) (q:=qt) upd_same),F.add wh hi hi2 hj2,((s5 _).same y6).upd npl.symm.symm,?_⟩
     intro b o e nb
     rw[upd_ne (ne_of_none e hp)]
     exact((X5 _).trans (Ext.same y6)) b o e nb
    ·exact⟨_,_,_,rs,ls,rfl,hp5 _,L5 _,F.skip,s5 _,X5 _⟩
   ·rintro σ H3 ⟨o5,o6,o7,rs,ls,rfl,hp3,L,F,s3,x3⟩
    exact⟨_,_,_,_,rs,ls,rfl,hp3,L,F.row,s3,x3⟩
  ·rintro σ H2 ⟨o4,o5,o6,o7,rs,ls,rfl,hp2,L,F,s2,x2⟩
   refine⟨_,rfl,_,rfl,p,_,rfl,.inl (SqL.of hp2),_,_,rfl,rfl,l,_,rfl,s2,by omega,fun d H3 a1 a2 s3 x3=>?_⟩
   obtain⟨n,rfl⟩:∃ n:Nat,d=n:=⟨d.toNat,by omega⟩
   have hp3:=x3 _ _ hp2 npl
   have L3:LnAt H3 rs ls:=⟨L.1,fun n r pr e1 e2=>by
      obtain⟨q,e,t⟩:=L.2 n r pr e1 e2
      exact⟨q,e,x3 _ _ t fun z=>by
       obtain⟨ns,e3,_⟩:=s2
       rw[z,e3] at t
       cases t⟩⟩
   refine⟨_,rfl,_,rfl,_,rfl,p,_,rfl,SqL.of hp3,fun q1 hq1=>?_⟩
   have y4:=Same.new (o:=HO.lst (xF rs (some (n:Int)) none)) hq1
   refine⟨_,rfl,_,rfl,_,rfl,p,_,rfl,SqL.of (y4 _ _ hp3),fun q2 hq2=>?_⟩
   have y5:=Same.new (o:=HO.lst (xF rs none (some (n:Int)))) hq2
   have hnl:n≤rs.length:=by omega
   have l66:=F.le
   have:=XT hs.length l12
   have l1:=yn rs (some (n:Int)) none
   have l2:=yn rs none (some (n:Int))
   have lL:=L.1
   refine⟨q1,q2,_,_,rfl,rfl,y5 _ _ upd_same,upd_same,(Nat.le_of_lt (zj (by omega))),fun q hq=>?_⟩
   have y6:=Same.new (o:=HO.lst (xF rs (some (n:Int)) none++xF rs none (some (n:Int)))) hq
   have y456:=(y4.trans y5).trans y6
   refine k q (rs.drop n++rs.take n) (ls.drop n++ls.take n) _ ((((x1.trans x2).trans x3).trans (Ext.same (y4.trans y5))).free ((s3.same (y4.trans y5)).ne hq) hq) (by rw[upd_same,Vu hnl,Vt hnl]) (L3.same y456).cut (F.ls wh) (by have:=F.le;rw[List.length_append,List.length_drop,List.length_take];omega) (s3.same y456) ?_
   exact(x1.trans x2).trans (x3.trans (Ext.same y456))
theorem Zk {x:Int}{v y:V}{H H':Hp}(h:yI (Sum.inl x,v) y H H'):∃ p,H p=none∧y=.ref p∧H'=upd H p (.tup [.int x,v]):=h
def Fl (v:V):Prop:=(∃ i,v=.int i)∨v=.non
def CpV (H:Hp) (n:Nat) (v:V) (Q:V→Hp→Prop):Prop :=
 (1≤n∧Fl v∧Q v H) ∨
 (2≤n∧∃ (t:Addr) (i j:Int),v=.ref t∧H t=some (.tup [.int i,.int j])∧∀ (t':Addr) (H':Hp),H t'=none→H' t'=some (.tup [.int i,.int j])→Same H H'→Q (.ref t') H') ∨
 (2≤n∧∃ (d:Addr) (f:Int→V) (us:LI),v=.ref d∧H d=some (.dK (tabV f us))∧us.Nodup∧us.length≤12∧(∀ x∈us,Fl (f x))∧∀ (d':Addr) (H':Hp),H d'=none→H' d'=some (.dK (tabV f us))→Same H H'→Q (.ref d') H') ∨
 (3≤n∧∃ (l:Addr) (rs:List V) (ls:LP),v=.ref l∧H l=some (.lst rs)∧LnAt H rs ls∧ls.length≤200∧∀ (l':Addr) (rs':List V) (H':Hp),H l'=none→H' l'=some (.lst rs')→LnAt H' rs' ls→Same H H'→Q (.ref l') H')
def Vy (n:Nat):Sp:=fun vs H Q _=>∃ v,vs=[v]∧CpV H n v Q
theorem yW (T:Txt w K mg a):∀ n,FnOk P w K mg base CX0 (n+2) a.f_qb a.d_qb ["value"] (Vy n)
 |0=>⟨fun vs H Q E h=>by
   obtain⟨v,rfl,_⟩:=h
   rfl,fun A outer s H args us vs Q E _ _ _ _ h=>by
   obtain⟨v,_,h⟩:=h
   rcases h with⟨h,_⟩ | ⟨h,_⟩ | ⟨h,_⟩ | ⟨h,_⟩<;>omega⟩
 |n+1=>by
  have c_qb:Callee P w K mg base "copied" a.f_qb a.d_qb ["value"] (n+2) (Vy n):=⟨yW T n,T.g_qb,T.F_qb.kp,T.b_qb⟩
  refine T.F_qb.ok zc7 (fun vs H Q E h=>?_) (fun cdv A outer s H vs Q E hr h=>?_)
  ·obtain⟨v,rfl,_⟩:=h
   rfl
  ·obtain⟨v,rfl,h⟩:=h
   refine zM (w_pss_cons (zu (zy (zi zS (by rfl) T.n_isinstance zo (zd (zf 0) (zd (zR T.n_list bt_list) za))))
    (zb (zg (yt rfl (N':=["each"]) (t:=1) (caps:=[]) ⟨rfl,rfl,rfl⟩ (zw (zf 0)) (fun _=>(zh (i:=0) (show(["each"]:List Str).Nodup by decide +kernel) rfl (Or.inl rfl))) (fun _=>yG) (fun _=>(zm c_qb hr.m (zd (zf 0) za))))))
    zk)
   (w_pss_cons (zu (zy (zi zS (by rfl) T.n_isinstance zo (zd (zf 0) (zd (zR T.n_tuple xh) za))))
    (zb (zg (zT yR (by rfl) T.n_tuple xh (zn (yt rfl (N':=["each"]) (t:=1) (caps:=[]) ⟨rfl,rfl,rfl⟩ (Yv (zf 0)) (fun _=>(zh (i:=0) (show(["each"]:List Str).Nodup by decide +kernel) rfl (Or.inl rfl))) (fun _=>yG) (fun _=>(zm c_qb hr.m (zd (zf 0) za)))) za))))
    zk)
   (w_pss_cons (zu (zy (zi zS (by rfl) T.n_isinstance zo (zd (zf 0) (zd (zR T.n_dict wB) za))))
    (zb (zg (zT (wS rfl) (by rfl) T.n_dict wB (zn (Zp (yt rfl (N':=["key", "each"]) (t:=2) (caps:=[]) ⟨rfl,rfl,rfl⟩ (xn (zf 0)) (fun _=>(zZ rfl (zp (zh (i:=0) (show(["key", "each"]:List Str).Nodup by decide +kernel) rfl (Or.inl rfl)) (zp (zh (i:=1) (show(["key", "each"]:List Str).Nodup by decide +kernel) rfl (Or.inl rfl)) zQ)))) (fun _=>yG) (fun _=>(zP (zd (zf 0) (zI (zm c_qb hr.m (zd (zf 1) za)) za)))))) za))))
    zk)
   (zb (zg (zf 0)))))) ?_
   rcases h with⟨_,hv,k⟩ | ⟨h2,t,i,j,rfl,ht,k⟩ | ⟨h2,d,f,us,rfl,hd,nd,l12,hf,k⟩ | ⟨h3,l,rs,ls,rfl,hl,L,l66,k⟩
   ·rcases hv with⟨i,rfl⟩ | rfl
    ·refine⟨_,rfl,_,_,_,_,_,rfl,rfl,.int i,T.k_tint_tlist,_,rfl,iteN rfl ?_⟩
     refine⟨_,rfl,_,_,_,_,_,rfl,rfl,.int i,T.k_tint_ttuple,_,rfl,iteN rfl ?_⟩
     refine⟨_,rfl,_,_,_,_,_,rfl,rfl,.int i,T.k_tint_tdict,_,rfl,iteN rfl ?_⟩
     exact⟨_,rfl,k⟩
    ·refine⟨_,rfl,_,_,_,_,_,rfl,rfl,.non,T.k_tNoneType_tlist,_,rfl,iteN rfl ?_⟩
     refine⟨_,rfl,_,_,_,_,_,rfl,rfl,.non,T.k_tNoneType_ttuple,_,rfl,iteN rfl ?_⟩
     refine⟨_,rfl,_,_,_,_,_,rfl,rfl,.non,T.k_tNoneType_tdict,_,rfl,iteN rfl ?_⟩
     exact⟨_,rfl,k⟩
   ·refine⟨_,rfl,_,_,_,_,_,rfl,rfl,.tup ht,T.k_ttuple_tlist,_,rfl,iteN rfl ?_⟩
    refine⟨_,rfl,_,_,_,_,_,rfl,rfl,.tup ht,T.k_ttuple_ttuple,_,rfl,xH ?_⟩
    refine⟨_,rfl,t,rfl,⟨_,SqT.of ht⟩,fun D hD _=>?_⟩
    refine Xm (K:=K) (a:=t) (xs:=[V.int i,V.int j]) (fun m zs τ H'=>∃ (o:Option V),τ=[o]∧zs=[V.int i,V.int j].take m∧H'=upd H D (.lst zs)) ?_ ?_ ?_ ?_
    ·exact⟨none,rfl,rfl,rfl⟩
    ·rintro m zs τ H' ⟨o,_,_,rfl⟩
     exact SqT.of (by rw[upd_ne (ne_of_none ht hD)];exact ht)
    ·rintro m v zs τ H' hi ⟨o,rfl,rfl,rfl⟩
     have hv:∃ y,v=V.int y:=by
      match m,hi with
      |0,hi=>exact⟨i,by cases hi;rfl⟩
      |1,hi=>exact⟨j,by cases hi;rfl⟩
      |m+2,hi=>simp at hi
     obtain⟨y,rfl⟩:=hv
     have hml:m<2:=(List.getElem?_eq_some_iff.mp hi).1
     refine Yc ?_
     refine⟨_,rfl,_,rfl,.inl ⟨by omega,.inl ⟨y,rfl⟩,?_⟩⟩
     refine⟨upd_same,by rw[List.length_take];exact zj (by omega),some (.int y),rfl,?_,?_⟩
     ·rw[List.take_add_one,hi];rfl
     ·rw[xJ]
    ·rintro zs τ H' ⟨o,rfl,rfl,rfl⟩
     refine⟨D,_,rfl,.inl ⟨SqL.of upd_same,fun t' ht'=>?_⟩⟩
     exact k t' _ ((Same.new hD).free ht') upd_same ((Same.new hD).trans (Same.new ht'))
   ·refine⟨_,rfl,_,_,_,_,_,rfl,rfl,.dK hd,T.k_tdict_tlist,_,rfl,iteN rfl ?_⟩
    refine⟨_,rfl,_,_,_,_,_,rfl,rfl,.dK hd,T.k_tdict_ttuple,_,rfl,iteN rfl ?_⟩
    refine⟨_,rfl,_,_,_,_,_,rfl,rfl,.dK hd,T.k_tdict_tdict,_,rfl,xH ?_⟩
    refine⟨_,rfl,d,_,rfl,hd,fun od S D hD _=>?_⟩
    have hDd:D≠d:=fun z=>by rw[z,upd_same] at hD;cases hD
    generalize hG1:upd H d (HO.frz od (HO.dK (tabV f us)))=G1 at *
    have hq1:G1 d=some (.frz od (.dK (tabV f us))):=by rw[← hG1];exact upd_same
    have x1:Ext d H G1:=by rw[← hG1];exact Ext.at
    refine Yk (yl:=yI) (d:=d) (od:=od) (kvs:=tabV f us) (fun i zs τ G'=>∃ (o1 o2:Option V) (qs:List Addr),τ=[o1,o2]∧zs=qs.map V.ref∧qs.length=i∧(∀ (j:Nat) (p:Addr) (x:Int),qs[j]?=some p→us[j]?=some x→G' p=some (.tup [.int x,f x]))∧G' D=some (.lst zs)∧Same G1 G') ?_ ?_ ?_ ?_
    ·exact⟨none,none,[],rfl,rfl,rfl,fun j q x h=>by simp at h,upd_same,Same.new hD⟩
    ·rintro i zs τ G' ⟨o1,o2,qs,_,_,_,_,_,sm⟩
     exact sm _ _ hq1
    ·rintro i kv v zs τ G' G'' hkv ⟨o1,o2,qs,rfl,rfl,lq,hqs,hD',sm⟩ hy
     obtain⟨x,hx,rfl⟩:∃ x,us[i]?=some x∧kv=(Sum.inl x,f x):=by
      unfold tabV at hkv
      rw[List.getElem?_map] at hkv
      obtain⟨x,h1,h2⟩:=Option.map_eq_some_iff.mp hkv
      exact⟨x,h1,h2.symm⟩
     obtain⟨p0,hp0,rfl,rfl⟩:=Zk hy
     have hil:i<us.length:=(List.getElem?_eq_some_iff.mp hx).1
     have n1:=Same.new (o:=HO.tup [V.int x,f x]) hp0
     refine⟨p0,_,rfl,SqT.of upd_same,rfl,_,_,rfl,_,_,rfl,rfl,VS ?_⟩
     refine⟨_,rfl,_,rfl,_,rfl,.inl ⟨by omega,hf x (List.mem_of_getElem? hx),(by show 2≤sizeLine;decide),fun pt hpt=>?_⟩⟩
     have n2:=Same.new (o:=HO.tup [V.int x,f x]) hpt
     have n12:=n1.trans n2
     have npt:pt≠D:=fun z=>by rw[z] at hpt;have:=n1 _ _ hD';rw[hpt] at this;cases this
     have hDF:=n12 _ _ hD'
     refine⟨hDF,by rw[List.length_map,lq];exact zj (by omega),some (.int x),some (f x),qs++[pt],rfl,by simp,by simp[lq],fun j p y hj hy'=>?_,upd_same,?_⟩
     ·by_cases hji:j<i
      ·rw[List.getElem?_append_left (by omega)] at hj
       have h1:=n12 _ _ (hqs j p y hj hy')
       rw[upd_ne (fun z=>by rw[z,hDF] at h1;cases h1)]
       exact h1
      ·rw[List.getElem?_append_right (by omega)] at hj
       have:j=i:=by
        have:=(List.getElem?_eq_some_iff.mp hj).1
        simp at this
        omega
       subst this
       rw[lq,Nat.sub_self] at hj
       cases hj
       rw[hx] at hy'
       cases hy'
       rw[upd_ne npt]
       exact upd_same
     ·exact Same.updF (sm.trans n12) hD
    ·rintro zs τ G2 ⟨o1,o2,qs,rfl,rfl,lq,hqs,hD2,sm⟩
     refine .inr ⟨d,od,tabV f us,S,sm _ _ hq1,?_⟩
     rw[tabV_len] at lq
     have sG3:Same H (upd G2 d (HO.dK (tabV f us))):=fun b o e=>by
      by_cases z:b=d
      ·rw[z,hd] at e;cases e;rw[z];exact upd_same
      ·rw[upd_ne z];exact sm _ _ (x1 _ _ e z)
     have hD3:(upd G2 d (HO.dK (tabV f us))) D=some (.lst (qs.map V.ref)):=by rw[upd_ne hDd];exact hD2
     have hq3:∀ (j:Nat) (p:Addr) (x:Int),qs[j]?=some p→us[j]?=some x→(upd G2 d (HO.dK (tabV f us))) p=some (.tup [.int x,f x]):=fun j p x h1 h2=>by
      have h3:=hqs j p x h1 h2
      rw[upd_ne (fun z=>by rw[z,sm _ _ hq1] at h3;cases h3)]
      exact h3
     generalize upd G2 d (HO.dK (tabV f us))=G3 at *
     refine⟨D,qs,tabV f us,rfl,hD3,by rw[tabV_len];exact lq,by rw[tabV_len];omega,fun i q kv h1 h2=>?_,fun d' hd'=>?_⟩
     ·unfold tabV at h2
      rw[List.getElem?_map] at h2
      obtain⟨x,h3,h4⟩:=Option.map_eq_some_iff.mp h2
      subst h4
      exact hq3 i q x h1 h3
     rw[w8 (by rw[tabV_keys];exact Z7 nd)]
     exact k d' _ (sG3.free hd') upd_same (sG3.trans (Same.new hd'))
   ·refine⟨_,rfl,_,_,_,_,_,rfl,rfl,.lst hl,T.k_tlist_tlist,_,rfl,xH ?_⟩
    refine⟨_,rfl,l,rfl,⟨_,SqL.of hl⟩,fun D hD _=>?_⟩
    have lr:=L.1
    refine yh (K:=K) (a:=l) (xs:=rs) (fun m zs τ H'=>∃ (o:Option V),τ=[o]∧zs.length=m∧LnAt H' zs (ls.take m)∧H' D=some (.lst zs)∧Same H H') ?_ ?_ ?_ ?_
    ·exact⟨none,rfl,rfl,⟨rfl,fun i r p h=>by simp at h⟩,upd_same,Same.new hD⟩
    ·rintro m zs τ H' ⟨o,_,_,_,_,sm⟩
     exact SqL.of (sm _ _ hl)
    ·rintro m v zs τ H' hi ⟨o,rfl,lz,Lz,hD',sm⟩
     obtain⟨p,q,hp,rfl,hq⟩:=L.get hi
     have hml:m<rs.length:=(List.getElem?_eq_some_iff.mp hi).1
     refine Yc ?_
     refine⟨_,rfl,_,rfl,.inr (.inl ⟨by omega,q,p.1,p.2,rfl,sm _ _ hq,fun t' H2 ht' h2 s2=>?_⟩)⟩
     have hD2:=s2 _ _ hD'
     refine⟨hD2,by rw[lz];exact zj (by omega),some (.ref q),rfl,by simp[lz],?_,upd_same,Same.updF (sm.trans s2) hD⟩
     rw[List.take_add_one,hp]
     exact LnAt.updL hD2 ((Lz.same s2).snoc h2)
    ·rintro zs τ H' ⟨o,rfl,lz,Lz,hD',sm⟩
     rw[List.take_of_length_le (by omega)] at Lz
     exact k D zs H' hD hD' Lz sm
inductive En (pf:Int→Option Int):Int→LI→Prop
 |z {x:Int}(h:pf x=none):En pf x [x]
 |s {x y:Int}{l:LI}(h:pf x=some y) (t:En pf y l):En pf x (x::l)
variable {pf:Int→Option Int}
theorem En.fn {x:Int}{l:LI}(h:En pf x l):∀ {l':LI},En pf x l'→l=l':=by
 induction h with
 |z h =>
  intro l' h'
  cases h' with
  |z _=>rfl
  |s h2 _=>rw[h] at h2;cases h2
 |s h t ih =>
  intro l' h'
  cases h' with
  |z h2=>rw[h] at h2;cases h2
  |s h2 t2 =>
   rw[h] at h2
   cases h2
   rw[ih t2]
theorem En.hd {x:Int}{l:LI}(h:En pf x l):∃ t,l=x::t:=by
 cases h with
 |z _=>exact⟨_,rfl⟩
 |s _ _=>exact⟨_,rfl⟩
theorem En.suf:∀ {ys:LI}{x v:Int}{zs:LI},En pf x (ys++v::zs)→En pf v (v::zs)
 |[],x,v,zs,h=>by
  obtain⟨t,e⟩:=h.hd
  injection e with e1 e2
  have h':En pf x (v::zs):=h
  rw[← e1] at h'
  exact h'
 |y::ys,x,v,zs,h=>by
  have h':En pf x (y::(ys++v::zs)):=h
  generalize hl:y::(ys++v::zs)=l at h'
  cases h' with
  |z _ =>
   injection hl with _ hl
   simp at hl
  |s h2 t =>
   injection hl with _ hl
   rw[← hl] at t
   exact En.suf t
theorem En.nd {x:Int}{l:LI}(h:En pf x l):l.Nodup:=by
 induction h with
 |z _=>simp
 | @s x y l h t ih =>
  rw[List.nodup_cons]
  refine⟨fun hx=>?_,ih⟩
  obtain⟨ys,zs,e⟩:=List.append_of_mem hx
  rw[e] at t
  have h1:=t.suf
  have h2:=h1.fn (.s h t)
  have:=congrArg List.length h2
  simp at this
  omega
theorem En.lst {x:Int}{l:LI}(h:En pf x l):∃ ys z,l=ys++[z]∧pf z=none:=by
 induction h with
 | @z x h=>exact⟨[],x,rfl,h⟩
 | @s x y l h t ih =>
  obtain⟨ys,z,e,h2⟩:=ih
  exact⟨x::ys,z,by rw[e];rfl,h2⟩
theorem En.mem {us:LI}(C:∀ x∈us,∀ y,pf x=some y→y∈us){x:Int}{l:LI}(h:En pf x l):x∈us→∀ y∈l,y∈us:=by
 induction h with
 |z _ =>
  intro hx y hy
  rw[List.mem_singleton.mp hy]
  exact hx
 | @s x y l h t ih =>
  intro hx u hu
  rcases List.mem_cons.mp hu with e | e
  ·rw[e];exact hx
  ·exact ih (C x hx y h) u e
def Pre (pf:Int→Option Int) (x:Int) (ys:LI) (z:Int):Prop:=∀ l,En pf x l↔∃ l',En pf z l'∧l=ys++l'
theorem Pre.z {x:Int}:Pre pf x [] x:=fun l=>⟨fun h=>⟨l,h,rfl⟩,fun⟨l',h,e⟩=>by rw[e];exact h⟩
theorem Pre.s {x z y:Int}{ys:LI}(p:Pre pf x ys z) (h:pf z=some y):Pre pf x (ys++[z]) y:=fun l=>by
 rw[p l]
 constructor
 ·rintro⟨l',h1,e⟩
  cases h1 with
  |z h2=>rw[h] at h2;cases h2
  |s h2 t =>
   rw[h] at h2
   cases h2
   exact⟨_,t,by rw[e];simp⟩
 ·rintro⟨l',h1,e⟩
  exact⟨z::l',.s h h1,by rw[e];simp⟩
theorem Pre.end_ {x z:Int}{ys:LI}(p:Pre pf x ys z) (h:pf z=none):En pf x (ys++[z]):=(p _).mpr ⟨[z],.z h,rfl⟩
theorem Pre.ring {x z y:Int}{ys:LI}(p:Pre pf x ys z) (h:pf z=some y) (hy:y∈ys++[z]):¬∃ l,En pf x l:=fun⟨l,hl⟩=>by
 obtain⟨l',h1,e⟩:=((p.s h) l).mp hl
 obtain⟨t,e2⟩:=h1.hd
 have nd:=hl.nd
 rw[e,e2,List.nodup_append] at nd
 exact nd.2.2 y hy y List.mem_cons_self rfl
theorem Pre.long {us:LI}(C:∀ x∈us,∀ y,pf x=some y→y∈us){x z y:Int}{ys:LI}(hx:x∈us) (p:Pre pf x ys z) (h:pf z=some y) (hl:us.length<(ys++[z]).length+1):¬∃ l,En pf x l:=fun⟨l,hl'⟩=>by
 obtain⟨l',h1,e⟩:=((p.s h) l).mp hl'
 obtain⟨t,e2⟩:=h1.hd
 have h2:=yX hl'.nd (hl'.mem C hx)
 rw[e,e2,List.length_append,List.length_cons] at h2
 omega
noncomputable def paO (pf:Int→Option Int) (x:Int):LI:=by
 classical
 exact if h:∃ l,En pf x l then Classical.choose h else[x]
theorem wo {x:Int}{l:LI}(h:En pf x l):paO pf x=l:=by
 unfold paO
 rw[dif_pos ⟨l,h⟩]
 exact(Classical.choose_spec (⟨l,h⟩:∃ l,En pf x l)).fn h
def opV:Option Int→V
 |none=>.non
 |some y=>.int y
theorem ZO (o:Option Int):Fl (opV o):=by
 cases o with
 |none=>exact .inr rfl
 |some y=>exact .inl ⟨y,rfl⟩
def UpP (us:LI) (pf:Int→Option Int) (pa:Int→LI):Prop:=∃ sf:Int→Nat,∀ x∈us,(pf x=none∧pa x=[x])∨∃ y,pf x=some y∧y∈us∧pa x=x::pa y∧sf y<sf x
def ldr (pa:Int→LI) (x:Int):Int:=(pa x).getLastD x
theorem za8 {us:LI}{pf:Int→Option Int}{pa:Int→LI}{sf:Int→Nat}(U:∀ x∈us,(pf x=none∧pa x=[x])∨∃ y,pf x=some y∧y∈us∧pa x=x::pa y∧sf y<sf x):∀ (n:Nat){x:Int},sf x≤n→x∈us→(∃ ys,pa x=ys++[ldr pa x])∧pf (ldr pa x)=none∧ldr pa x∈us∧(pa x).Nodup∧(∀ y∈pa x,y∈us∧sf y≤sf x):=by
 intro n
 induction n with
 |zero =>
  intro x hn hx
  rcases U x hx with⟨h1,h2⟩ | ⟨y,_,_,_,h⟩
  ·have e:ldr pa x=x:=by unfold ldr;rw[h2];rfl
   rw[e,h2]
   exact⟨⟨[],rfl⟩,h1,hx,by simp,fun y hy=>by rw[List.mem_singleton.mp hy];exact⟨hx,Nat.le_refl _⟩⟩
  ·omega
 |succ n ih =>
  intro x hn hx
  rcases U x hx with⟨h1,h2⟩ | ⟨y,h1,h2,h3,h4⟩
  ·have e:ldr pa x=x:=by unfold ldr;rw[h2];rfl
   rw[e,h2]
   exact⟨⟨[],rfl⟩,h1,hx,by simp,fun y hy=>by rw[List.mem_singleton.mp hy];exact⟨hx,Nat.le_refl _⟩⟩
  ·obtain⟨⟨ys,i1⟩,i2,i3,i4,i5⟩:=ih (x:=y) (by omega) h2
   have e:ldr pa x=ldr pa y:=by
    have:(pa x).getLastD x=ldr pa y:=by
     rw[h3,i1,← List.cons_append,List.getLastD_eq_getLast?,List.getLast?_append]
     rfl
    exact this
   rw[e,h3]
   refine⟨⟨x::ys,by rw[List.cons_append,← i1]⟩,i2,i3,List.nodup_cons.mpr ⟨fun z=>?_,i4⟩,fun u hu=>?_⟩
   ·have:=(i5 x z).2
    omega
   ·rcases List.mem_cons.mp hu with z | z
    ·rw[z];exact⟨hx,Nat.le_refl _⟩
    ·have:=i5 u z
     exact⟨this.1,by omega⟩
theorem UpP.ld {us:LI}{pf:Int→Option Int}{pa:Int→LI}(U:UpP us pf pa){x:Int}(hx:x∈us):(∃ ys,pa x=ys++[ldr pa x])∧pf (ldr pa x)=none∧ldr pa x∈us∧(pa x).Nodup∧(∀ y∈pa x,y∈us):=by
 obtain⟨sf,U⟩:=U
 obtain⟨h1,h2,h3,h4,h5⟩:=za8 U (sf x) (Nat.le_refl _) hx
 exact⟨h1,h2,h3,h4,fun y hy=>(h5 y hy).1⟩
structure WayAt (a:Ad) (H:Hp) (p:Addr) (pf:Int→Option Int) (us:LI) (ls:LP) (dx dp ob:Addr):Prop where
 p:H p=some (.ins a.c_Way dx [("own_parents",.ref dp),("own_bridges",.ref ob)])
 dp:H dp=some (.dK (tabV (fun x=>opV (pf x)) us))
 ob:∃ rs,H ob=some (.lst rs)∧LnAt H rs ls
 nd:us.Nodup
 l12:us.length≤12
 l66:ls.length≤200
theorem WayAt.same {a:Ad}{H H':Hp}{p dx dp ob:Addr}{pf:Int→Option Int}{us:LI}{ls:LP}(w:WayAt a H p pf us ls dx dp ob) (s:Same H H'):WayAt a H' p pf us ls dx dp ob:=⟨s _ _ w.p,s _ _ w.dp,by obtain⟨rs,e1,e2⟩:=w.ob;exact⟨rs,s _ _ e1,e2.same s⟩,w.nd,w.l12,w.l66⟩
structure WayR (a:Ad) (H:Hp) (p:Addr) (pf:Int→Option Int) (us:LI) (dx dp ob:Addr):Prop where
 p:H p=some (.ins a.c_Way dx [("own_parents",.ref dp),("own_bridges",.ref ob)])
 dp:Rd H dp (.dK (tabV (fun x=>opV (pf x)) us))
 l12:us.length≤12
theorem WayAt.r {a:Ad}{H:Hp}{p dx dp ob:Addr}{pf:Int→Option Int}{us:LI}{ls:LP}(w:WayAt a H p pf us ls dx dp ob):WayR a H p pf us dx dp ob:=⟨w.p,.inl w.dp,w.l12⟩
theorem WS {H H':Hp}{d:Addr}{u:HO}(h:Rd H d u) (s:Same H H'):Rd H' d u:=h.elim (fun e=>.inl (s _ _ e)) fun⟨o,e⟩=>.inr ⟨o,s _ _ e⟩
theorem WayR.same {a:Ad}{H H':Hp}{p dx dp ob:Addr}{pf:Int→Option Int}{us:LI}(w:WayR a H p pf us dx dp ob) (s:Same H H'):WayR a H' p pf us dx dp ob:=⟨s _ _ w.p,WS w.dp s,w.l12⟩
theorem vq {H:Hp}{d:Addr}{f:Int→V}{us:LI}{x:Int}(e:Rd H d (.dK (tabV f us))) (h:x∈us):DGet H d (V.int x) (some (f x)):=.inl ⟨_,.inl x,e,rfl,(wU h).symm⟩
def YH (a:Ad):Sp:=fun vs H Q _=>∃ (p dx d l:Addr) (pf:Int→Option Int) (us:LI) (rs:List V) (ls:LP),vs=[.ref p,.ref d,.ref l]∧H p=some (.ins a.c_Way dx [])∧H d=some (.dK (tabV (fun x=>opV (pf x)) us))∧us.Nodup∧us.length≤12∧H l=some (.lst rs)∧LnAt H rs ls∧ls.length≤200 ∧
 ∀ (dp ob:Addr) (H':Hp),H dp=none→H ob=none→Ext p H H'→WayAt a H' p pf us ls dx dp ob→Q .non H'
theorem ZQ (T:Txt w K mg a):FnOk P w K mg base CX0 6 a.f_qL a.d_qL ["self", "parents", "bridges"] (YH a):=by
 have c_qb:Callee P w K mg base "copied" a.f_qb a.d_qb ["value"] (3+2) (Vy 3):=⟨yW T 3,T.g_qb,T.F_qb.kp,T.b_qb⟩
 refine T.F_qL.ok zdh (fun vs H Q E h=>?_) (fun cdv A outer s H vs Q E hr h=>?_)
 ·obtain⟨p,dx,d,l,pf,us,rs,ls,rfl,_⟩:=h
  rfl
 ·obtain⟨p,dx,d,l,pf,us,rs,ls,rfl,hp,hd,nd,l12,hl,L,l66,k⟩:=h
  refine zM (w_pss_cons (xt (zf 0) (zm c_qb hr.m (zd (zf 1) za)) rfl)
   (zb (xt (zf 0) (zm c_qb hr.m (zd (zf 2) za)) rfl))) ?_
  refine⟨_,rfl,_,rfl,.inr (.inr (.inl ⟨by decide,d,_,us,rfl,hd,nd,l12,fun x _=>ZO _,fun dp H1 hdp h1 s1=>?_⟩))⟩
  have ndp:dp≠p:=fun z=>by rw[z,hp] at hdp;cases hdp
  refine⟨_,rfl,p,a.c_Way,dx,_,rfl,s1 _ _ hp,T.cl_Way,T.na_Way_own_parents,(by show 0<1000;decide),?_⟩
  have x1:=(Ext.same (l:=p) s1).trans (Ext.at (l:=p) (o:=.ins a.c_Way dx [("own_parents",.ref dp)]))
  have nlp:l≠p:=fun z=>by rw[z,hp] at hl;cases hl
  refine⟨_,rfl,_,rfl,.inr (.inr (.inr ⟨by decide,l,rs,ls,rfl,x1 _ _ hl nlp,L.ext hp x1,l66,fun ob rs' H2 hob h2 L2 s2=>?_⟩))⟩
  refine⟨_,rfl,p,a.c_Way,dx,_,rfl,s2 _ _ upd_same,T.cl_Way,T.na_Way_own_bridges,(by show 1<1000;decide),?_⟩
  have nob:ob≠p:=fun z=>by rw[z,upd_same] at hob;cases hob
  have fob:H ob=none:=by
   cases h:H ob with
   |none=>rfl
   |some o=>exact nomatch ((x1 _ _ h nob).symm.trans hob:some o=none)
  refine k dp ob _ hdp fob ((x1.trans (Ext.same s2)).trans Ext.at) ⟨upd_same,?_,⟨rs',?_,L2.ext (s2 _ _ upd_same) Ext.at⟩,nd,l12,l66⟩
  ·rw[upd_ne ndp]
   exact s2 _ _ ((upd_ne ndp).trans h1)
  ·rw[upd_ne nob]
   exact h2
def zmx (a:Ad):Sp:=fun vs H Q _=>∃ (p dx dp ob:Addr) (pf:Int→Option Int) (us:LI) (ls:LP),vs=[.ref p]∧WayAt a H p pf us ls dx dp ob∧∀ (d:Addr) (H':Hp),H d=none→H' d=some (.dK (tabV (fun x=>opV (pf x)) us))→Same H H'→Q (.ref d) H'
theorem UK (T:Txt w K mg a):FnOk P w K mg base CX0 6 a.f_qN a.d_qN ["self"] (zmx a):=by
 have c_qb:Callee P w K mg base "copied" a.f_qb a.d_qb ["value"] (3+2) (Vy 3):=⟨yW T 3,T.g_qb,T.F_qb.kp,T.b_qb⟩
 refine T.F_qN.ok zdg (fun vs H Q E h=>?_) (fun cdv A outer s H vs Q E hr h=>?_)
 ·obtain⟨p,dx,dp,ob,pf,us,ls,rfl,_⟩:=h
  rfl
 ·obtain⟨p,dx,dp,ob,pf,us,ls,rfl,W,k⟩:=h
  refine zM (zb (zg (zm c_qb hr.m (zn (yq (zf 0) rfl) za)))) ?_
  exact⟨_,rfl,p,_,dx,_,_,rfl,W.p,T.cl_Way,T.na_Way_own_parents,rfl,_,rfl,.inr (.inr (.inl ⟨by decide,dp,_,us,rfl,W.dp,W.nd,W.l12,fun x _=>ZO _,k⟩))⟩
def zmy (a:Ad):Sp:=fun vs H Q _=>∃ (p dx dp ob:Addr) (pf:Int→Option Int) (us:LI) (ls:LP),vs=[.ref p]∧WayAt a H p pf us ls dx dp ob∧∀ (l:Addr) (rs:List V) (H':Hp),H l=none→H' l=some (.lst rs)→LnAt H' rs ls→Same H H'→Q (.ref l) H'
theorem ok_ab (T:Txt w K mg a):FnOk P w K mg base CX0 6 a.f_qO a.d_qO ["self"] (zmy a):=by
 have c_qb:Callee P w K mg base "copied" a.f_qb a.d_qb ["value"] (3+2) (Vy 3):=⟨yW T 3,T.g_qb,T.F_qb.kp,T.b_qb⟩
 refine T.F_qO.ok zdf (fun vs H Q E h=>?_) (fun cdv A outer s H vs Q E hr h=>?_)
 ·obtain⟨p,dx,dp,ob,pf,us,ls,rfl,_⟩:=h
  rfl
 ·obtain⟨p,dx,dp,ob,pf,us,ls,rfl,W,k⟩:=h
  refine zM (zb (zg (zm c_qb hr.m (zn (yq (zf 0) rfl) za)))) ?_
  obtain⟨rs,e1,e2⟩:=W.ob
  exact⟨_,rfl,p,_,dx,_,_,rfl,W.p,T.cl_Way,T.na_Way_own_bridges,rfl,_,rfl,.inr (.inr (.inr ⟨by decide,ob,rs,ls,rfl,e1,e2,W.l66,k⟩))⟩
def Cl (us:LI) (pf:Int→Option Int):Prop:=∀ x∈us,∀ y,pf x=some y→y∈us
def zms (a:Ad):Sp:=fun vs H Q _=>∃ (p dx dp ob:Addr) (pf:Int→Option Int) (us:LI) (x:Int),vs=[.ref p,.int x]∧WayR a H p pf us dx dp ob∧Cl us pf∧x∈us ∧
 ∀ (l:Addr) (ys:LI) (z:Int),H l=none→z∈us→((pf z=none∧En pf x (ys++[z]))∨(pf z≠none∧¬∃ l,En pf x l))→Q (.ref l) (upd H l (.lst ((ys++[z]).map V.int)))
theorem UG (T:Txt w K mg a):FnOk P w K mg base CX0 1 a.f_qP a.d_qP ["self", "hand"] (zms a):=by
 refine T.F_qP.ok sc_qP (fun vs H Q E h=>?_) (fun cdv A outer s H vs Q E hr h=>?_)
 ·obtain⟨p,dx,dp,ob,pf,us,x,rfl,_⟩:=h
  rfl
 ·obtain⟨p,dx,dp,ob,pf,us,x,rfl,W,C,hx,k⟩:=h
  have hu:=yQ hr
  refine zM (w_pss_cons (w_ps_set (i:=2) sc_qP.nd rfl (Or.inl rfl) (zA (zd (zf 1) za)))
   (w_pss_cons (w_ps_set (i:=3) sc_qP.nd rfl (Or.inl rfl) (wI hu (yq (zf 0) rfl) (zf 1) ⟨rfl,rfl,rfl,rfl⟩))
   (w_pss_cons (yA PassesOwn.never (we (yo (zl wZ (zf 3) yx (zC _)) (yd (zl vA (zf 3) (zf 2) (by with_unfolding_all rfl)))))
    (w_pss_cons (zH (ya PySem.F.plainAttrs_list PySem.F.slot_list_append PySem.F.type_list_append zL (zf 2) (zd (zf 3) za)))
    (zb (w_ps_set (i:=3) sc_qP.nd rfl (Or.inl rfl) (wI hu (yq (zf 0) rfl) (zf 3) ⟨rfl,rfl,rfl,rfl⟩)))))
   (zb (zg (zf 2)))))) ?_
  refine⟨_,rfl,(by show 1≤sizeLine;decide),fun l hl=>?_⟩
  have sm:∀ o,Same H (upd H l o):=fun o=>Same.new hl
  refine⟨_,rfl,p,_,dx,_,_,rfl,(W.same (sm _)).p,T.cl_Way,T.na_Way_own_parents,rfl,dp,rfl,.inl ⟨_,(W.same (sm _)).dp⟩,_,rfl,some (opV (pf x)),vq (W.same (sm _)).dp hx,?_⟩
  refine⟨fun m σ H'=>∃ (ys:LI) (z:Int),m+(ys++[z]).length=us.length∧σ=[some (.ref p),some (.int x),some (.ref l),some (opV (pf z))]∧H'=upd H l (.lst ((ys++[z]).map V.int))∧z∈us∧Pre pf x ys z∧(ys++[z]).Nodup∧∀ y∈ys,y∈us,⟨us.length-1,[],x,by have:=List.length_pos_of_mem hx;simp;omega,rfl,rfl,hx,Pre.z,(by simp),(fun y hy=>(nomatch hy))⟩,?_⟩
  rintro m σ H' ⟨ys,z,hm,rfl,rfl,hz,hp,nd,hsub⟩
  have hlen:(ys++[z]).length≤12:=Nat.le_trans (by omega) W.l12
  cases h1:pf z with
  |none =>
   refine⟨_,rfl,rfl,_,rfl,iteN rfl ?_⟩
   refine⟨_,rfl,?_⟩
   exact k l ys z hl hz (.inl ⟨h1,hp.end_ h1⟩)
  |some y =>
   refine⟨_,rfl,rfl,_,rfl,xH ?_⟩
   have h2:=C z hz y h1
   by_cases hny:y∈ys++[z]
   ·refine⟨_,rfl,_,rfl,l,_,rfl,.inl (SqL.of upd_same),rfl,yD _,_,rfl,iteN (by show(!inV (.int y) _)=false;rw[yZ,decide_eq_true hny];rfl) ?_⟩
    refine⟨_,rfl,?_⟩
    exact k l ys z hl hz (.inr ⟨by rw[h1];simp,hp.ring h1 hny⟩)
   ·refine⟨_,rfl,_,rfl,l,_,rfl,.inl (SqL.of upd_same),rfl,yD _,_,rfl,iteB (by show(!inV (.int y) _)=true;rw[yZ,decide_eq_false hny];rfl) ?_⟩
    refine⟨_,fun σ' H' h=>h,?_⟩
    refine⟨_,rfl,.inl ⟨rfl,_,SqL.of upd_same⟩,_,rfl,l,_,_,rfl,rfl,upd_same,(by rw[List.length_map];exact zj (by omega)),?_⟩
    rw[xJ]
    refine⟨_,rfl,p,_,dx,_,_,rfl,(W.same (sm _)).p,T.cl_Way,T.na_Way_own_parents,rfl,dp,rfl,.inl ⟨_,(W.same (sm _)).dp⟩,_,rfl,some (opV (pf y)),vq (W.same (sm _)).dp h2,?_⟩
    have nd2:(ys++[z]++[y]).Nodup:=by
     rw[List.nodup_append]
     exact⟨nd,by simp,fun u hu v hv e=>hny (by rw[List.mem_singleton.mp hv] at e;rw[← e];exact hu)⟩
    have hs2:∀ u∈ys++[z],u∈us:=fun u hu=>(List.mem_append.mp hu).elim (hsub u) fun q=>by rw[List.mem_singleton.mp q];exact hz
    have hn2:=yX nd2 fun u hu=>(List.mem_append.mp hu).elim (hs2 u) fun q=>by rw[List.mem_singleton.mp q];exact h2
    have e2:(ys++[z]++[y]).length=(ys++[z]).length+1:=by simp
    refine⟨m-1,by omega,ys++[z],y,by omega,rfl,?_,h2,hp.s h1,nd2,hs2⟩
    rw[List.map_append (l₂:=[y])]
    rfl
def zcX (a:Ad):Sp:=fun vs H Q _=>∃ (p dx dp ob:Addr) (pf:Int→Option Int) (us:LI) (x:Int),vs=[.ref p,.int x]∧WayR a H p pf us dx dp ob∧Cl us pf∧x∈us∧∀ (ys:LI) (z:Int) (H':Hp),Same H H'→z∈us→((pf z=none∧En pf x (ys++[z]))∨(pf z≠none∧¬∃ l,En pf x l))→Q (.int z) H'
theorem XB (T:Txt w K mg a):FnOk P w K mg base CX0 2 a.f_qQ a.d_qQ ["self", "hand"] (zcX a):=by
 refine T.F_qQ.ok zde (fun vs H Q E h=>?_) (fun cdv A outer s H vs Q E hr h=>?_)
 ·obtain⟨p,dx,dp,ob,pf,us,x,rfl,_⟩:=h
  rfl
 ·obtain⟨p,dx,dp,ob,pf,us,x,rfl,W,C,hx,k⟩:=h
  refine zM (zb (zg (zr zN (zx (zf 0) (zd (zf 1) za)) (yj yJ ze) (fun _ _=>rfl)))) ?_
  refine⟨_,rfl,p,_,dx,_,_,_,_,_,_,rfl,W.p,rfl,T.cl_Way,T.mt_qP,UG (P:=P) (w:=w) T,hr.m,T.b_qP,_,rfl,p,dx,dp,ob,pf,us,x,rfl,W,C,hx,fun l ys z hl hz hor=>?_⟩
  refine⟨_,rfl,l,_,-1,_,rfl,rfl,SqL.of upd_same,?_,k ys z _ (Same.new hl) hz hor⟩
  rw[List.map_append]
  exact at_last
theorem UpP.cl {us:LI}{pf:Int→Option Int}{pa:Int→LI}(U:UpP us pf pa):Cl us pf:=fun x hx y h=>by
 obtain⟨sf,U⟩:=U
 rcases U x hx with⟨h1,_⟩ | ⟨y',h1,h2,_⟩
 ·rw[h] at h1;cases h1
 ·rw[h] at h1;cases h1;exact h2
theorem UpP.en {us:LI}{pf:Int→Option Int}{pa:Int→LI}(U:UpP us pf pa){x:Int}(hx:x∈us):En pf x (pa x):=by
 obtain⟨sf,U⟩:=U
 have go:∀ (n:Nat){x:Int},sf x≤n→x∈us→En pf x (pa x):=by
  intro n
  induction n with
  |zero =>
   intro x hn hx
   rcases U x hx with⟨h1,h2⟩ | ⟨y,_,_,_,h⟩
   ·rw[h2];exact .z h1
   ·omega
  |succ n ih =>
   intro x hn hx
   rcases U x hx with⟨h1,h2⟩ | ⟨y,h1,h2,h3,h4⟩
   ·rw[h2];exact .z h1
   ·rw[h3];exact .s h1 (ih (by omega) h2)
 exact go _ (Nat.le_refl _) hx
theorem UpP.of {us:LI}{pf:Int→Option Int}(C:Cl us pf) (h:∀ x∈us,∃ l,En pf x l):UpP us pf (paO pf):=⟨fun x=>(paO pf x).length,fun x hx=>by
 obtain⟨l,hl⟩:=h x hx
 cases hl with
 |z h1=>exact .inl ⟨h1,wo (.z h1)⟩
 | @s _ y l h1 t=>exact .inr ⟨y,h1,C x hx y h1,by rw[wo (.s h1 t),wo t],by show(paO pf y).length<(paO pf x).length;rw[wo (.s h1 t),wo t];simp⟩⟩
def zmv (a:Ad):Sp:=fun vs H Q _=>∃ (p dx dp ob:Addr) (pf:Int→Option Int) (pa:Int→LI) (us:LI) (x:Int),vs=[.ref p,.int x]∧WayR a H p pf us dx dp ob∧UpP us pf pa∧x∈us∧∀ (H':Hp),Same H H'→Q (.int (ldr pa x)) H'
theorem wD (T:Txt w K mg a):FnOk P w K mg base CX0 2 a.f_qQ a.d_qQ ["self", "hand"] (zmv a):=(XB T).imp fun vs H Q E h=>by
 obtain⟨p,dx,dp,ob,pf,pa,us,x,rfl,W,U,hx,k⟩:=h
 refine⟨p,dx,dp,ob,pf,us,x,rfl,W,U.cl,hx,fun ys z H' s hz hor=>?_⟩
 rcases hor with⟨_,h⟩ | ⟨_,h⟩
 ·have e:ldr pa x=z:=by
   unfold ldr
   rw[(U.en hx).fn h,List.getLastD_eq_getLast?,List.getLast?_append]
   simp
  rw[← e]
  exact k _ s
 ·exact absurd ⟨_,U.en hx⟩ h
open L2.Sco (PT PsAt)
def jk (lf:Int→Int) (p:Int×Int):Int×Int:=(min (lf p.1) (lf p.2),max (lf p.1) (lf p.2))
def jst (lf:Int→Int) (acc:List ((Int×Int)×(Int×Int))) (p:Int×Int):List ((Int×Int)×(Int×Int)) :=
 if lf p.1=lf p.2 then acc else if jk lf p∈acc.map (·.1) then acc else acc++[(jk lf p,p)]
def jn (lf:Int→Int) (ls:LP):List ((Int×Int)×(Int×Int)):=ls.foldl (jst lf) []
theorem v9 {lf:Int→Int}{ls:LP}{p:Int×Int}:jn lf (ls++[p])=jst lf (jn lf ls) p:=by
 unfold jn
 rw[List.foldl_append]
 rfl
theorem Vn {lf:Int→Int}{acc:List ((Int×Int)×(Int×Int))}{p:Int×Int}:(jst lf acc p).length≤acc.length+1:=by
 unfold jst
 split
 ·omega
 ·split
  ·omega
  ·simp
theorem XF {lf:Int→Int}{ls:LP}:(jn lf ls).length≤ls.length:=by
 suffices ∀ (acc:List ((Int×Int)×(Int×Int))),(ls.foldl (jst lf) acc).length≤acc.length+ls.length by
  have:=this []
  unfold jn
  simpa using this
 induction ls with
 |nil=>intro acc;simp
 |cons p ls ih =>
  intro acc
  have h1:=ih (jst lf acc p)
  have h2:=Vn (lf:=lf) (acc:=acc) (p:=p)
  rw[List.foldl_cons,List.length_cons]
  omega
theorem wJ {x y:Int}{ms:LI}(pm:ms.Perm [x,y]) (sd:ms.Pairwise (· ≤ ·)):ms=[min x y,max x y]:=by
 have hl:=pm.length_eq
 match ms,hl with
 |[u,v],_ =>
  have h1:u≤v:=(List.pairwise_cons.mp sd).1 v (by simp)
  have hu:u=x∨u=y:=by simpa using pm.mem_iff.mp (show u∈[u,v] by simp)
  have hx:x=u∨x=v:=by simpa using pm.mem_iff.mpr (show x∈[x,y] by simp)
  have hy:y=u∨y=v:=by simpa using pm.mem_iff.mpr (show y∈[x,y] by simp)
  have hv:v=x∨v=y:=by simpa using pm.mem_iff.mp (show v∈[u,v] by simp)
  have e1:u=min x y:=by omega
  have e2:v=max x y:=by omega
  rw[e1,e2]
def kvJ (js:List ((Int×Int)×PT)):List (List Key×V):=js.map fun j=>([Sum.inl j.1.1,Sum.inl j.1.2],V.ref j.2.1)
def tlJ (js:List ((Int×Int)×PT)):List ((Int×Int)×(Int×Int)):=js.map fun j=>(j.1,j.2.2)
theorem ZY {js:List ((Int×Int)×PT)}{k:Int×Int}:(yL (kvJ js) ([Sum.inl k.1,Sum.inl k.2]:List Key)).isSome=decide (k∈js.map (·.1)):=by
 rw[yV]
 apply decide_eq_decide.mpr
 unfold kvJ
 rw[List.map_map]
 constructor
 ·intro h
  obtain⟨j,hj,e⟩:=List.mem_map.mp h
  refine List.mem_map.mpr ⟨j,hj,?_⟩
  have e:([Sum.inl j.1.1,Sum.inl j.1.2]:List Key)=[Sum.inl k.1,Sum.inl k.2]:=e
  injection e with e1 e2
  injection e2 with e2 _
  injection e1 with e1
  injection e2 with e2
  exact Prod.ext e1 e2
 ·intro h
  obtain⟨j,hj,e⟩:=List.mem_map.mp h
  exact List.mem_map.mpr ⟨j,hj,by rw[← e];rfl⟩
def zcZ (a:Ad):Sp:=fun vs H Q _=>∃ (p dx dp ob l:Addr) (pf:Int→Option Int) (pa:Int→LI) (us:LI) (bs ls:LP) (rs:List V),vs=[.ref p,.ref l]∧WayAt a H p pf us bs dx dp ob∧UpP us pf pa∧H l=some (.lst rs)∧LnAt H rs ls∧Bd ls∧ls.length≤66∧(∀ q∈ls,q.1∈us∧q.2∈us) ∧
 ∀ (d:Addr) (js:List ((Int×Int)×PT)) (H':Hp),H d=none→H' d=some (.dT (kvJ js))→tlJ js=jn (ldr pa) ls→PsAt H' (js.map (·.2))→Same H H'→Q (.ref d) H'
theorem UJ (T:Txt w K mg a):FnOk P w K mg base CX0 3 a.f_qh a.d_qh ["way", "lines"] (zcZ a):=by
 refine T.F_qh.ok sc_qh (fun vs H Q E h=>?_) (fun cdv A outer s H vs Q E hr h=>?_)
 ·obtain⟨p,dx,dp,ob,l,pf,pa,us,bs,ls,rs,rfl,_⟩:=h
  rfl
 ·obtain⟨p,dx,dp,ob,l,pf,pa,us,bs,ls,rs,rfl,W,U,hl,L,B,l66,hin,k⟩:=h
  have hu:=yQ hr
  generalize hlf:ldr pa=lf at *
  refine zM (w_pss_cons (w_ps_set (i:=2) sc_qh.nd rfl (Or.inl rfl) yk)
   (w_pss_cons (zE PassesOwn.never rfl (zw (zf 1)) (zZ rfl (zp (zh (i:=3) sc_qh.nd rfl (Or.inl rfl)) (zp (zh (i:=4) sc_qh.nd rfl (Or.inl rfl)) zQ)))
    (w_pss_cons (w_ps_set (i:=5) sc_qh.nd rfl (Or.inl rfl) (zT yR (by rfl) T.n_tuple xh (zI (zi xg (by rfl) T.n_sorted yi (zn (zA (zI (zx (zf 0) (zd (zf 3) za)) (zI (zx (zf 0) (zd (zf 4) za)) za))) za)) za)))
    (zb (zu (zl u3 (zr yc (zf 5) ze (fun _ _=>rfl)) (zr yc (zf 5) ze (fun _ _=>rfl)) (zC _))
     (zb (zH (xv hu (zf 2) (zf 5) (zP (zd (zf 3) (zd (zf 4) za))) ⟨rfl,rfl,rfl,rfl⟩)))
     zk))))
   (zb (zg (zf 2))))) ?_
  refine fun d hd=>?_
  have lr:=L.1
  refine⟨_,rfl,l,rfl,⟨_,SqL.of (Same.new hd _ _ hl)⟩,?_⟩
  refine for_list (xs:=rs) (fun i σ H'=>∃ (js:List ((Int×Int)×PT)) (o3 o4 o5:Option V),σ=[some (.ref p),some (.ref l),some (.ref d),o3,o4,o5]∧H' d=some (.dT (kvJ js))∧tlJ js=jn lf (ls.take i)∧PsAt H' (js.map (·.2))∧Same H H') ?_ ?_ ?_ ?_
  ·exact⟨[],none,none,none,rfl,upd_same,rfl,(fun p hp=>(nomatch hp)),Same.new hd⟩
  ·rintro i σ H' hi ⟨js,o3,o4,o5,_,_,_,_,sm⟩
   exact SqL.of (sm _ _ hl)
  ·rintro i v σ H1 hi ⟨js,o3,o4,o5,rfl,hd1,ej,ps,sm⟩
   obtain⟨⟨x,y⟩,q,hp,rfl,hq⟩:=L.get hi
   have hpm:=List.mem_of_getElem? hp
   obtain⟨hx,hy⟩:=hin _ hpm
   have hbd:=B _ hpm
   dsimp only at hx hy hbd hq
   have ljs:js.length≤66:=by
    have h1:=congrArg List.length ej
    unfold tlJ at h1
    rw[List.length_map] at h1
    have h2:=XF (lf:=lf) (ls:=ls.take i)
    rw[List.length_take] at h2
    omega
   refine⟨q,_,rfl,SqT.of (sm _ _ hq),rfl,_,_,rfl,_,_,rfl,rfl,?_⟩
   refine⟨_,rfl,p,_,dx,_,_,_,_,_,_,rfl,sm _ _ W.p,rfl,T.cl_Way,T.mt_qQ,wD (P:=P) (w:=w) T,hr.m,T.b_qQ,_,rfl,p,dx,dp,ob,pf,pa,us,x,rfl,(W.same sm).r,U,hx,fun H2 s2=>?_⟩
   rw[hlf]
   have sm2:=sm.trans s2
   refine⟨_,rfl,p,_,dx,_,_,_,_,_,_,rfl,sm2 _ _ W.p,rfl,T.cl_Way,T.mt_qQ,wD (P:=P) (w:=w) T,hr.m,T.b_qQ,_,rfl,p,dx,dp,ob,pf,pa,us,y,rfl,(W.same sm2).r,U,hy,fun H3 s3=>?_⟩
   rw[hlf]
   have sm3:=sm2.trans s3
   refine⟨(by show 2≤sizeLine;decide),fun pl hpl=>?_⟩
   have s4:=Same.new (o:=HO.lst [V.int (lf x),V.int (lf y)]) hpl
   refine⟨pl,[lf x,lf y],rfl,SqL.of upd_same,(by show 2<64;decide),fun pm ms hpm' pmm sd=>?_⟩
   rw[wJ pmm sd]
   have s5:=s4.trans (Same.new (o:=HO.lst ([min (lf x) (lf y),max (lf x) (lf y)].map V.int)) hpm')
   refine⟨pm,_,rfl,.inl ⟨SqL.of upd_same,fun pt hpt=>?_⟩⟩
   have s6:=s5.trans (Same.new (o:=HO.tup ([min (lf x) (lf y),max (lf x) (lf y)].map V.int)) hpt)
   have ht6:=upd_same (H:=(upd (upd H3 pl (HO.lst [V.int (lf x),V.int (lf y)])) pm (HO.lst ([min (lf x) (lf y),max (lf x) (lf y)].map V.int)))) (a:=pt) (o:=HO.tup ([min (lf x) (lf y),max (lf x) (lf y)].map V.int))
   generalize upd (upd (upd H3 pl (HO.lst [V.int (lf x),V.int (lf y)])) pm (HO.lst ([min (lf x) (lf y),max (lf x) (lf y)].map V.int))) pt (HO.tup ([min (lf x) (lf y),max (lf x) (lf y)].map V.int))=H6 at *
   have t6:=(s2.trans s3).trans s6
   have sm6:=sm.trans t6
   refine⟨_,rfl,pt,_,0,_,rfl,rfl,SqT.of ht6,rfl,_,rfl,pt,_,1,_,rfl,rfl,SqT.of ht6,rfl,rfl,_,rfl,?_⟩
   have etk:ls.take (i+1)=ls.take i++[(x,y)]:=by rw[List.take_add_one,hp];rfl
   by_cases c:lf x=lf y
   ·refine iteN (by rw[c];simp) ?_
    refine⟨js,_,_,_,rfl,t6 _ _ hd1,?_,ps.same t6,sm6⟩
    rw[etk,v9]
    unfold jst
    rw[if_pos c]
    exact ej
   ·refine iteB (by simp;omega) ?_
    refine⟨_,rfl,d,rfl,.inr ⟨_,.inl (t6 _ _ hd1)⟩,_,rfl,_,rfl,_,rfl,(by show 2≤sizeLine;decide),fun pr hpr=>?_⟩
    have s7:=Same.new (o:=HO.tup [V.int x,V.int y]) hpr
    have t7:=t6.trans s7
    have hd7:=t7 _ _ hd1
    have npd:pr≠d:=fun z=>by rw[z,t6 _ _ hd1] at hpr;cases hpr
    have key:(yL (kvJ js) ([Sum.inl (min (lf x) (lf y)),Sum.inl (max (lf x) (lf y))]:List Key)).isSome=decide (jk lf (x,y)∈js.map (·.1)):=ZY (js:=js) (k:=jk lf (x,y))
    have emp:(tlJ js).map (·.1)=js.map (·.1):=by unfold tlJ;rw[List.map_map];rfl
    refine .inr ⟨kvJ js,[Sum.inl (min (lf x) (lf y)),Sum.inl (max (lf x) (lf y))],pt,hd7,rfl,s7 _ _ ht6,by unfold kvJ;rw[List.length_map];exact zj (by omega),fun u hu'=>?_,fun hn=>?_⟩
    ·rw[hu'] at key
     have hk:jk lf (x,y)∈js.map (·.1):=of_decide_eq_true key.symm
     refine⟨js,_,_,_,rfl,hd7,?_,ps.same t7,sm.trans t7⟩
     rw[etk,v9,← ej]
     unfold jst
     rw[if_neg c,if_pos (by rw[emp];exact hk)]
    ·rw[hn] at key
     have hk:jk lf (x,y)∉js.map (·.1):=of_decide_eq_false key.symm
     refine⟨js++[(jk lf (x,y),(pr,x,y))],_,_,_,rfl,?_,?_,?_,Same.updF (sm.trans t7) hd⟩
     ·rw[upd_same]
      rw[L2.putK_new _ hn]
      unfold kvJ
      rw[List.map_append]
      rfl
     ·rw[etk,v9,← ej]
      unfold jst
      rw[if_neg c,if_neg (by rw[emp];exact hk)]
      unfold tlJ
      rw[List.map_append]
      rfl
     ·have hnd:∀ b xs,(upd H6 pr (HO.tup [V.int x,V.int y])) b=some (.tup xs)→b≠d:=fun b xs e z=>by rw[z,hd7] at e;cases e
      rw[List.map_append]
      intro q' hq'
      rcases List.mem_append.mp hq' with z | z
      ·have h1:=ps.same t7 q' z
       exact⟨by rw[upd_ne (hnd _ _ h1.1)];exact h1.1,h1.2⟩
      ·rw[List.mem_singleton.mp z]
       exact⟨by rw[upd_ne npd];exact upd_same,hbd⟩
  ·rintro σ H1 ⟨js,o3,o4,o5,rfl,hd1,ej,ps,sm⟩
   rw[List.take_of_length_le (by omega)] at ej
   exact⟨_,rfl,k d js H1 hd hd1 ej ps sm⟩
inductive WhV:V→Bool→Prop where
 |int (i:Int):WhV (.int i) true
 |non:WhV .non false
 |str (x:Str):WhV (.str x) false
def uv:Sp:=fun vs H Q _=>∃ v b,vs=[v]∧WhV v b∧Q (.bl b) H
theorem ZP (T:Txt w K mg a):FnOk P w K mg base CX0 1 a.f_qa a.d_qa ["value"] uv:=by
 refine T.F_qa.ok Up (fun vs H Q E h=>?_) (fun cdv A outer s H vs Q E hr h=>?_)
 ·obtain⟨v,b,rfl,_⟩:=h
  rfl
 ·obtain⟨v,b,rfl,hv,k⟩:=h
  refine zM (zb (zg (yz (zi zS (by rfl) T.n_isinstance zo (zd (zf 0) (zd (zR T.n_int Yq) za))) (yp (xU (zi zS (by rfl) T.n_isinstance zo (zd (zf 0) (zd (zR T.n_bool uf) za)))))))) ?_
  cases hv with
  |int i =>
   refine⟨_,rfl,_,_,_,_,_,rfl,rfl,.int i,T.k_tint_tint,_,rfl,xH ?_⟩
   exact⟨_,rfl,_,_,_,_,_,rfl,rfl,.int i,T.k_tint_tbool,_,rfl,k⟩
  |non=>exact⟨_,rfl,_,_,_,_,_,rfl,rfl,.non,T.k_tNoneType_tint,_,rfl,iteN rfl k⟩
  |str x=>exact⟨_,rfl,_,_,_,_,_,rfl,rfl,.str x,T.k_tstr_tint,_,rfl,iteN rfl k⟩
def poV (us:LI) (pf:Int→Option Int):V→V
 |.int x=>if x∈us then opV (pf x) else .non
 |_=>.non
def zmt (a:Ad):Sp:=fun vs H Q _=>∃ (p dx dp ob:Addr) (pf:Int→Option Int) (us:LI) (ls:LP) (v:V) (b:Bool),vs=[.ref p,v]∧WayAt a H p pf us ls dx dp ob∧WhV v b∧∀ H',Same H H'→Q (poV us pf v) H'
theorem zdD (T:Txt w K mg a):FnOk P w K mg base CX0 6 a.f_qM a.d_qM ["self", "hand"] (zmt a):=by
 have c_qa:Callee P w K mg base "is_whole" a.f_qa a.d_qa ["value"] 1 uv:=⟨ZP T,T.g_qa,T.F_qa.kp,T.b_qa⟩
 have c_qb:Callee P w K mg base "copied" a.f_qb a.d_qb ["value"] (3+2) (Vy 3):=⟨yW T 3,T.g_qb,T.F_qb.kp,T.b_qb⟩
 refine T.F_qM.ok sc_qM (fun vs H Q E h=>?_) (fun cdv A outer s H vs Q E hr h=>?_)
 ·obtain⟨p,dx,dp,ob,pf,us,ls,v,b,rfl,_⟩:=h
  rfl
 ·obtain⟨p,dx,dp,ob,pf,us,ls,v,b,rfl,W,hv,k⟩:=h
  refine zM (w_pss_cons (vi (zE PassesOwn.never rfl (xn (yq (zf 0) rfl)) (zZ rfl (zp (zh (i:=2) sc_qM.nd rfl (Or.inl rfl)) (zp (zh (i:=3) sc_qM.nd rfl (Or.inl rfl)) zQ)))
    (zb (zu (we (yo (zl xo (zm c_qa hr.m (zd (zf 2) za)) (zm c_qa hr.m (zd (zf 1) za)) (zC _)) (yd (zl xo (zf 2) (zf 1) (zC _)))))
     (zb (zg (zm c_qb hr.m (zd (zf 3) za))))
     zk))))
   (zb (zg yx))) ?_
  refine⟨_,rfl,p,_,dx,_,_,rfl,W.p,T.cl_Way,T.na_Way_own_parents,rfl,dp,_,rfl,W.dp,fun od S=>?_⟩
  have hz1:=upd_same (H:=H) (a:=dp) (o:=HO.frz od (HO.dK (tabV (fun x=>opV (pf x)) us)))
  have x1:Ext dp H (upd H dp (HO.frz od (HO.dK (tabV (fun x=>opV (pf x)) us)))):=Ext.at
  generalize upd H dp (HO.frz od (HO.dK (tabV (fun x=>opV (pf x)) us)))=H1 at *
  have back:∀ {G:Hp},Same H1 G→Same H (upd G dp (HO.dK (tabV (fun x=>opV (pf x)) us))):=fun {G} sm b o e=>by
   by_cases z:b=dp
   ·rw[z,W.dp] at e;cases e;rw[z];exact upd_same
   ·rw[upd_ne z];exact sm _ _ (x1 _ _ e z)
  refine uL (yl:=yI) (d:=dp) (od:=od) (kvs:=tabV (fun x=>opV (pf x)) us) (fun i σ H'=>∃ (o2 o3:Option V),σ=[some (.ref p),some v,o2,o3]∧Same H1 H'∧∀ x,v=.int x→x∉us.take i) ?_ ?_ ?_ ?_
  ·exact⟨none,none,rfl,fun _ _ h=>h,fun x _=>by simp⟩
  ·rintro i σ H' ⟨o2,o3,_,sm,_⟩
   exact sm _ _ hz1
  ·rintro i kv u σ G G' hkv ⟨o2,o3,rfl,sm,hni⟩ hy
   obtain⟨x,hx,rfl⟩:∃ x,us[i]?=some x∧kv=(Sum.inl x,opV (pf x)):=by
    unfold tabV at hkv
    rw[List.getElem?_map] at hkv
    obtain⟨x,h1,h2⟩:=Option.map_eq_some_iff.mp hkv
    exact⟨x,h1,h2.symm⟩
   obtain⟨p0,hp0,rfl,rfl⟩:=Zk hy
   have etk:us.take (i+1)=us.take i++[x]:=by rw[List.take_add_one,hx];rfl
   have hxu:=List.mem_of_getElem? hx
   have n1:=Same.new (o:=HO.tup [V.int x,opV (pf x)]) hp0
   have sm2:=sm.trans n1
   refine⟨p0,_,rfl,SqT.of upd_same,rfl,_,_,rfl,_,_,rfl,rfl,?_⟩
   generalize upd G p0 (HO.tup [V.int x,opV (pf x)])=G2 at *
   refine⟨_,rfl,_,true,rfl,.int x,_,rfl,v,b,rfl,hv,rfl,_,rfl,?_⟩
   cases hv with
   |non=>exact iteN (by rfl) ⟨_,_,rfl,sm2,fun y hy=>(nomatch hy)⟩
   |str s=>exact iteN (by rfl) ⟨_,_,rfl,sm2,fun y hy=>(nomatch hy)⟩
   |int j =>
    refine iteB (by rfl) ?_
    refine⟨_,rfl,_,rfl,rfl,_,rfl,?_⟩
    by_cases c:x=j
    ·subst c
     refine iteB (by simp) ?_
     refine⟨_,rfl,_,rfl,.inl ⟨by decide,ZO _,?_⟩⟩
     refine .inr ⟨dp,od,_,S,sm2 _ _ hz1,?_⟩
     have e:poV us pf (.int x)=opV (pf x):=if_pos hxu
     have:=k _ (back sm2)
     rw[e] at this
     exact this
    ·refine iteN (by simp[c]) ⟨_,_,rfl,sm2,fun y hy=>?_⟩
     cases hy
     rw[etk]
     exact fun z=>(List.mem_append.mp z).elim (hni j rfl) fun e=>c (List.mem_singleton.mp e).symm
  ·rintro σ H' ⟨o2,o3,rfl,sm,hni⟩
   rw[tabV_len,List.take_length] at hni
   refine .inr ⟨dp,od,_,S,sm _ _ hz1,?_⟩
   have e:poV us pf v=.non:=by
    cases hv with
    |int i=>exact if_neg (hni i rfl)
    |non=>rfl
    |str x=>rfl
   have:=k _ (back sm)
   rw[e] at this
   exact this
open L2.Sco (PT PsAt)
structure WbP (a:Ad) (H:Hp) (p:Addr) (hs:LI) (ls:LP):Prop where
 wh:Hs hs
 wl:Ls hs ls
 l63:ls.length≤63
 at_:∃ dx oh ol d ad,WebAt a H p hs ls dx oh ol d ad
theorem WbP.same {H H':Hp}{p:Addr}{hs:LI}{ls:LP}(h:WbP a H p hs ls) (s:Same H H'):WbP a H' p hs ls:=⟨h.wh,h.wl,h.l63,let ⟨dx,oh,ol,d,ad,W⟩:=h.at_;⟨dx,oh,ol,d,ad,W.same s⟩⟩
def zcV (a:Ad):Sp:=fun vs H Q _=>∃ (p:Addr) (hs:LI) (ls:LP) (dx oh ol d:Addr) (ad:Int→Addr),vs=[.ref p]∧WebAt a H p hs ls dx oh ol d ad∧∀ q zs,H q=none→LnAt H zs (srt ls)→Q (.ref q) (upd H q (.lst zs))
theorem ZR (T:Txt w K mg a):FnOk P w K mg base CX0 1 a.f_qT a.d_qT ["self"] (zcV a):=by
 refine T.F_qT.ok zdb (fun vs H Q E h=>?_) (fun cdv A outer s H vs Q E hr h=>?_)
 ·obtain⟨p,hs,ls,dx,oh,ol,d,ad,rfl,_⟩:=h
  rfl
 ·obtain⟨p,hs,ls,dx,oh,ol,d,ad,rfl,W,k⟩:=h
  refine zM (zb (zg (zT yF (by rfl) T.n_list bt_list (zn (yq (zf 0) rfl) za)))) ?_
  obtain⟨zs,h1,h2⟩:=W.ol
  exact⟨_,rfl,p,_,dx,_,_,rfl,W.p,T.cl_Web,T.na_Web_own_lines,rfl,ol,_,rfl,.inl (SqL.of h1),fun q hq=>k q zs hq h2⟩
theorem uQ {hs:LI}{ls:LP}{x y:Int}(L:Ls hs ls) (h:adB ls x y=true):y∈hs:=by
 unfold adB at h
 rw[Bool.or_eq_true,decide_eq_true_eq,decide_eq_true_eq] at h
 rcases h with h | h
 ·exact(L.ok _ h).2.1
 ·exact(L.ok _ h).1
theorem vh {ls:LP}{x y:Int}:adB ls x y=adB ls y x:=by
 unfold adB
 rw[Bool.or_comm]
def zmw (a:Ad):Sp:=fun vs H Q _=>∃ (p:Addr) (x y:Int) (hs:LI) (ls:LP) (dx oh ol d:Addr) (ad:Int→Addr),vs=[.ref p,.int x,.int y]∧WebAt a H p hs ls dx oh ol d ad∧x∈hs∧y∈hs∧Q (.bl (adB ls x y)) H
theorem UI (T:Txt w K mg a):FnOk P w K mg base CX0 3 a.f_qV a.d_qV ["self", "one", "other"] (zmw a):=by
 refine T.F_qV.ok zc9 (fun vs H Q E h=>?_) (fun cdv A outer s H vs Q E hr h=>?_)
 ·obtain⟨p,x,y,hs,ls,dx,oh,ol,d,ad,rfl,_⟩:=h
  rfl
 ·obtain⟨p,x,y,hs,ls,dx,oh,ol,d,ad,rfl,W,hx,hy,k⟩:=h
  have hu:=yQ hr
  refine zM (zb (zg (yz (zx (zf 0) (zd (zf 1) za)) (yz (zx (zf 0) (zd (zf 2) za)) (yp (zW xA (zf 2) (yH hu (yq (zf 0) rfl) (zf 1) (fun _ _=>rfl)) (by with_unfolding_all rfl))))))) ?_
  refine⟨_,rfl,p,_,dx,_,_,_,_,_,_,rfl,W.p,rfl,T.cl_Web,T.mt_qU,uE (P:=P) (w:=w) T,hr.m,T.b_qU,_,rfl,p,x,hs,ls,dx,oh,ol,d,ad,rfl,W,hx,_,rfl,xH ?_⟩
  refine⟨_,rfl,p,_,dx,_,_,_,_,_,_,rfl,W.p,rfl,T.cl_Web,T.mt_qU,uE (P:=P) (w:=w) T,hr.m,T.b_qU,_,rfl,p,y,hs,ls,dx,oh,ol,d,ad,rfl,W,hy,_,rfl,xH ?_⟩
  refine⟨_,rfl,_,rfl,p,_,dx,_,_,rfl,W.p,T.cl_Web,T.na_Web_near,rfl,_,rfl,d,V.ref (ad x),rfl,wj W.nr.d hx,ad x,_,rfl,.inl (SqL.of (W.nr.nb x hx)),rfl,yD _,?_⟩
  have e:inV (.int y) ((nbs ls x).map V.int)=adB ls x y:=by rw[yZ,Yt]
  rw[e]
  exact k
structure Brs (hs:LI) (bs:LP):Prop where
 nd:bs.Nodup
 ok:∀ p∈bs,p.1∈hs∧p.2∈hs∧p.1<p.2
theorem WebAt.frz {H G:Hp}{p dx oh ol d d0:Addr}{hs us:LI}{ls:LP}{ad:Int→Addr}{pf:Int→Option Int}(W:WebAt a H p hs ls dx oh ol d0 ad) (hd:H d=some (.dK (tabV (fun x=>opV (pf x)) us))) (wh:Hs hs) (x:Ext d H G):WebAt a G p hs ls dx oh ol d0 ad:=by
 have nt:∀ {b:Addr}{o:HO},H b=some o→(∀ kvs,o≠.dK kvs)→G b=some o:=fun {b o} e n=>x b o e fun z=>by rw[z,hd] at e;injection e with e;exact n _ e.symm
 have n0:d0≠d:=fun z=>by
  have e:=W.nr.d
  rw[z,hd] at e
  injection e with e
  injection e with e
  have l1:=wh.l1
  cases hs with
  |nil=>simp at l1
  |cons h hs =>
   cases us with
   |nil=>cases e
   |cons u us =>
    unfold tabV tab at e
    rw[List.map_cons,List.map_cons] at e
    injection e with e _
    injection e with _ e
    have e:opV (pf u)=V.ref (ad h):=e
    cases hp:pf u with
    |none=>rw[hp] at e;cases e
    |some y=>rw[hp] at e;cases e
 obtain⟨zs,o1,o2⟩:=W.ol
 exact⟨nt W.p (fun _ z=>by cases z),nt W.oh (fun _ z=>by cases z),⟨x _ _ W.nr.d n0,fun h hm=>nt (W.nr.nb h hm) (fun _ z=>by cases z)⟩,zs,nt o1 (fun _ z=>by cases z),o2.1,fun i r q h1 h2=>by
  obtain⟨t,e1,e2⟩:=o2.2 i r q h1 h2
  exact⟨t,e1,nt e2 (fun _ z=>by cases z)⟩⟩
def zki (a:Ad):Sp:=fun vs H Q _=>∃ (p d:Addr) (hs us:LI) (ls:LP) (pf:Int→Option Int),vs=[.ref p,.ref d]∧WbP a H p hs ls∧H d=some (.dK (tabV (fun x=>opV (pf x)) us))∧us.Nodup∧(∀ x,x∈us↔x∈hs)∧Cl us pf∧∀ (b:Bool) (H':Hp),(b=true↔∀ x∈us,∀ y,pf x=some y→adB ls x y=true)→Same H H'→Q (.bl b) H'
theorem zdT (T:Txt w K mg a):FnOk P w K mg base CX0 4 a.f_qc a.d_qc ["web", "parents"] (zki a):=by
 refine T.F_qc.ok sc_qc (fun vs H Q E h=>?_) (fun cdv A outer s H vs Q E hr h=>?_)
 ·obtain⟨p,d,hs,us,ls,pf,rfl,_⟩:=h
  rfl
 ·obtain⟨p,d,hs,us,ls,pf,rfl,WP,hd,nd,hm,C,k⟩:=h
  obtain⟨wdx,oh,ol,d0,ad,W⟩:=WP.at_
  have hlen:us.length=hs.length:=Nat.le_antisymm (yX nd fun x hx=>(hm x).mp hx) (yX (vd WP.wh) fun x hx=>(hm x).mpr hx)
  refine zM (w_pss_cons (zu (we (yg (zG (zy (zi zS (by rfl) T.n_isinstance zo (zd (zf 1) (zd (zR T.n_dict wB) za))))) (yb (zl u3 (zi vK (by rfl) T.n_len yu (zd (zf 1) za)) (zi zD (by rfl) T.n_len yu (zI (zK (zf 0)) za)) (zC _)))))
    (zb (zg zF))
    zk)
   (w_pss_cons (vi (zE PassesOwn.never rfl (xn (zf 1)) (zZ rfl (zp (zh (i:=2) sc_qc.nd rfl (Or.inl rfl)) (zp (zh (i:=3) sc_qc.nd rfl (Or.inl rfl)) zQ)))
    (w_pss_cons (zu (zG (zy (zx (zf 0) (zd (zf 2) za))))
     (zb (zg zF))
     zk)
    (zb (zu (we (yo (zl wZ (zf 3) yx (zC _)) (yd (zG (zy (zx (zf 0) (zd (zf 2) (zd (zf 3) za))))))))
     (zb (zg zF))
     zk)))))
   (zb (zg zF)))) ?_
  refine⟨_,rfl,_,_,_,_,_,rfl,rfl,.dK hd,T.k_tdict_tdict,_,rfl,iteN rfl ?_⟩
  refine⟨_,rfl,d,_,rfl,hd,?_⟩
  refine⟨_,rfl,p,_,wdx,_,_,_,_,_,_,rfl,W.p,rfl,T.cl_Web,T.mt_qS,wt (P:=P) (w:=w) T,hr.m,T.b_qS,p,hs,ls,wdx,oh,ol,d0,ad,rfl,W,fun l hl=>?_⟩
  have s1:=Same.new (o:=HO.lst (hs.map V.int)) hl
  have hl1:=upd_same (H:=H) (a:=l) (o:=HO.lst (hs.map V.int))
  generalize upd H l (HO.lst (hs.map V.int))=H1 at *
  refine⟨l,_,rfl,.inl (SqL.of hl1),rfl,_,rfl,iteN (by rw[tabV_len,List.length_map,hlen];simp) ?_⟩
  refine⟨_,rfl,d,_,rfl,s1 _ _ hd,fun od S=>?_⟩
  have hd1:=s1 _ _ hd
  have hz1:=upd_same (H:=H1) (a:=d) (o:=HO.frz od (HO.dK (tabV (fun x=>opV (pf x)) us)))
  have x1:Ext d H1 (upd H1 d (HO.frz od (HO.dK (tabV (fun x=>opV (pf x)) us)))):=Ext.at
  have W1:=(W.same s1).frz hd1 WP.wh x1
  generalize upd H1 d (HO.frz od (HO.dK (tabV (fun x=>opV (pf x)) us)))=G1 at *
  have back:∀ {G:Hp},Same G1 G→Same H (upd G d (HO.dK (tabV (fun x=>opV (pf x)) us))):=fun {G} sm b o e=>by
   by_cases z:b=d
   ·rw[z,hd] at e;cases e;rw[z];exact upd_same
   ·rw[upd_ne z];exact sm _ _ (x1 _ _ (s1 _ _ e) z)
  refine uL (yl:=yI) (d:=d) (od:=od) (kvs:=tabV (fun x=>opV (pf x)) us) (fun i σ H'=>∃ (o2 o3:Option V),σ=[some (.ref p),some (.ref d),o2,o3]∧Same G1 H'∧∀ x∈us.take i,∀ y,pf x=some y→adB ls x y=true) ?_ ?_ ?_ ?_
  ·exact⟨none,none,rfl,fun _ _ h=>h,fun x hx=>by simp at hx⟩
  ·rintro i σ H' ⟨o2,o3,_,sm,_⟩
   exact sm _ _ hz1
  ·rintro i kv u σ G G' hkv ⟨o2,o3,rfl,sm,gd⟩ hy
   obtain⟨x,hx,rfl⟩:∃ x,us[i]?=some x∧kv=(Sum.inl x,opV (pf x)):=by
    unfold tabV at hkv
    rw[List.getElem?_map] at hkv
    obtain⟨x,h1,h2⟩:=Option.map_eq_some_iff.mp hkv
    exact⟨x,h1,h2.symm⟩
   obtain⟨p0,hp0,rfl,rfl⟩:=Zk hy
   have hxu:=List.mem_of_getElem? hx
   have etk:us.take (i+1)=us.take i++[x]:=by rw[List.take_add_one,hx];rfl
   have gd2:(∀ y,pf x=some y→adB ls x y=true)→∀ u∈us.take (i+1),∀ y,pf u=some y→adB ls u y=true:=fun h u hu=>by
    rw[etk] at hu
    rcases List.mem_append.mp hu with e | e
    ·exact gd u e
    ·rw[List.mem_singleton.mp e];exact h
   have n1:=Same.new (o:=HO.tup [V.int x,opV (pf x)]) hp0
   refine⟨p0,_,rfl,SqT.of upd_same,rfl,_,_,rfl,_,_,rfl,rfl,?_⟩
   have sm2:=sm.trans n1
   generalize upd G p0 (HO.tup [V.int x,opV (pf x)])=G2 at *
   have W2:=W1.same sm2
   refine⟨_,rfl,p,_,wdx,_,_,_,_,_,_,rfl,W2.p,rfl,T.cl_Web,T.mt_qU,uE (P:=P) (w:=w) T,hr.m,T.b_qU,_,rfl,p,x,hs,ls,wdx,oh,ol,d0,ad,rfl,W2,(hm x).mp hxu,_,rfl,iteN rfl ?_⟩
   cases hpx:pf x with
   |none=>exact⟨_,rfl,rfl,_,rfl,iteN rfl ⟨_,_,rfl,sm2,gd2 fun y h=>by rw[hpx] at h;cases h⟩⟩
   |some y =>
    refine⟨_,rfl,rfl,_,rfl,xH ?_⟩
    refine⟨_,rfl,p,_,wdx,_,_,_,_,_,_,rfl,W2.p,rfl,T.cl_Web,T.mt_qV,UI (P:=P) (w:=w) T,hr.m,T.b_qV,_,rfl,_,rfl,p,x,y,hs,ls,wdx,oh,ol,d0,ad,rfl,W2,(hm x).mp hxu,(hm y).mp (C x hxu y hpx),_,rfl,?_⟩
    cases hb:adB ls x y with
    |true=>exact iteN rfl ⟨_,_,rfl,sm2,gd2 fun y' h=>by rw[hpx] at h;cases h;exact hb⟩
    |false =>
     refine xH ?_
     refine .inr ⟨d,od,_,S,sm2 _ _ hz1,k false _ ⟨fun z=>(nomatch z),fun h=>?_⟩ (back sm2)⟩
     rw[h x hxu y hpx] at hb
     cases hb
  ·rintro σ H' ⟨o2,o3,rfl,sm,gd⟩
   rw[tabV_len,List.take_length] at gd
   exact .inr ⟨d,od,_,S,sm _ _ hz1,k true _ ⟨fun _=>gd,fun _=>rfl⟩ (back sm)⟩
open L2.Sco (PT PsAt)
def zkd (a:Ad):Sp:=fun vs H Q _=>∃ (p q dx dp ob:Addr) (hs us:LI) (ls bs:LP) (pf:Int→Option Int),vs=[.ref p,.ref q]∧WbP a H p hs ls∧WayAt a H q pf us bs dx dp ob∧(∀ x,x∈us↔x∈hs)∧Cl us pf∧∀ (b:Bool) (H':Hp),(b=true↔∀ x∈us,∃ l,En pf x l)→Same H H'→Q (.bl b) H'
theorem zdO (T:Txt w K mg a):FnOk P w K mg base CX0 7 a.f_qd a.d_qd ["web", "way"] (zkd a):=by
 refine T.F_qd.ok sc_qd (fun vs H Q E h=>?_) (fun cdv A outer s H vs Q E hr h=>?_)
 ·obtain⟨p,q,dx,dp,ob,hs,us,ls,bs,pf,rfl,_⟩:=h
  rfl
 ·obtain⟨p,q,dx,dp,ob,hs,us,ls,bs,pf,rfl,WP,Y,hm,C,k⟩:=h
  obtain⟨wdx,oh,ol,d0,ad,W⟩:=WP.at_
  refine zM (w_pss_cons (zE PassesOwn.never rfl (zw (zK (zf 0))) (zh (i:=2) sc_qd.nd rfl (Or.inl rfl))
    (zb (zu (zl wZ (zx (zf 1) (zI (zx (zf 1) (zd (zf 2) za)) za)) yx (zC _))
     (zb (zg zF))
     zk)))
   (zb (zg zF))) ?_
  refine⟨_,rfl,p,_,wdx,_,_,_,_,_,_,rfl,W.p,rfl,T.cl_Web,T.mt_qS,wt (P:=P) (w:=w) T,hr.m,T.b_qS,p,hs,ls,wdx,oh,ol,d0,ad,rfl,W,fun l hl=>?_⟩
  have s1:=Same.new (o:=HO.lst (hs.map V.int)) hl
  have hl1:=upd_same (H:=H) (a:=l) (o:=HO.lst (hs.map V.int))
  generalize upd H l (HO.lst (hs.map V.int))=H1 at *
  refine⟨l,rfl,⟨_,SqL.of hl1⟩,?_⟩
  refine for_list (xs:=hs.map V.int) (fun i σ H'=>∃ (o2:Option V),σ=[some (.ref p),some (.ref q),o2]∧Same H1 H'∧∀ x∈hs.take i,∃ l,En pf x l) ?_ ?_ ?_ ?_
  ·exact⟨none,rfl,fun _ _ h=>h,fun x hx=>by simp at hx⟩
  ·rintro i σ H' hi ⟨o2,_,sm,_⟩
   exact SqL.of (sm _ _ hl1)
  ·rintro i v σ G hi ⟨o2,rfl,sm,gd⟩
   rw[List.getElem?_map] at hi
   obtain⟨x,hx,rfl⟩:=Option.map_eq_some_iff.mp hi
   have hxu:=(hm x).mpr (List.mem_of_getElem? hx)
   have etk:hs.take (i+1)=hs.take i++[x]:=by rw[List.take_add_one,hx];rfl
   have Y1:=(Y.same s1).same sm
   refine⟨_,rfl,q,_,dx,_,_,_,_,_,_,rfl,Y1.p,rfl,T.cl_Way,T.mt_qM,zdD (P:=P) (w:=w) T,hr.m,T.b_qM,_,rfl,q,_,dx,_,_,_,_,_,_,rfl,Y1.p,rfl,T.cl_Way,T.mt_qQ,XB (P:=P) (w:=w) T,hr.m,T.b_qQ,_,rfl,q,dx,dp,ob,pf,us,x,rfl,Y1.r,C,hxu,fun ys z G2 s2 hz hor=>?_⟩
   refine⟨q,dx,dp,ob,pf,us,bs,.int z,true,rfl,Y1.same s2,.int _,fun G3 s3=>?_⟩
   have e:poV us pf (.int z)=opV (pf z):=if_pos hz
   rw[e]
   rcases hor with⟨h1,h2⟩ | ⟨h1,h2⟩
   ·rw[h1]
    refine⟨rfl,_,rfl,iteN rfl ⟨_,rfl,sm.trans (s2.trans s3),fun u hu=>?_⟩⟩
    rw[etk] at hu
    rcases List.mem_append.mp hu with e | e
    ·exact gd u e
    ·rw[List.mem_singleton.mp e];exact⟨_,h2⟩
   ·cases hpz:pf z with
    |none=>exact absurd hpz h1
    |some y =>
     refine⟨rfl,_,rfl,xH ?_⟩
     exact k false _ ⟨fun z=>(nomatch z),fun h=>absurd (h x hxu) h2⟩ (s1.trans (sm.trans (s2.trans s3)))
  ·rintro σ G ⟨o2,rfl,sm,gd⟩
   rw[List.length_map,List.take_length] at gd
   exact k true _ ⟨fun _ x hx=>gd x ((hm x).mp hx),fun _=>rfl⟩ (s1.trans sm)
def BrL (ls bs:LP):Prop:=∀ b∈bs,adB ls b.1 b.2=true
def zkb (a:Ad):Sp:=fun vs H Q _=>∃ (p q t dx dp ob:Addr) (hs us:LI) (ls bs:LP) (pf:Int→Option Int) (pa:Int→LI) (x y:Int),vs=[.ref p,.ref q,.ref t]∧WbP a H p hs ls∧WayAt a H q pf us bs dx dp ob∧(∀ x,x∈us↔x∈hs)∧UpP us pf pa∧adB ls x y=true∧H t=some (.tup [.int x,.int y])∧∀ (b:Bool) (H':Hp),(b=true↔x≤y∧ldr pa x≠ldr pa y)→Same H H'→Q (.bl b) H'
theorem zdM (T:Txt w K mg a):FnOk P w K mg base CX0 4 a.f_qe a.d_qe ["web", "way", "bridge"] (zkb a):=by
 refine T.F_qe.ok zc6 (fun vs H Q E h=>?_) (fun cdv A outer s H vs Q E hr h=>?_)
 ·obtain⟨p,q,t,dx,dp,ob,hs,us,ls,bs,pf,pa,x,y,rfl,_⟩:=h
  rfl
 ·obtain⟨p,q,t,dx,dp,ob,hs,us,ls,bs,pf,pa,x,y,rfl,WP,Y,hm,U,hadj,ht,k⟩:=h
  obtain⟨wdx,oh,ol,d0,ad,W⟩:=WP.at_
  have hyh:=uQ WP.wl hadj
  have hxh:=uQ WP.wl (by rw[vh];exact hadj:adB ls y x=true)
  have hx:=(hm x).mpr hxh
  have hy:=(hm y).mpr hyh
  refine zM (w_pss_cons (zu (we (yg (zG (zy (zi zS (by rfl) T.n_isinstance zo (zd (zf 2) (zd (zR T.n_tuple xh) za))))) (yb (zl u3 (zi zD (by rfl) T.n_len yu (zd (zf 2) za)) ze (zC _)))))
    (zb (zg zF))
    zk)
   (w_pss_cons (zu (we (yg (zG (zy (zx (zf 0) (zn (zr yc (zf 2) ze (fun _ _=>rfl)) (zn (zr yc (zf 2) ze (fun _ _=>rfl)) za))))) (yb (zl u4 (zr yc (zf 2) ze (fun _ _=>rfl)) (zr yc (zf 2) ze (fun _ _=>rfl)) (zC _)))))
    (zb (zg zF))
    zk)
   (zb (zg (zW u3 (zx (zf 1) (zn (zr yc (zf 2) ze (fun _ _=>rfl)) za)) (zx (zf 1) (zn (zr yc (zf 2) ze (fun _ _=>rfl)) za)) (zC _)))))) ?_
  refine⟨_,rfl,_,_,_,_,_,rfl,rfl,.tup ht,T.k_ttuple_ttuple,_,rfl,iteN rfl ?_⟩
  refine⟨_,rfl,t,_,rfl,.inr (SqT.of ht),rfl,_,rfl,iteN rfl ?_⟩
  refine⟨_,rfl,p,_,wdx,_,_,_,_,_,_,rfl,W.p,rfl,T.cl_Web,T.mt_qV,UI (P:=P) (w:=w) T,hr.m,T.b_qV,_,rfl,t,_,0,_,rfl,rfl,SqT.of ht,rfl,_,rfl,t,_,1,_,rfl,rfl,SqT.of ht,rfl,p,x,y,hs,ls,wdx,oh,ol,d0,ad,rfl,W,hxh,hyh,_,rfl,iteN (by rw[hadj];rfl) ?_⟩
  by_cases c:x>y
  ·refine⟨_,rfl,t,_,0,_,rfl,rfl,SqT.of ht,rfl,_,rfl,t,_,1,_,rfl,rfl,SqT.of ht,rfl,_,_,rfl,rfl,_,rfl,iteB (by simp;omega) ?_⟩
   exact k false _ ⟨fun z=>(nomatch z),fun h=>by omega⟩ (fun _ _ h=>h)
  refine⟨_,rfl,t,_,0,_,rfl,rfl,SqT.of ht,rfl,_,rfl,t,_,1,_,rfl,rfl,SqT.of ht,rfl,_,_,rfl,rfl,_,rfl,iteN (by simp;omega) ?_⟩
  refine⟨_,rfl,q,_,dx,_,_,_,_,_,_,rfl,Y.p,rfl,T.cl_Way,T.mt_qQ,wD (P:=P) (w:=w) T,hr.m,T.b_qQ,_,rfl,t,_,0,_,rfl,rfl,SqT.of ht,rfl,q,dx,dp,ob,pf,pa,us,x,rfl,Y.r,U,hx,fun G2 s2=>?_⟩
  refine⟨_,rfl,q,_,dx,_,_,_,_,_,_,rfl,s2 _ _ Y.p,rfl,T.cl_Way,T.mt_qQ,wD (P:=P) (w:=w) T,hr.m,T.b_qQ,_,rfl,t,_,1,_,rfl,rfl,SqT.of (s2 _ _ ht),rfl,q,dx,dp,ob,pf,pa,us,y,rfl,(Y.same s2).r,U,hy,fun G3 s3=>?_⟩
  refine⟨rfl,?_⟩
  refine k _ _ ?_ (s2.trans s3)
  constructor
  ·intro z
   exact⟨by omega,fun e=>by rw[e] at z;simp at z⟩
  ·rintro⟨_,z⟩
   have e:decide (V.int (ldr pa x)=V.int (ldr pa y))=false:=decide_eq_false fun e=>z (by injection e)
   rw[e]
   rfl
def GdB (lf:Int→Int) (bs:LP):Prop:=(∀ b∈bs,b.1≤b.2∧lf b.1≠lf b.2)∧bs.Nodup
def zkh (a:Ad):Sp:=fun vs H Q _=>∃ (p q l dx dp ob:Addr) (hs us:LI) (ls bs:LP) (rs:List V) (pf:Int→Option Int) (pa:Int→LI),vs=[.ref p,.ref q,.ref l]∧WbP a H p hs ls∧WayAt a H q pf us bs dx dp ob∧(∀ x,x∈us↔x∈hs)∧UpP us pf pa∧BrL ls bs∧H l=some (.lst rs)∧LnAt H rs bs∧∀ (b:Bool) (H':Hp),(b=true↔GdB (ldr pa) bs)→Same H H'→Q (.bl b) H'
theorem zdS (T:Txt w K mg a):FnOk P w K mg base CX0 5 a.f_qf a.d_qf ["web", "way", "bridges"] (zkh a):=by
 have c_qe:Callee P w K mg base "is_bridge" a.f_qe a.d_qe ["web", "way", "bridge"] 4 (zkb a):=⟨zdM T,T.g_qe,T.F_qe.kp,T.b_qe⟩
 refine T.F_qf.ok sc_qf (fun vs H Q E h=>?_) (fun cdv A outer s H vs Q E hr h=>?_)
 ·obtain⟨p,q,l,dx,dp,ob,hs,us,ls,bs,rs,pf,pa,rfl,_⟩:=h
  rfl
 ·obtain⟨p,q,l,dx,dp,ob,hs,us,ls,bs,rs,pf,pa,rfl,WP,Y,hm,U,BL,hl,hrs,k⟩:=h
  have l66:=Y.l66
  have hu:=yQ hr
  refine zM (w_pss_cons (zu (zG (zy (zi zS (by rfl) T.n_isinstance zo (zd (zf 2) (zd (zR T.n_list bt_list) za)))))
    (zb (zg zF))
    zk)
   (w_pss_cons (w_ps_set (i:=3) sc_qf.nd rfl (Or.inl rfl) yk)
   (w_pss_cons (zE PassesOwn.never rfl (zw (zf 2)) (zh (i:=4) sc_qf.nd rfl (Or.inl rfl))
    (w_pss_cons (zu (we (yg (zG (zy (zm c_qe hr.m (zd (zf 0) (zd (zf 1) (zd (zf 4) za)))))) (yb (yM (xV hu (zf 4) (zf 3))))))
     (zb (zg zF))
     zk)
    (zb (yr hu (zf 3) (zf 4) zF rfl))))
   (zb (zg zF))))) ?_
  refine⟨_,rfl,_,_,_,_,_,rfl,rfl,.lst hl,T.k_tlist_tlist,_,rfl,iteN rfl ?_⟩
  refine fun d hd=>?_
  refine⟨_,rfl,l,rfl,⟨_,SqL.of (Same.new hd _ _ hl)⟩,?_⟩
  refine for_list (K:=K) (a:=l) (xs:=rs) (fun i σ H'=>∃ (kvs:List (List Key×V)) (o:Option V),σ=[some (.ref p),some (.ref q),some (.ref l),some (.ref d),o]∧H' d=some (.dT kvs)∧kvs.map (·.1)=(bs.take i).map yw∧Same H H'∧GdB (ldr pa) (bs.take i)) ?_ ?_ ?_ ?_
  ·exact⟨[],none,rfl,upd_same,by simp,Same.new hd,by simp[GdB]⟩
  ·rintro i σ H' _ ⟨kvs,o,_,_,_,sm,_⟩
   exact SqL.of (sm _ _ hl)
  ·rintro i x σ H' hi ⟨kvs,o,rfl,hd',hk,sm,gd⟩
   obtain⟨b,t,hp,rfl,ht⟩:=(hrs.same sm).get hi
   have hbm:b∈bs:=List.mem_of_getElem? hp
   have etk:bs.take (i+1)=bs.take i++[b]:=by rw[List.take_add_one,hp];rfl
   refine⟨_,rfl,_,rfl,_,rfl,p,q,t,dx,dp,ob,hs,us,ls,bs,pf,pa,b.1,b.2,rfl,WP.same sm,Y.same sm,hm,U,BL b hbm,ht,fun bb H2 hbb s2=>⟨_,rfl,?_⟩⟩
   cases hbc:bb with
   |false =>
    refine xH ?_
    refine k false _ ⟨fun z=>(nomatch z),fun h=>?_⟩ (sm.trans s2)
    have:=hbb.mpr (h.1 b hbm)
    rw[hbc] at this
    cases this
   |true =>
   refine iteN rfl ?_
   have hd2:=s2 _ _ hd'
   have ht2:=s2 _ _ ht
   by_cases hin:b∈bs.take i
   ·have hs':(yL kvs (yw b)).isSome=true:=by
     rw[← yE]
     have h1:yw b∈kvs.map (·.1):=by rw[hk];exact List.mem_map_of_mem hin
     obtain⟨kv,h2,h3⟩:=List.mem_map.mp h1
     exact List.any_eq_true.mpr ⟨kv,h2,decide_eq_true h3⟩
    refine⟨_,rfl,_,rfl,d,_,rfl,DGet.t (k:=yw b) hd2 ht2,_,rfl,iteB hs' ?_⟩
    exact k false _ ⟨fun z=>(nomatch z),fun h=>absurd hin (w6 h.2 hp)⟩ (sm.trans s2)
   have hnew:yw b∉kvs.map (·.1):=by
    rw[hk]
    intro z
    obtain⟨p',m',e'⟩:=List.mem_map.mp z
    rw[yP e'] at m'
    exact hin m'
   have hz:kvs.length≤1000:=by
    have:=congrArg List.length hk
    rw[List.length_map,List.length_map,List.length_take] at this
    omega
   refine⟨_,rfl,_,rfl,d,_,rfl,DGet.t (k:=yw b) hd2 ht2,_,rfl,iteN ?_ ?_⟩
   ·exact wT hnew
   ·refine⟨_,rfl,_,rfl,d,_,rfl,DPut.t (k:=yw b) hd2 ht2 (zj hz),?_⟩
    refine⟨_,_,rfl,upd_same,?_,(sm.trans s2).updF hd,?_⟩
    ·rw[putK_new hnew,List.map_append,hk,etk,List.map_append]
     rfl
    ·rw[etk]
     refine⟨fun c hc=>?_,?_⟩
     ·rcases List.mem_append.mp hc with e | e
      ·exact gd.1 c e
      ·rw[List.mem_singleton.mp e];exact hbb.mp hbc
     ·rw[List.nodup_append]
      exact⟨gd.2,by simp,fun u hu v hv e=>hin (by rw[List.mem_singleton.mp hv] at e;rw[← e];exact hu)⟩
  ·rintro σ H' ⟨kvs,o,_,_,_,sm,gd⟩
   rw[hrs.1,List.take_length] at gd
   exact k true H' ⟨fun _=>gd,fun _=>rfl⟩ sm
structure GrB (us:LI) (ls:LP) (pf:Int→Option Int) (bs:LP):Prop where
 ad:∀ x∈us,∀ y,pf x=some y→adB ls x y=true
 en:∀ x∈us,∃ l,En pf x l
 gd:GdB (ldr (paO pf)) bs
def zka (a:Ad):Sp:=fun vs H Q _=>∃ (p q dx dp ob:Addr) (hs us:LI) (ls bs:LP) (pf:Int→Option Int),vs=[.ref p,.ref q]∧WbP a H p hs ls∧WayAt a H q pf us bs dx dp ob∧(∀ x,x∈us↔x∈hs)∧Cl us pf∧BrL ls bs∧∀ (b:Bool) (H':Hp),(b=true↔GrB us ls pf bs)→Same H H'→Q (.bl b) H'
theorem zdL (T:Txt w K mg a):FnOk P w K mg base CX0 8 a.f_qg a.d_qg ["web", "way"] (zka a):=by
 have c_qc:Callee P w K mg base "are_parents" a.f_qc a.d_qc ["web", "parents"] 4 (zki a):=⟨zdT T,T.g_qc,T.F_qc.kp,T.b_qc⟩
 have c_qd:Callee P w K mg base "come_to_leaders" a.f_qd a.d_qd ["web", "way"] 7 (zkd a):=⟨zdO T,T.g_qd,T.F_qd.kp,T.b_qd⟩
 have c_qf:Callee P w K mg base "are_bridges" a.f_qf a.d_qf ["web", "way", "bridges"] 5 (zkh a):=⟨zdS T,T.g_qf,T.F_qf.kp,T.b_qf⟩
 refine T.F_qg.ok zc5 (fun vs H Q E h=>?_) (fun cdv A outer s H vs Q E hr h=>?_)
 ·obtain⟨p,q,dx,dp,ob,hs,us,ls,bs,pf,rfl,_⟩:=h
  rfl
 ·obtain⟨p,q,dx,dp,ob,hs,us,ls,bs,pf,rfl,WP,Y,hm,C,BL,k⟩:=h
  refine zM (w_pss_cons (zu (we (yg (zG (zy (zi zS (by rfl) T.n_isinstance zo (zd (zf 1) (zd (xw T.g_Way) za))))) (yb (zG (zy (zm c_qc hr.m (zd (zf 0) (zI (zK (zf 1)) za))))))))
    (zb (zg zF))
    zk)
   (zb (zg (yz (zm c_qd hr.m (zd (zf 0) (zd (zf 1) za))) (yp (zm c_qf hr.m (zd (zf 0) (zd (zf 1) (zI (zK (zf 1)) za))))))))) ?_
  refine⟨_,rfl,_,_,_,_,_,rfl,rfl,T.ty_Way H q dx _ Y.p,T.k_Way_Way,_,rfl,iteN rfl ?_⟩
  refine⟨_,rfl,_,rfl,q,_,dx,_,_,_,_,_,_,rfl,Y.p,rfl,T.cl_Way,T.mt_qN,UK (P:=P) (w:=w) T,hr.m,T.b_qN,q,dx,dp,ob,pf,us,bs,rfl,Y,fun d H1 hd hd1 s1=>?_⟩
  refine⟨p,d,hs,us,ls,pf,rfl,WP.same s1,hd1,Y.nd,hm,C,fun b1 H2 hb1 s2=>⟨_,rfl,?_⟩⟩
  have s02:=s1.trans s2
  cases hc1:b1 with
  |false=>exact xH (k false _ ⟨fun z=>(nomatch z),fun h=>by have:=hb1.mpr h.ad;rw[hc1] at this;cases this⟩ s02)
  |true =>
  refine iteN rfl ?_
  refine⟨_,rfl,_,rfl,p,q,dx,dp,ob,hs,us,ls,bs,pf,rfl,WP.same s02,Y.same s02,hm,C,fun b2 H3 hb2 s3=>⟨_,rfl,?_⟩⟩
  have s03:=s02.trans s3
  cases hc2:b2 with
  |false=>exact iteN rfl (k false _ ⟨fun z=>(nomatch z),fun h=>by have:=hb2.mpr h.en;rw[hc2] at this;cases this⟩ s03)
  |true =>
  refine xH ?_
  have en:=hb2.mp hc2
  refine⟨_,rfl,_,rfl,_,rfl,q,_,dx,_,_,_,_,_,_,rfl,s03 _ _ Y.p,rfl,T.cl_Way,T.mt_qO,ok_ab (P:=P) (w:=w) T,hr.m,T.b_qO,q,dx,dp,ob,pf,us,bs,rfl,Y.same s03,fun l rs H4 hl hl4 L4 s4=>?_⟩
  have s04:=s03.trans s4
  exact⟨p,q,l,dx,dp,ob,hs,us,ls,bs,rs,pf,paO pf,rfl,WP.same s04,Y.same s04,hm,UpP.of C en,BL,hl4,L4,fun b3 H5 hb3 s5=>k _ _ (hb3.trans ⟨fun h=>⟨hb1.mp hc1,en,h⟩,fun h=>h.gd⟩) (s04.trans s5)⟩
theorem uJ {lf:Int→Int}:∀ {ls:LP}{acc:List ((Int×Int)×(Int×Int))}{k:Int×Int},k∈(ls.foldl (jst lf) acc).map (·.1)↔k∈acc.map (·.1)∨∃ p∈ls,lf p.1≠lf p.2∧jk lf p=k
 |[],acc,k=>by simp
 |p::ls,acc,k=>by
  rw[List.foldl_cons,uJ (ls:=ls)]
  have hst:k∈(jst lf acc p).map (·.1)↔k∈acc.map (·.1)∨(lf p.1≠lf p.2∧jk lf p=k):=by
   unfold jst
   by_cases c:lf p.1=lf p.2
   ·rw[if_pos c]
    simp[c]
   ·rw[if_neg c]
    by_cases c2:jk lf p∈acc.map (·.1)
    ·rw[if_pos c2]
     constructor
     ·exact .inl
     ·rintro(h | ⟨_,h⟩)
      ·exact h
      ·rw[← h];exact c2
    ·rw[if_neg c2,List.map_append,List.mem_append]
     constructor
     ·rintro(h | h)
      ·exact .inl h
      ·exact .inr ⟨c,(List.mem_singleton.mp h).symm⟩
     ·rintro(h | ⟨_,h⟩)
      ·exact .inl h
      ·exact .inr (by rw[← h];simp)
  rw[hst]
  constructor
  ·rintro((h | h) | ⟨q,hq,h⟩)
   ·exact .inl h
   ·exact .inr ⟨p,List.mem_cons_self,h⟩
   ·exact .inr ⟨q,List.mem_cons_of_mem _ hq,h⟩
  ·rintro(h | ⟨q,hq,h⟩)
   ·exact .inl (.inl h)
   ·rcases List.mem_cons.mp hq with e | e
    ·rw[e] at h;exact .inl (.inr h)
    ·exact .inr ⟨q,e,h⟩
structure GG (us:LI) (ls:LP) (pf:Int→Option Int) (bs:LP):Prop where
 g:GrB us ls pf bs
 cov:∀ p∈ls,ldr (paO pf) p.1≠ldr (paO pf) p.2→∃ b∈bs,jk (ldr (paO pf)) b=jk (ldr (paO pf)) p
theorem xO:∀ {as bs:LP},as.Nodup→(∀ x∈as,x∈bs)→as.length≤bs.length
 |[],_,_,_=>Nat.zero_le _
 |a::as,bs,hn,hs=>by
  rw[List.nodup_cons] at hn
  have ha:=hs a List.mem_cons_self
  have ih:=xO (as:=as) (bs:=bs.erase a) hn.2 fun x hx=>by
   have ne:x≠a:=fun z=>hn.1 (by rw[← z];exact hx)
   exact(List.mem_erase_of_ne ne).mpr (hs x (List.mem_cons_of_mem _ hx))
  rw[List.length_erase_of_mem ha] at ih
  have:=List.length_pos_of_mem ha
  rw[List.length_cons];omega
theorem BrL.inl {hs:LI}{ls bs:LP}(B:BrL ls bs) (wl:Ls hs ls){b:Int×Int}(hb:b∈bs) (h:b.1≤b.2):b∈ls:=by
 have h1:=B b hb
 unfold adB at h1
 rw[Bool.or_eq_true,decide_eq_true_eq,decide_eq_true_eq] at h1
 rcases h1 with h1 | h1
 ·exact h1
 ·have:=(wl.ok _ h1).2.2
  dsimp only at this
  omega
def zj6 (a:Ad):Sp:=fun vs H Q _=>∃ (p q dx dp ob:Addr) (hs us:LI) (ls bs:LP) (pf:Int→Option Int),vs=[.ref p,.ref q]∧WbP a H p hs ls∧WayAt a H q pf us bs dx dp ob∧(∀ x,x∈us↔x∈hs)∧Cl us pf∧BrL ls bs∧∀ (b:Bool) (H':Hp),(b=true↔GG us ls pf bs)→Same H H'→Q (.bl b) H'
theorem zdH (T:Txt w K mg a):FnOk P w K mg base CX0 9 a.f_qi a.d_qi ["web", "way"] (zj6 a):=by
 have c_qg:Callee P w K mg base "is_grounded" a.f_qg a.d_qg ["web", "way"] 8 (zka a):=⟨zdL T,T.g_qg,T.F_qg.kp,T.b_qg⟩
 have c_qh:Callee P w K mg base "first_joins" a.f_qh a.d_qh ["way", "lines"] 3 (zcZ a):=⟨UJ T,T.g_qh,T.F_qh.kp,T.b_qh⟩
 refine T.F_qi.ok sc_qi (fun vs H Q E h=>?_) (fun cdv A outer s H vs Q E hr h=>?_)
 ·obtain⟨p,q,dx,dp,ob,hs,us,ls,bs,pf,rfl,_⟩:=h
  rfl
 ·obtain⟨p,q,dx,dp,ob,hs,us,ls,bs,pf,rfl,WP,Y,hm,C,BL,k⟩:=h
  have hu:=yQ hr
  refine zM (w_pss_cons (zu (zG (zy (zm c_qg hr.m (zd (zf 0) (zd (zf 1) za)))))
    (zb (zg zF))
    zk)
   (w_pss_cons (w_ps_set (i:=2) sc_qi.nd rfl (Or.inl rfl) (zm c_qh hr.m (zd (zf 1) (zI (zK (zf 1)) za))))
   (w_pss_cons (zE PassesOwn.never rfl (vS (zm c_qh hr.m (zd (zf 1) (zI (zK (zf 0)) za)))) (zh (i:=3) sc_qi.nd rfl (Or.inl rfl))
    (zb (zu (yM (yN hu (zf 3) (zf 2)))
     (zb (zg zF))
     zk)))
   (zb (zg zF))))) ?_
  refine⟨_,rfl,_,rfl,p,q,dx,dp,ob,hs,us,ls,bs,pf,rfl,WP,Y,hm,C,BL,fun b1 H1 hb1 s1=>⟨_,rfl,?_⟩⟩
  cases hc1:b1 with
  |false=>exact xH (k false _ ⟨fun z=>(nomatch z),fun h=>by have:=hb1.mpr h.g;rw[hc1] at this;cases this⟩ s1)
  |true =>
  refine iteN rfl ?_
  have g:=hb1.mp hc1
  have U:=UpP.of C g.en
  have inl:∀ b∈bs,b∈ls:=fun b hb=>BL.inl WP.wl hb (g.gd.1 b hb).1
  have l66:bs.length≤66:=Nat.le_trans (xO g.gd.2 inl) WP.wl.le
  have Y1:=Y.same s1
  refine⟨_,rfl,_,rfl,q,_,dx,_,_,_,_,_,_,rfl,Y1.p,rfl,T.cl_Way,T.mt_qO,ok_ab (P:=P) (w:=w) T,hr.m,T.b_qO,q,dx,dp,ob,pf,us,bs,rfl,Y1,fun l rs H2 hl hl2 L2' s2=>?_⟩
  have Y2:=Y1.same s2
  have Bb:Bd bs:=fun b hb=>(WP.wl.bd WP.wh) b (inl b hb)
  have bin:∀ b∈bs,b.1∈us∧b.2∈us:=fun b hb=>⟨(hm _).mpr (WP.wl.ok b (inl b hb)).1,(hm _).mpr (WP.wl.ok b (inl b hb)).2.1⟩
  refine⟨q,dx,dp,ob,l,pf,paO pf,us,bs,bs,rs,rfl,Y2,U,hl2,L2',Bb,l66,bin,fun jd js H3 hjd hj3 ej ps3 s3=>?_⟩
  have s03:=s1.trans (s2.trans s3)
  have Y3:=Y2.same s3
  obtain⟨wdx,oh,ol,d0,ad,W⟩:=(WP.same s03).at_
  refine⟨_,rfl,_,rfl,p,_,wdx,_,_,_,_,_,_,rfl,W.p,rfl,T.cl_Web,T.mt_qT,ZR (P:=P) (w:=w) T,hr.m,T.b_qT,p,hs,ls,wdx,oh,ol,d0,ad,rfl,W,fun lq zs hlq Lz=>?_⟩
  have s4:=Same.new (o:=HO.lst zs) hlq
  have hsm:∀ {x:Int×Int},x∈srt ls↔x∈ls:=fun {x}=>(zJ ls).mem_iff
  have hsl:(srt ls).length=ls.length:=(zJ ls).length_eq
  refine⟨q,dx,dp,ob,lq,pf,paO pf,us,bs,srt ls,zs,rfl,Y3.same s4,U,upd_same,Lz.same s4,fun x hx=>(WP.wl.bd WP.wh) x (hsm.mp hx),by rw[hsl];exact WP.wl.le,fun x hx=>⟨(hm _).mpr (WP.wl.ok x (hsm.mp hx)).1,(hm _).mpr (WP.wl.ok x (hsm.mp hx)).2.1⟩,fun kd ks H5 hkd hk5 ek ps5 s5=>?_⟩
  have s05:=s03.trans (s4.trans s5)
  have hj5:=s5 _ _ (s4 _ _ hj3)
  have nkj:jd≠kd:=fun z=>by rw[← z,s4 _ _ hj3] at hkd;cases hkd
  have fkd:H kd=none:=(s03.trans s4).free hkd
  have jK:∀ {k:Int×Int},k∈js.map (·.1)↔∃ b∈bs,jk (ldr (paO pf)) b=k:=fun {k}=>by
   have h1:js.map (·.1)=(jn (ldr (paO pf)) bs).map (·.1):=by
    rw[← ej]
    unfold tlJ
    rw[List.map_map]
    rfl
   rw[h1]
   unfold jn
   rw[uJ]
   constructor
   ·rintro(h | ⟨b,hb,_,e⟩)
    ·cases h
    ·exact⟨b,hb,e⟩
   ·rintro⟨b,hb,e⟩
    exact .inr ⟨b,hb,(g.gd.1 b hb).2,e⟩
  have kK:∀ {k:Int×Int},k∈ks.map (·.1)↔∃ p∈ls,ldr (paO pf) p.1≠ldr (paO pf) p.2∧jk (ldr (paO pf)) p=k:=fun {k}=>by
   have h1:ks.map (·.1)=(jn (ldr (paO pf)) (srt ls)).map (·.1):=by
    rw[← ek]
    unfold tlJ
    rw[List.map_map]
    rfl
   rw[h1]
   unfold jn
   rw[uJ]
   constructor
   ·rintro(h | ⟨b,hb,e⟩)
    ·cases h
    ·exact⟨b,hsm.mp hb,e⟩
   ·rintro⟨b,hb,e⟩
    exact .inr ⟨b,hsm.mpr hb,e⟩
  refine⟨kd,kvJ ks,rfl,hk5,fun od=>?_⟩
  have hz6:=upd_same (H:=H5) (a:=kd) (o:=HO.frz od (HO.dT (kvJ ks)))
  have hj6:(upd H5 kd (HO.frz od (HO.dT (kvJ ks)))) jd=some (.dT (kvJ js)):=(upd_ne nkj).trans hj5
  have s06:Same H (upd H5 kd (HO.frz od (HO.dT (kvJ ks)))):=Same.updF s05 fkd
  generalize upd H5 kd (HO.frz od (HO.dT (kvJ ks)))=H6 at *
  refine for_keysT (d:=kd) (od:=od) (kvs:=kvJ ks) (fun i σ H'=>∃ (o3:Option V),σ=[some (.ref p),some (.ref q),some (.ref jd),o3]∧H'=H6∧∀ j∈ks.take i,j.1∈js.map (·.1)) ?_ ?_ ?_ ?_
  ·exact⟨none,rfl,rfl,fun j hj=>by simp at hj⟩
  ·rintro i σ H' ⟨o3,_,rfl,_⟩
   exact hz6
  ·rintro i kv b σ H' hkv hb ⟨o3,rfl,rfl,gd⟩
   unfold kvJ at hkv
   rw[List.getElem?_map] at hkv
   obtain⟨jx,hjx,e⟩:=Option.map_eq_some_iff.mp hkv
   subst e
   have etk:ks.take (i+1)=ks.take i++[jx]:=by rw[List.take_add_one,hjx];rfl
   have key:=ZY (js:=js) (k:=jx.1)
   by_cases hin:jx.1∈js.map (·.1)
   ·rw[decide_eq_true hin] at key
    refine⟨_,rfl,_,rfl,jd,_,rfl,DGet.t (k:=[Sum.inl jx.1.1,Sum.inl jx.1.2]) hj6 hb,_,rfl,iteN (by rw[key];rfl) ⟨_,rfl,rfl,fun j hj=>?_⟩⟩
    rw[etk] at hj
    rcases List.mem_append.mp hj with e | e
    ·exact gd j e
    ·rw[List.mem_singleton.mp e];exact hin
   ·rw[decide_eq_false hin] at key
    refine⟨_,rfl,_,rfl,jd,_,rfl,DGet.t (k:=[Sum.inl jx.1.1,Sum.inl jx.1.2]) hj6 hb,_,rfl,iteB (by rw[key];rfl) ?_⟩
    refine k false _ ⟨fun z=>(nomatch z),fun h=>?_⟩ s06
    obtain⟨pp,hpp,h2,h3⟩:=kK.mp (List.mem_map.mpr ⟨jx,List.mem_of_getElem? hjx,rfl⟩)
    obtain⟨bb,hbb,h4⟩:=h.cov pp hpp h2
    exact absurd (jK.mpr ⟨bb,hbb,h4.trans h3⟩) hin
  ·rintro σ H' ⟨o3,rfl,rfl,gd⟩
   have hlk:(kvJ ks).length=ks.length:=by unfold kvJ;rw[List.length_map]
   rw[hlk,List.take_length] at gd
   refine k true _ ⟨fun _=>⟨g,fun pp hpp h2=>?_⟩,fun _=>rfl⟩ s06
   obtain⟨jx,h1,h3⟩:=List.mem_map.mp (kK.mpr ⟨pp,hpp,h2,rfl⟩)
   have h4:=gd jx h1
   rw[h3] at h4
   exact jK.mp h4
theorem LnAt.extX {H H':Hp}{l:Addr}{rs:List V}{ls:LP}(h:LnAt H rs ls) (x:XsAt H l) (y:Ext l H H'):LnAt H' rs ls:=⟨h.1,fun n r p a1 a2=>by
 obtain⟨qq,b1,b2⟩:=h.2 n r p a1 a2
 exact⟨qq,b1,y _ _ b2 fun z=>by
  obtain⟨ms,e',_⟩:=x
  rw[z,e'] at b2
  cases b2⟩⟩
theorem LnAt.updN {H:Hp}{p:Addr}{o:HO}{u:HO}{rs:List V}{ls:LP}(h:LnAt H rs ls) (hp:H p=some u) (hu:∀ xs,u≠.tup xs):LnAt (L2.upd H p o) rs ls:=⟨h.1,fun n r q a1 a2=>by
 obtain⟨qq,b1,b2⟩:=h.2 n r q a1 a2
 exact⟨qq,b1,by rw[upd_ne (fun z=>by rw[z,hp] at b2;injection b2 with b2;exact hu _ b2)];exact b2⟩⟩
structure Gd (hs:LI) (ls:LP) (pf:Int→Option Int) (pa:Int→LI) (us:LI) (bs:LP):Prop where
 U:UpP us pf pa
 m:∀ x,x∈us↔x∈hs
 ad:∀ x∈us,∀ y,pf x=some y→adB ls x y=true
 B:Brs hs bs
 inl:∀ b∈bs,b∈ls
 df:∀ b∈bs,ldr pa b.1≠ldr pa b.2
 cov:∀ p∈ls,ldr pa p.1≠ldr pa p.2→∃ b∈bs,jk (ldr pa) b=jk (ldr pa) p
def zcR:Sp:=fun vs H Q _=>∃ (d:Addr) (pf:Int→Option Int) (us:LI) (x:Int),vs=[.ref d,.int x]∧H d=some (.dK (tabV (fun x=>opV (pf x)) us))∧us.length≤12∧Cl us pf∧x∈us∧(∀ (l:Addr) (p:LI),En pf x p→H l=none→Q (.ref l) (upd H l (.lst (p.map V.int))))∧((¬∃ p,En pf x p)→∀ H',Same H H'→Q .non H')
theorem Xz (T:Txt w K mg a):FnOk P w K mg base CX0 1 a.f_qE a.d_qE ["_law_parents", "_law_hand"] zcR:=by
 refine T.F_qE.ok sc_qE (fun vs H Q E h=>?_) (fun cdv A outer s H vs Q E hr h=>?_)
 ·obtain⟨d,pf,us,x,rfl,_⟩:=h
  rfl
 ·obtain⟨d,pf,us,x,rfl,hd,l12,C,hx,k,k0⟩:=h
  have hu:=yQ hr
  refine zM (w_pss_cons (w_ps_set (i:=2) sc_qE.nd rfl (Or.inl rfl) (zA (zd (zf 1) za)))
   (w_pss_cons (yA PassesOwn.never (zl wZ (yH hu (zf 0) (zr zN (zf 2) (yj yJ ze) (fun _ _=>rfl)) (fun _ _=>rfl)) yx (zC _))
    (w_pss_cons (zu (zl u4 (zi zD (by rfl) T.n_len yu (zd (zf 2) za)) (zi vK (by rfl) T.n_len yu (zd (zf 0) za)) (zC _))
     (zb (zg yx))
     zk)
    (zb (zH (ya PySem.F.plainAttrs_list PySem.F.slot_list_append PySem.F.type_list_append zL (zf 2) (zn (yH hu (zf 0) (zr zN (zf 2) (yj yJ ze) (fun _ _=>rfl)) (fun _ _=>rfl)) za))))))
   (zb (zg (zf 2))))) ?_
  refine⟨_,rfl,(by show 1≤sizeLine;decide),fun l hl=>?_⟩
  have sm:∀ o,Same H (upd H l o):=fun o=>Same.new hl
  refine⟨fun m σ H'=>∃ (ys:LI) (z:Int),m+(ys++[z]).length=us.length+1∧σ=[some (.ref d),some (.int x),some (.ref l)]∧H'=upd H l (.lst ((ys++[z]).map V.int))∧z∈us∧Pre pf x ys z,⟨us.length,[],x,rfl,rfl,rfl,hx,Pre.z⟩,?_⟩
  rintro m σ H' ⟨ys,z,hm,rfl,rfl,hz,hp⟩
  have hlast:atI ((ys++[z]).map V.int) (-1)=some (V.int z):=by rw[List.map_append];exact at_last
  have e2:∀ y:Int,(ys++[z]++[y]).length=(ys++[z]).length+1:=fun y=>by simp
  refine⟨_,rfl,_,rfl,_,rfl,l,_,-1,_,rfl,rfl,SqL.of upd_same,hlast,d,_,rfl,xz ((sm _) _ _ hd) hz,?_⟩
  cases h1:pf z with
  |none =>
   refine⟨rfl,_,rfl,iteN rfl ?_⟩
   refine⟨_,rfl,?_⟩
   exact k l _ (hp.end_ h1) hl
  |some y =>
   refine⟨rfl,_,rfl,xH ?_⟩
   refine⟨_,fun σ' H' h=>h,?_⟩
   by_cases c:us.length<(ys++[z]).length
   ·refine⟨_,rfl,l,_,rfl,.inl (SqL.of upd_same),_,rfl,d,_,rfl,(sm _) _ _ hd,_,_,rfl,rfl,_,rfl,iteB (by rw[List.length_map,tabV_len];exact decide_eq_true (by omega)) ?_⟩
    exact k0 (hp.long C hx h1 (by omega)) _ (sm _)
   refine⟨_,rfl,l,_,rfl,.inl (SqL.of upd_same),_,rfl,d,_,rfl,(sm _) _ _ hd,_,_,rfl,rfl,_,rfl,iteN (by rw[List.length_map,tabV_len];exact decide_eq_false (by omega)) ?_⟩
   refine⟨_,rfl,.inl ⟨rfl,_,SqL.of upd_same⟩,_,rfl,_,rfl,_,rfl,l,_,-1,_,rfl,rfl,SqL.of upd_same,hlast,d,_,rfl,xz ((sm _) _ _ hd) hz,l,_,_,rfl,rfl,upd_same,(by rw[List.length_map];exact zj (by omega)),?_⟩
   rw[xJ,h1]
   refine⟨m-1,by omega,ys++[z],y,by have:=e2 y;omega,rfl,?_,C z hz y h1,hp.s h1⟩
   rw[List.map_append (l₂:=[y])]
   rfl
def zjY:Sp:=fun vs H Q _=>∃ (d:Addr) (pf:Int→Option Int) (pa:Int→LI) (us:LI) (x:Int),vs=[.ref d,.int x]∧H d=some (.dK (tabV (fun x=>opV (pf x)) us))∧us.length≤12∧UpP us pf pa∧x∈us∧∀ (l:Addr),H l=none→Q (.ref l) (upd H l (.lst ((pa x).map V.int)))
theorem zdw (T:Txt w K mg a):FnOk P w K mg base CX0 1 a.f_qE a.d_qE ["_law_parents", "_law_hand"] zjY:=(Xz T).imp fun vs H Q E h=>by
 obtain⟨d,pf,pa,us,x,rfl,hd,l12,U,hx,k⟩:=h
 exact⟨d,pf,us,x,rfl,hd,l12,U.cl,hx,fun l p hp hl=>by rw[hp.fn (U.en hx)];exact k l hl,fun h=>absurd ⟨_,U.en hx⟩ h⟩
def zke:Sp:=fun vs H Q _=>∃ (d:Addr) (pf:Int→Option Int) (pa:Int→LI) (us:LI) (x y:Int),vs=[.ref d,.int x,.int y]∧H d=some (.dK (tabV (fun x=>opV (pf x)) us))∧us.length≤12∧UpP us pf pa∧x∈us∧y∈us∧∀ (t:Addr) (H':Hp),H t=none→H' t=some (.tup [.int (jk (ldr pa) (x,y)).1,.int (jk (ldr pa) (x,y)).2])→Same H H'→Q (.ref t) H'
theorem zdP (T:Txt w K mg a):FnOk P w K mg base CX0 2 a.f_qF a.d_qF ["_law_parents", "_law_one", "_law_other"] zke:=by
 have c_qE:Callee P w K mg base "_law_up" a.f_qE a.d_qE ["_law_parents", "_law_hand"] 1 zjY:=⟨zdw T,T.g_qE,T.F_qE.kp,T.b_qE⟩
 refine T.F_qF.ok zdi (fun vs H Q E h=>?_) (fun cdv A outer s H vs Q E hr h=>?_)
 ·obtain⟨d,pf,pa,us,x,y,rfl,_⟩:=h
  rfl
 ·obtain⟨d,pf,pa,us,x,y,rfl,hd,l12,U,hx,hy,k⟩:=h
  have lst:∀ {z},z∈us→atI ((pa z).map V.int) (-1)=some (V.int (ldr pa z)):=fun {z} hz=>by
   obtain⟨⟨ys,e⟩,_⟩:=U.ld hz
   rw[e,List.map_append]
   exact at_last
  refine zM (zb (zg (zT yR (by rfl) T.n_tuple xh (zI (zi xg (by rfl) T.n_sorted yi (zn (zA (zn (zr zN (zm c_qE hr.m (zd (zf 0) (zd (zf 1) za))) (yj yJ ze) (fun _ _=>rfl)) (zn (zr zN (zm c_qE hr.m (zd (zf 0) (zd (zf 2) za))) (yj yJ ze) (fun _ _=>rfl)) za))) za)) za)))) ?_
  refine⟨_,rfl,_,rfl,d,pf,pa,us,x,rfl,hd,l12,U,hx,fun l1 hl1=>?_⟩
  have s1:=Same.new (o:=HO.lst ((pa x).map V.int)) hl1
  refine⟨_,rfl,l1,_,-1,_,rfl,rfl,SqL.of upd_same,lst hx,?_⟩
  generalize upd H l1 (HO.lst ((pa x).map V.int))=H1 at *
  refine⟨_,rfl,_,rfl,d,pf,pa,us,y,rfl,s1 _ _ hd,l12,U,hy,fun l2 hl2=>?_⟩
  have s2:=s1.trans (Same.new (o:=HO.lst ((pa y).map V.int)) hl2)
  refine⟨_,rfl,l2,_,-1,_,rfl,rfl,SqL.of upd_same,lst hy,?_⟩
  generalize upd H1 l2 (HO.lst ((pa y).map V.int))=H2 at *
  refine⟨(by show 2≤sizeLine;decide),fun pl hpl=>?_⟩
  have s3:=s2.trans (Same.new (o:=HO.lst [V.int (ldr pa x),V.int (ldr pa y)]) hpl)
  refine⟨pl,[ldr pa x,ldr pa y],rfl,SqL.of upd_same,(by show 2<64;decide),fun pm ms hpm pmm sd=>?_⟩
  rw[wJ pmm sd]
  have s4:=s3.trans (Same.new (o:=HO.lst ([min (ldr pa x) (ldr pa y),max (ldr pa x) (ldr pa y)].map V.int)) hpm)
  refine⟨pm,_,rfl,.inl ⟨SqL.of upd_same,fun pt hpt=>?_⟩⟩
  exact k pt _ (s4.free hpt) upd_same (s4.trans (Same.new hpt))
open L2.Sco (PT PsAt)
def rdW (pa:Int→LI) (h n:Int):LI:=pa n++(pa h).reverse.drop 1
def rdO (pa:Int→LI) (h n:Int) (b:Int×Int):LI:=rdW pa b.1 n++rdW pa h b.2
def dbl (ls:LP):LP:=ls.flatMap fun p=>[p,(p.2,p.1)]
theorem dbl_snoc {ls:LP}{p:Int×Int}:dbl (ls++[p])=dbl ls++[p]++[(p.2,p.1)]:=by
 unfold dbl
 rw[List.flatMap_append]
 simp
theorem mem_dbl {ls:LP}{q:Int×Int}:q∈dbl ls↔q∈ls∨(q.2,q.1)∈ls:=by
 unfold dbl
 rw[List.mem_flatMap]
 constructor
 ·rintro⟨p,hp,h⟩
  rcases List.mem_cons.mp h with e | e
  ·rw[e];exact .inl hp
  ·rw[List.mem_singleton.mp e];exact .inr hp
 ·rintro(h | h)
  ·exact⟨q,h,List.mem_cons_self⟩
  ·exact⟨_,h,by simp⟩
theorem xq:∀ {ls:LP},(dbl ls).length=2*ls.length
 |[]=>rfl
 |p::ls=>by
  have ih:=xq (ls:=ls)
  unfold dbl at ih ⊢
  rw[List.flatMap_cons,List.length_append,ih,List.length_cons,List.length_cons]
  simp
  omega
theorem zbm {rs:List V}(h:1≤rs.length):xF rs (some 1) none=rs.drop 1:=Vu (n:=1) h
theorem UpP.len {us:LI}{pf:Int→Option Int}{pa:Int→LI}(U:UpP us pf pa){x:Int}(hx:x∈us):1≤(pa x).length∧(pa x).length≤us.length:=by
 obtain⟨⟨ys,e⟩,_,_,h4,h5⟩:=U.ld hx
 exact⟨by rw[e];simp,yX h4 h5⟩
theorem wm {us:LI}{pf:Int→Option Int}{pa:Int→LI}(U:UpP us pf pa){h n:Int}(hh:h∈us) (hn:n∈us):(rdW pa h n).length≤2*us.length:=by
 have h1:=(U.len hh).2
 have h2:=(U.len hn).2
 unfold rdW
 rw[List.length_append,List.length_drop,List.length_reverse]
 omega
def zcU (a:Ad):Sp:=fun vs H Q _=>∃ (p dx dp ob:Addr) (pf:Int→Option Int) (pa:Int→LI) (us:LI) (x:Int),vs=[.ref p,.int x]∧WayR a H p pf us dx dp ob∧UpP us pf pa∧x∈us∧∀ (l:Addr),H l=none→Q (.ref l) (upd H l (.lst ((pa x).map V.int)))
theorem XA (T:Txt w K mg a):FnOk P w K mg base CX0 1 a.f_qP a.d_qP ["self", "hand"] (zcU a):=(UG T).imp fun vs H Q E h=>by
 obtain⟨p,dx,dp,ob,pf,pa,us,x,rfl,W,U,hx,k⟩:=h
 refine⟨p,dx,dp,ob,pf,us,x,rfl,W,U.cl,hx,fun l ys z hl hz hor=>?_⟩
 rcases hor with⟨_,h⟩ | ⟨_,h⟩
 ·rw[← (U.en hx).fn h]
  exact k l hl
 ·exact absurd ⟨_,U.en hx⟩ h
def zcS (a:Ad):Sp:=fun vs H Q _=>∃ (p dx dp ob:Addr) (pf:Int→Option Int) (pa:Int→LI) (us:LI) (h n:Int),vs=[.ref p,.int h,.int n]∧WayR a H p pf us dx dp ob∧UpP us pf pa∧h∈us∧n∈us∧∀ (l:Addr) (H':Hp),H l=none→H' l=some (.lst ((rdW pa h n).map V.int))→Same H H'→Q (.ref l) H'
theorem UE (T:Txt w K mg a):FnOk P w K mg base CX0 2 a.f_qn a.d_qn ["way", "hand", "neighbour"] (zcS a):=by
 refine T.F_qn.ok sc_qn (fun vs H Q E h=>?_) (fun cdv A outer s H vs Q E hr h=>?_)
 ·obtain⟨p,dx,dp,ob,pf,pa,us,h,n,rfl,_⟩:=h
  rfl
 ·obtain⟨p,dx,dp,ob,pf,pa,us,h,n,rfl,W,U,hh,hn,k⟩:=h
  have l12:=W.l12
  have lh:=U.len hh
  have ln:=U.len hn
  refine zM (w_pss_cons (w_ps_set (i:=3) sc_qn.nd rfl (Or.inl rfl) (vk rfl rfl T.n_list rfl T.n_reversed (zI (zx (zf 0) (zd (zf 1) za)) za)))
   (zb (zg (zq xk (zx (zf 0) (zd (zf 2) za)) (zV yC (zf 3) (w_po_some ze) yf))))) ?_
  refine⟨_,rfl,p,_,dx,_,_,_,_,_,_,rfl,W.p,rfl,T.cl_Way,T.mt_qP,XA (P:=P) (w:=w) T,hr.m,T.b_qP,_,rfl,p,dx,dp,ob,pf,pa,us,h,rfl,W,U,hh,fun l1 hl1=>?_⟩
  refine⟨l1,_,rfl,SqL.of upd_same,fun l2 hl2=>?_⟩
  have s2:=(Same.new (o:=HO.lst ((pa h).map V.int)) hl1).trans (Same.new (o:=HO.lst ((pa h).map V.int).reverse) hl2)
  have h2:=upd_same (H:=upd H l1 (HO.lst ((pa h).map V.int))) (a:=l2) (o:=HO.lst ((pa h).map V.int).reverse)
  generalize upd (upd H l1 (HO.lst ((pa h).map V.int))) l2 (HO.lst ((pa h).map V.int).reverse)=H2 at *
  have W2:=W.same s2
  refine⟨_,rfl,p,_,dx,_,_,_,_,_,_,rfl,W2.p,rfl,T.cl_Way,T.mt_qP,XA (P:=P) (w:=w) T,hr.m,T.b_qP,_,rfl,p,dx,dp,ob,pf,pa,us,n,rfl,W2,U,hn,fun l3 hl3=>?_⟩
  have s3:=Same.new (o:=HO.lst ((pa n).map V.int)) hl3
  have h3:=upd_same (H:=H2) (a:=l3) (o:=HO.lst ((pa n).map V.int))
  generalize upd H2 l3 (HO.lst ((pa n).map V.int))=H3 at *
  refine⟨_,rfl,_,rfl,l2,_,rfl,SqL.of (s3 _ _ h2),fun l4 hl4=>?_⟩
  rw[zbm (by simp;omega)]
  have s4:=Same.new (o:=HO.lst (((pa h).map V.int).reverse.drop 1)) hl4
  refine⟨l3,l4,_,_,rfl,rfl,s4 _ _ h3,upd_same,Nat.le_of_lt (zj (by rw[List.length_drop,List.length_reverse,List.length_map,List.length_map];omega)),fun l5 hl5=>?_⟩
  have s5:=(s2.trans s3).trans s4
  refine k l5 _ (s5.free hl5) ?_ (s5.trans (Same.new hl5))
  rw[upd_same]
  unfold rdW
  rw[List.map_append,List.map_drop,List.map_reverse]
def zj0 (a:Ad):Sp:=fun vs H Q _=>∃ (p dx dp ob t:Addr) (pf:Int→Option Int) (pa:Int→LI) (us:LI) (h n:Int) (b:Int×Int),vs=[.ref p,.int h,.int n,.ref t]∧WayR a H p pf us dx dp ob∧UpP us pf pa∧h∈us∧n∈us∧b.1∈us∧b.2∈us∧H t=some (.tup [.int b.1,.int b.2])∧∀ (l:Addr) (H':Hp),H l=none→H' l=some (.lst ((rdO pa h n b).map V.int))→Same H H'→Q (.ref l) H'
theorem zdz (T:Txt w K mg a):FnOk P w K mg base CX0 3 a.f_qo a.d_qo ["way", "hand", "neighbour", "bridge"] (zj0 a):=by
 have c_qn:Callee P w K mg base "road_within" a.f_qn a.d_qn ["way", "hand", "neighbour"] 2 (zcS a):=⟨UE T,T.g_qn,T.F_qn.kp,T.b_qn⟩
 refine T.F_qo.ok zc3 (fun vs H Q E h=>?_) (fun cdv A outer s H vs Q E hr h=>?_)
 ·obtain⟨p,dx,dp,ob,t,pf,pa,us,h,n,b,rfl,_⟩:=h
  rfl
 ·obtain⟨p,dx,dp,ob,t,pf,pa,us,h,n,b,rfl,W,U,hh,hn,hb1,hb2,ht,k⟩:=h
  have l12:=W.l12
  have n1:=wm U hb1 hn
  have n2:=wm U hh hb2
  refine zM (zb (zg (zq xk (zm c_qn hr.m (zd (zf 0) (zn (zr yc (zf 3) ze (fun _ _=>rfl)) (zd (zf 2) za)))) (zm c_qn hr.m (zd (zf 0) (zd (zf 1) (zn (zr yc (zf 3) ze (fun _ _=>rfl)) za))))))) ?_
  refine⟨_,rfl,_,rfl,t,_,0,_,rfl,rfl,SqT.of ht,rfl,_,rfl,p,dx,dp,ob,pf,pa,us,b.1,n,rfl,W,U,hb1,hn,fun l1 H1 hl1 h1 s1=>?_⟩
  refine⟨_,rfl,_,rfl,_,rfl,t,_,1,_,rfl,rfl,SqT.of (s1 _ _ ht),rfl,p,dx,dp,ob,pf,pa,us,h,b.2,rfl,W.same s1,U,hh,hb2,fun l2 H2 hl2 h2 s2=>?_⟩
  refine⟨l1,l2,_,_,rfl,rfl,s2 _ _ h1,h2,Nat.le_of_lt (zj (by rw[List.length_map,List.length_map];omega)),fun l3 hl3=>?_⟩
  have s12:=s1.trans s2
  refine k l3 _ (s12.free hl3) ?_ (s12.trans (Same.new hl3))
  rw[upd_same]
  unfold rdO
  rw[List.map_append]
open L2.Sco (PT PsAt)
def kvB (js:List ((Int×Int)×Addr)):List (List Key×V):=js.map fun j=>(yw j.1,V.ref j.2)
def sel (lf:Int→Int) (k:Int×Int) (ds:LP):LP:=ds.filter fun p=>decide ((lf p.1,lf p.2)=k)
structure BR (H:Hp) (d:Addr) (lf:Int→Int) (ds:LP) (js:List ((Int×Int)×Addr)):Prop where
 dd:H d=some (.dT (kvB js))
 nd:(js.map (·.1)).Nodup
 rows:∀ j∈js,∃ rs,H j.2=some (.lst rs)∧LnAt H rs (sel lf j.1 ds)
 no:∀ k,k∉js.map (·.1)→sel lf k ds=[]
structure BB (G H:Hp) (d:Addr) (lf:Int→Int) (ds:LP) (js:List ((Int×Int)×Addr)):Prop extends BR H d lf ds js where
 sm:Ext d G H
 fr:∀ j∈js,G j.2=none
 nda:(js.map (·.2)).Nodup
theorem BR.same {H H':Hp}{d:Addr}{lf:Int→Int}{ds:LP}{js:List ((Int×Int)×Addr)}(b:BR H d lf ds js) (s:Same H H'):BR H' d lf ds js :=
 ⟨s _ _ b.dd,b.nd,fun j hj=>let ⟨rs,h1,h2⟩:=b.rows j hj;⟨rs,s _ _ h1,h2.same s⟩,b.no⟩
theorem BB.same {G H H':Hp}{d:Addr}{lf:Int→Int}{ds:LP}{js:List ((Int×Int)×Addr)}(b:BB G H d lf ds js) (s:Same H H'):BB G H' d lf ds js :=
 ⟨b.toBR.same s,b.sm.trans (Ext.same s),b.fr,b.nda⟩
theorem XG {α β:Type}{f:α→β}:∀ {xs:List α},(xs.map f).Nodup→∀ {u v},u∈xs→v∈xs→f u=f v→u=v:=by
 intro xs
 induction xs with
 |nil=>intro _ u v hu;cases hu
 |cons x xs ih =>
  intro hn u v hu hv e
  rw[List.map_cons,List.nodup_cons] at hn
  rcases List.mem_cons.mp hu with a1 | a1<;>rcases List.mem_cons.mp hv with a2 | a2
  ·rw[a1,a2]
  ·exact absurd (List.mem_map.mpr ⟨v,a2,by rw[← e,a1]⟩) hn.1
  ·exact absurd (List.mem_map.mpr ⟨u,a1,by rw[e,a2]⟩) hn.1
  ·exact ih hn.2 a1 a2 e
theorem kvB_keys {js:List ((Int×Int)×Addr)}{k:Int×Int}:yw k∈(kvB js).map (·.1)↔k∈js.map (·.1):=by
 unfold kvB
 rw[List.map_map]
 constructor
 ·intro h
  obtain⟨j,hj,e⟩:=List.mem_map.mp h
  exact List.mem_map.mpr ⟨j,hj,yP e⟩
 ·intro h
  obtain⟨j,hj,e⟩:=List.mem_map.mp h
  exact List.mem_map.mpr ⟨j,hj,by rw[← e];rfl⟩
theorem XC {js:List ((Int×Int)×Addr)}{k:Int×Int}{v:V}(h:yL (kvB js) (yw k)=some v):∃ l,v=.ref l∧(k,l)∈js:=by
 unfold yL at h
 obtain⟨kv,h1,rfl⟩:=Option.map_eq_some_iff.mp h
 have h2:=List.find?_some h1
 obtain⟨j,hj,e⟩:=List.mem_map.mp (List.mem_of_find?_eq_some h1)
 subst e
 have e:j.1=k:=yP (of_decide_eq_true h2)
 exact⟨j.2,rfl,by rw[← e];exact hj⟩
theorem BB.put {G H:Hp}{d e:Addr}{lf:Int→Int}{ds:LP}{js:List ((Int×Int)×Addr)}(b:BB G H d lf ds js){k:Int×Int}(he:H e=some (.lst [])) (hne:∀ j∈js,j.2≠e) (hge:G e=none) (hn:yL (kvB js) (yw k)=none):BB G (upd H d (.dT (putK (kvB js) (yw k) (.ref e)))) d lf ds (js++[(k,e)]):=by
 have hk:k∉js.map (·.1):=fun z=>uo hn (kvB_keys.mpr z)
 have ned:e≠d:=fun z=>by rw[z,b.dd] at he;cases he
 refine⟨⟨?_,?_,fun j hj=>?_,fun k' hk'=>b.no k' fun z=>hk' (by rw[List.map_append];exact List.mem_append.mpr (.inl z))⟩,b.sm.trans Ext.at,fun j hj=>?_,?_⟩
 ·rw[upd_same,L2.putK_new _ hn]
  unfold kvB
  rw[List.map_append]
  rfl
 ·rw[List.map_append,List.nodup_append]
  exact⟨b.nd,by simp,fun u hu v hv e=>hk (by rw[List.map_cons,List.map_nil] at hv;rw[List.mem_singleton.mp hv] at e;have e:u=k:=e;rw[← e];exact hu)⟩
 ·rcases List.mem_append.mp hj with z | z
  ·obtain⟨rs,h1,h2⟩:=b.rows j z
   exact⟨rs,by rw[upd_ne (fun q=>by rw[q,b.dd] at h1;cases h1)];exact h1,h2.updN b.dd (fun xs q=>by cases q)⟩
  ·rw[List.mem_singleton.mp z]
   refine⟨[],by rw[upd_ne ned];exact he,?_⟩
   rw[b.no k hk]
   exact⟨rfl,fun n r p a1=>by simp at a1⟩
 ·rcases List.mem_append.mp hj with z | z
  ·exact b.fr j z
  ·rw[List.mem_singleton.mp z];exact hge
 ·rw[List.map_append,List.nodup_append]
  refine⟨b.nda,by simp,fun u hu v hv ee=>?_⟩
  obtain⟨j,hj,rfl⟩:=List.mem_map.mp hu
  rw[List.map_cons,List.map_nil] at hv
  rw[List.mem_singleton.mp hv] at ee
  exact hne j hj ee
theorem BB.app {G H:Hp}{d l t:Addr}{lf:Int→Int}{ds:LP}{js:List ((Int×Int)×Addr)}(b:BB G H d lf ds js){p:Int×Int}(hj:((lf p.1,lf p.2),l)∈js){rs:List V}(hl:H l=some (.lst rs)) (ht:H t=some (.tup [.int p.1,.int p.2])):BB G (upd H l (.lst (rs++[.ref t]))) d lf (ds++[p]) js:=by
 have hsel:∀ k,sel lf k (ds++[p])=if (lf p.1,lf p.2)=k then sel lf k ds++[p] else sel lf k ds:=fun k=>by
  unfold sel
  rw[List.filter_append]
  by_cases c:(lf p.1,lf p.2)=k
  ·rw[if_pos c,List.filter_cons_of_pos (by simpa using c)]
   rfl
  ·rw[if_neg c,List.filter_cons_of_neg (by simpa using c)]
   simp
 refine⟨⟨?_,b.nd,fun j hjm=>?_,fun k hk=>?_⟩,fun c o e n=>?_,b.fr,b.nda⟩
 ·rw[upd_ne (fun z=>by rw[← z,b.dd] at hl;cases hl)]
  exact b.dd
 ·obtain⟨rs',h1,h2⟩:=b.rows j hjm
  rw[hsel]
  by_cases c:j.2=l
  ·have ej:j=((lf p.1,lf p.2),l):=XG b.nda hjm hj c
   rw[ej] at h1 h2 ⊢
   rw[hl] at h1
   cases h1
   rw[if_pos rfl]
   exact⟨_,upd_same,(h2.snoc ht).updN hl (fun xs q=>by cases q)⟩
  ·have hk:(lf p.1,lf p.2)≠j.1:=fun z=>c (by rw[← XG b.nd hj hjm z])
   rw[if_neg hk]
   exact⟨rs',by rw[upd_ne c];exact h1,h2.updN hl (fun xs q=>by cases q)⟩
 ·rw[hsel,if_neg (fun z=>hk (by rw[← z];exact List.mem_map.mpr ⟨_,hj,rfl⟩))]
  exact b.no k hk
 ·rw[upd_ne (ne_of_none e (b.fr _ hj))]
  exact b.sm c o e n
theorem BB.set {G H:Hp}{d e kt:Addr}{lf:Int→Int}{ds:LP}{js:List ((Int×Int)×Addr)}{k:Int×Int}{Q:V→Hp→Prop}(b:BB G H d lf ds js) (he:H e=some (.lst [])) (hne:∀ j∈js,j.2≠e) (hge:G e=none) (ht:H kt=some (.tup [.int k.1,.int k.2])) (hz:js.length≤1000)
  (hJ:∀ (l:Addr) (H':Hp) (js':List ((Int×Int)×Addr)),BB G H' d lf ds js'→(k,l)∈js'→js'.length≤js.length+1→Ext d H H'→Q (.ref l) H'):zgD H d (.ref kt) (.ref e) Q:=by
 refine .inr ⟨kvB js,yw k,kt,b.dd,rfl,ht,by unfold kvB;rw[List.length_map];exact zj hz,fun u hu=>?_,fun hn=>?_⟩
 ·obtain⟨l,rfl,hl⟩:=XC hu
  exact hJ l H js b hl (by omega) (Ext.same fun _ _ h=>h)
 ·exact hJ e _ (js++[(k,e)]) (b.put he hne hge hn) (by simp) (by simp) Ext.at
def zkf (a:Ad):Sp:=fun vs H Q _=>∃ (p dx dp ob:Addr) (pf:Int→Option Int) (pa:Int→LI) (us:LI) (bs:LP),vs=[.ref p]∧WayAt a H p pf us bs dx dp ob∧UpP us pf pa∧Bd bs∧bs.length≤63∧(∀ q∈bs,q.1∈us∧q.2∈us) ∧
 ∀ (d:Addr) (js:List ((Int×Int)×Addr)) (H':Hp),H d=none→BR H' d (ldr pa) (dbl (srt bs)) js→js.length≤132→Same H H'→Q (.ref d) H'
theorem zdQ (T:Txt w K mg a):FnOk P w K mg base CX0 7 a.f_qp a.d_qp ["way"] (zkf a):=by
 refine T.F_qp.ok sc_qp (fun vs H Q E h=>?_) (fun cdv A outer s H vs Q E hr h=>?_)
 ·obtain⟨p,dx,dp,ob,pf,pa,us,bs,rfl,_⟩:=h
  rfl
 ·obtain⟨p,dx,dp,ob,pf,pa,us,bs,rfl,W,U,B,l66,hin,k⟩:=h
  have hu:=yQ hr
  refine zM (w_pss_cons (w_ps_set (i:=1) sc_qp.nd rfl (Or.inl rfl) yk)
   (w_pss_cons (zE PassesOwn.never rfl (zw (zi Sco.call_sortX (by rfl) T.n_sorted yi (zI (zK (zf 0)) za))) (zZ rfl (zp (zh (i:=2) sc_qp.nd rfl (Or.inl rfl)) (zp (zh (i:=3) sc_qp.nd rfl (Or.inl rfl)) zQ)))
    (w_pss_cons (zH (ya PySem.F.plainAttrs_list PySem.F.slot_list_append PySem.F.type_list_append zL (xv hu (zf 1) (zP (zI (zx (zf 0) (zd (zf 2) za)) (zI (zx (zf 0) (zd (zf 3) za)) za))) (zA za) ⟨rfl,rfl,rfl,rfl⟩) (xM (zP (zd (zf 2) (zd (zf 3) za))) za)))
    (zb (zH (ya PySem.F.plainAttrs_list PySem.F.slot_list_append PySem.F.type_list_append zL (xv hu (zf 1) (zP (zI (zx (zf 0) (zd (zf 3) za)) (zI (zx (zf 0) (zd (zf 2) za)) za))) (zA za) ⟨rfl,rfl,rfl,rfl⟩) (xM (zP (zd (zf 3) (zd (zf 2) za))) za))))))
   (zb (zg (zf 1))))) ?_
  refine fun d hd=>?_
  have s0:=Same.new (o:=HO.dT []) hd
  have h0:=upd_same (H:=H) (a:=d) (o:=HO.dT [])
  generalize upd H d (HO.dT [])=H0 at *
  refine⟨_,rfl,p,_,dx,_,_,_,_,_,_,rfl,s0 _ _ W.p,rfl,T.cl_Way,T.mt_qO,ok_ab (P:=P) (w:=w) T,hr.m,T.b_qO,p,dx,dp,ob,pf,us,bs,rfl,W.same s0,fun l rs H1 hl hl1 L1 s1=>?_⟩
  obtain⟨ps,e1,e2,e3⟩:=L1.ps B
  have lps:ps.length≤63:=by rw[← e2,List.length_map] at l66;exact l66
  refine⟨l,ps,rfl,by rw[e1];exact SqL.of hl1,lps,e3,fun sl qs hsl pm up=>?_⟩
  have Ls:=wV e3 pm up
  rw[e2] at Ls
  have s2:=Same.new (o:=HO.lst (qs.map fun p=>V.ref p.1)) hsl
  have hs2:=upd_same (H:=H1) (a:=sl) (o:=HO.lst (qs.map fun p=>V.ref p.1))
  generalize upd H1 sl (HO.lst (qs.map fun p=>V.ref p.1))=H2 at *
  generalize hrq:qs.map (fun p=>V.ref p.1)=rq at *
  have s02:=s0.trans (s1.trans s2)
  have hsm:∀ {x:Int×Int},x∈srt bs↔x∈bs:=fun {x}=>(zJ bs).mem_iff
  have lsl:(srt bs).length≤66:=by rw[(zJ bs).length_eq];omega
  have lr:=Ls.1
  have Ls2:=Ls.same s2
  generalize srt bs=sb at *
  refine⟨sl,rfl,⟨_,SqL.of hs2⟩,?_⟩
  generalize hlf:ldr pa=lf at *
  have hd2:=(s1.trans s2) _ _ h0
  have nsd:sl≠d:=fun z=>by rw[z,hd2] at hs2;cases hs2
  refine for_list (xs:=rq) (fun i σ H'=>∃ (js:List ((Int×Int)×Addr)) (o2 o3:Option V),σ=[some (.ref p),some (.ref d),o2,o3]∧BB H2 H' d lf (dbl (sb.take i)) js∧js.length≤2*i) ?_ ?_ ?_ ?_
  ·exact⟨[],none,none,rfl,⟨⟨hd2,List.nodup_nil,(fun j hj=>(nomatch hj)),fun k _=>rfl⟩,Ext.same fun _ _ h=>h,(fun j hj=>(nomatch hj)),List.nodup_nil⟩,by simp⟩
  ·rintro i σ H' hi ⟨js,o2,o3,_,b,_⟩
   exact SqL.of (b.sm _ _ hs2 nsd)
  ·rintro i v σ H3 hi ⟨js,o2,o3,rfl,b,ljs⟩
   obtain⟨⟨x,y⟩,q,hp,rfl,hq⟩:=Ls2.get hi
   have hpm:=hin _ (hsm.mp (List.mem_of_getElem? hp))
   have hi66:i<66:=by
    have:=(List.getElem?_eq_some_iff.mp hp).1
    omega
   obtain⟨hx,hy⟩:=hpm
   dsimp only at hx hy hq
   have W3:∀ {H':Hp},Ext d H2 H'→WayR a H' p pf us dx dp ob:=fun {H'} x=>by
    have W2:=W.same s02
    refine⟨x _ _ W2.p fun z=>?_,.inl (x _ _ W2.dp fun z=>?_),W2.l12⟩
    ·have:=W.p;rw[z,hd] at this;cases this
    ·have:=W.dp;rw[z,hd] at this;cases this
   have nqd:q≠d:=fun z=>by rw[z,hd2] at hq;cases hq
   refine⟨q,_,rfl,SqT.of (b.sm _ _ hq nqd),rfl,_,_,rfl,_,_,rfl,rfl,?_⟩
   have etk:sb.take (i+1)=sb.take i++[(x,y)]:=by rw[List.take_add_one,hp];rfl
   have zt:(dbl (sb.take i)).length≤2*i:=by rw[xq,List.length_take];omega
   refine⟨_,rfl,d,rfl,.inr ⟨_,.inl b.dd⟩,?_⟩
   refine⟨_,rfl,p,_,dx,_,_,_,_,_,_,rfl,(W3 b.sm).p,rfl,T.cl_Way,T.mt_qQ,wD (P:=P) (w:=w) T,hr.m,T.b_qQ,_,rfl,p,dx,dp,ob,pf,pa,us,x,rfl,W3 b.sm,U,hx,fun H4 s4=>?_⟩
   have b4:=b.same s4
   refine⟨_,rfl,p,_,dx,_,_,_,_,_,_,rfl,(W3 b4.sm).p,rfl,T.cl_Way,T.mt_qQ,wD (P:=P) (w:=w) T,hr.m,T.b_qQ,_,rfl,p,dx,dp,ob,pf,pa,us,y,rfl,W3 b4.sm,U,hy,fun H5 s5=>?_⟩
   have b5:=b4.same s5
   rw[hlf]
   refine⟨(by show 2≤sizeLine;decide),fun kt hkt=>?_⟩
   refine⟨(by show 0≤sizeLine;decide),fun e he=>?_⟩
   have sk:=Same.new (o:=HO.tup [V.int (lf x),V.int (lf y)]) hkt
   have hk6:=upd_same (H:=H5) (a:=kt) (o:=HO.tup [V.int (lf x),V.int (lf y)])
   have b6:=b5.same sk
   generalize upd H5 kt (HO.tup [V.int (lf x),V.int (lf y)])=H6 at *
   have se:=Same.new (o:=HO.lst []) he
   have he7:=upd_same (H:=H6) (a:=e) (o:=HO.lst [])
   have b7:=b6.same se
   have ned:e≠d:=fun z=>by rw[z,b6.dd] at he;cases he
   have hne:∀ j∈js,j.2≠e:=fun j hj z=>by
    obtain⟨rs,h1,_⟩:=b6.rows j hj
    rw[z,he] at h1
    cases h1
   have hk7:=se _ _ hk6
   have hge:=b6.sm.free ned he
   generalize upd H6 e (HO.lst [])=H7 at *
   refine b7.set (k:=(lf x,lf y)) he7 hne hge hk7 (by omega) fun l H8 js1 b8 hl8 n8 x8=>?_
   obtain⟨rs8,hr8,L8⟩:=b8.rows _ hl8
   have z8:=L8.1
   have z9:=List.length_filter_le (fun p:Int×Int=>decide ((lf p.1,lf p.2)=(lf x,lf y))) (dbl (sb.take i))
   refine⟨.inl ⟨rfl,_,SqL.of hr8⟩,?_⟩
   refine⟨_,rfl,_,rfl,(by show 2≤sizeLine;decide),fun t ht=>?_⟩
   have s9:=Same.new (o:=HO.tup [V.int x,V.int y]) ht
   have b9:=b8.same s9
   refine⟨l,_,_,rfl,rfl,s9 _ _ hr8,zj (by unfold sel at z8;dsimp only at z8;omega),?_⟩
   have b10:=b9.app (p:=(x,y)) hl8 (s9 _ _ hr8) upd_same
   generalize upd (upd H8 t (HO.tup [V.int x,V.int y])) l (HO.lst (rs8++[V.ref t]))=H10 at *
   refine⟨_,rfl,d,rfl,.inr ⟨_,.inl b10.dd⟩,?_⟩
   refine⟨_,rfl,p,_,dx,_,_,_,_,_,_,rfl,(W3 b10.sm).p,rfl,T.cl_Way,T.mt_qQ,wD (P:=P) (w:=w) T,hr.m,T.b_qQ,_,rfl,p,dx,dp,ob,pf,pa,us,y,rfl,W3 b10.sm,U,hy,fun H4' s4'=>?_⟩
   have b4':=b10.same s4'
   refine⟨_,rfl,p,_,dx,_,_,_,_,_,_,rfl,(W3 b4'.sm).p,rfl,T.cl_Way,T.mt_qQ,wD (P:=P) (w:=w) T,hr.m,T.b_qQ,_,rfl,p,dx,dp,ob,pf,pa,us,x,rfl,W3 b4'.sm,U,hx,fun H5' s5'=>?_⟩
   have b5':=b4'.same s5'
   rw[hlf]
   refine⟨(by show 2≤sizeLine;decide),fun kt' hkt'=>?_⟩
   refine⟨(by show 0≤sizeLine;decide),fun e' he'=>?_⟩
   have sk':=Same.new (o:=HO.tup [V.int (lf y),V.int (lf x)]) hkt'
   have hk6':=upd_same (H:=H5') (a:=kt') (o:=HO.tup [V.int (lf y),V.int (lf x)])
   have b6':=b5'.same sk'
   generalize upd H5' kt' (HO.tup [V.int (lf y),V.int (lf x)])=H6' at *
   have se':=Same.new (o:=HO.lst []) he'
   have he7':=upd_same (H:=H6') (a:=e') (o:=HO.lst [])
   have b7':=b6'.same se'
   have ned':e'≠d:=fun z=>by rw[z,b6'.dd] at he';cases he'
   have hne':∀ j∈js1,j.2≠e':=fun j hj z=>by
    obtain⟨rs,h1,_⟩:=b6'.rows j hj
    rw[z,he'] at h1
    cases h1
   have hk7':=se' _ _ hk6'
   have hge':=b6'.sm.free ned' he'
   generalize upd H6' e' (HO.lst [])=H7' at *
   refine b7'.set (k:=(lf y,lf x)) he7' hne' hge' hk7' (by omega) fun l' H8' js' b8' hl8' n8' x8'=>?_
   obtain⟨rs8',hr8',L8'⟩:=b8'.rows _ hl8'
   have z8':=L8'.1
   have z9':=List.length_filter_le (fun p:Int×Int=>decide ((lf p.1,lf p.2)=(lf y,lf x))) (dbl (sb.take i)++[(x,y)])
   refine⟨.inl ⟨rfl,_,SqL.of hr8'⟩,?_⟩
   refine⟨_,rfl,_,rfl,(by show 2≤sizeLine;decide),fun t' ht'=>?_⟩
   have s9':=Same.new (o:=HO.tup [V.int y,V.int x]) ht'
   have b9':=b8'.same s9'
   refine⟨l',_,_,rfl,rfl,s9' _ _ hr8',zj (by unfold sel at z8';dsimp only at z8';rw[List.length_append,List.length_singleton] at z9';omega),?_⟩
   have b10':=b9'.app (p:=(y,x)) hl8' (s9' _ _ hr8') upd_same
   generalize upd (upd H8' t' (HO.tup [V.int y,V.int x])) l' (HO.lst (rs8'++[V.ref t']))=H10' at *
   refine⟨js',_,_,rfl,?_,by omega⟩
   rw[etk,dbl_snoc]
   exact b10'
  ·rintro σ H' ⟨js,o2,o3,rfl,b,lj⟩
   rw[List.take_of_length_le (by omega)] at b
   refine⟨_,rfl,k d js H' hd b.toBR (by omega) fun c o hc=>?_⟩
   exact b.sm _ _ (s02 _ _ hc) fun z=>by rw[z,hd] at hc;cases hc
open L2.Sco (PT PsAt)
def rfs (pa:Int→LI) (ds:LP) (h n:Int):List (LI):=if ldr pa n=ldr pa h then[rdW pa h n] else(sel (ldr pa) (ldr pa n,ldr pa h) ds).map (rdO pa h n)
def LLf (G H:Hp) (l:Addr) (xss:List (LI)):Prop:=∃ ps:List (Addr×LI),H l=some (.lst (ps.map fun p=>V.ref p.1))∧(∀ p∈ps,H p.1=some (.lst (p.2.map V.int))∧G p.1=none)∧ps.map (·.2)=xss
def zj1 (a:Ad):Sp:=fun vs H Q _=>∃ (p dx dp ob d:Addr) (pf:Int→Option Int) (pa:Int→LI) (us:LI) (ds:LP) (js:List ((Int×Int)×Addr)) (h n:Int),vs=[.ref p,.ref d,.int h,.int n]∧WayR a H p pf us dx dp ob∧UpP us pf pa∧BR H d (ldr pa) ds js∧(∀ q∈ds,q.1∈us∧q.2∈us)∧ds.length≤132∧h∈us∧n∈us ∧
 ∀ (l:Addr) (H':Hp),H l=none→LLf H H' l (rfs pa ds h n)→Same H H'→Q (.ref l) H'
theorem zdA (T:Txt w K mg a):FnOk P w K mg base CX0 4 a.f_qq a.d_qq ["way", "bridges", "hand", "neighbour"] (zj1 a):=by
 have c_qn:Callee P w K mg base "road_within" a.f_qn a.d_qn ["way", "hand", "neighbour"] 2 (zcS a):=⟨UE T,T.g_qn,T.F_qn.kp,T.b_qn⟩
 have c_qo:Callee P w K mg base "road_over" a.f_qo a.d_qo ["way", "hand", "neighbour", "bridge"] 3 (zj0 a):=⟨zdz T,T.g_qo,T.F_qo.kp,T.b_qo⟩
 refine T.F_qq.ok sc_qq (fun vs H Q E h=>?_) (fun cdv A outer s H vs Q E hr h=>?_)
 ·obtain⟨p,dx,dp,ob,d,pf,pa,us,ds,js,h,n,rfl,_⟩:=h
  rfl
 ·obtain⟨p,dx,dp,ob,d,pf,pa,us,ds,js,h,n,rfl,W,U,b,hds,lds,hh,hn,k⟩:=h
  have hu:=yQ hr
  refine zM (w_pss_cons (w_ps_set (i:=4) sc_qq.nd rfl (Or.inl rfl) (zP (zI (zx (zf 0) (zd (zf 3) za)) (zI (zx (zf 0) (zd (zf 2) za)) za))))
   (w_pss_cons (zu (zl xo (zr yc (zf 4) ze (fun _ _=>rfl)) (zr yc (zf 4) ze (fun _ _=>rfl)) (zC _))
    (zb (zg (zA (zI (zm c_qn hr.m (zd (zf 0) (zd (zf 2) (zd (zf 3) za)))) za))))
    zk)
   (zb (zg (yt rfl (N':=["bridge", "way", "hand", "neighbour"]) (t:=1) (caps:=[0,2,3]) ⟨rfl,rfl,rfl⟩ (zw (uU hu (zf 1) (zf 4) (zA za) ⟨rfl,rfl,rfl,rfl⟩)) (fun _=>(zh (i:=0) (show(["bridge", "way", "hand", "neighbour"]:List Str).Nodup by decide +kernel) rfl (Or.inl rfl))) (fun _=>yG) (fun _=>(zm c_qo hr.m (zd (zf 1) (zd (zf 2) (zd (zf 3) (zd (zf 0) za))))))))))) ?_
  refine⟨_,rfl,p,_,dx,_,_,_,_,_,_,rfl,W.p,rfl,T.cl_Way,T.mt_qQ,wD (P:=P) (w:=w) T,hr.m,T.b_qQ,_,rfl,p,dx,dp,ob,pf,pa,us,n,rfl,W,U,hn,fun H1 s1=>?_⟩
  have W1:=W.same s1
  refine⟨_,rfl,p,_,dx,_,_,_,_,_,_,rfl,W1.p,rfl,T.cl_Way,T.mt_qQ,wD (P:=P) (w:=w) T,hr.m,T.b_qQ,_,rfl,p,dx,dp,ob,pf,pa,us,h,rfl,W1,U,hh,fun H2 s2=>?_⟩
  refine⟨(by show 2≤sizeLine;decide),fun t ht=>?_⟩
  have s3:=(s1.trans s2).trans (Same.new (o:=HO.tup [V.int (ldr pa n),V.int (ldr pa h)]) ht)
  have ht3:=upd_same (H:=H2) (a:=t) (o:=HO.tup [V.int (ldr pa n),V.int (ldr pa h)])
  generalize upd H2 t (HO.tup [V.int (ldr pa n),V.int (ldr pa h)])=H3 at *
  refine⟨_,rfl,t,_,0,_,rfl,rfl,SqT.of ht3,rfl,_,rfl,t,_,1,_,rfl,rfl,SqT.of ht3,rfl,rfl,_,rfl,?_⟩
  have W3:=W.same s3
  have b3:=b.same s3
  by_cases c:ldr pa n=ldr pa h
  ·refine iteB (by rw[c];simp) ?_
   refine⟨_,rfl,_,rfl,_,rfl,p,dx,dp,ob,pf,pa,us,h,n,rfl,W3,U,hh,hn,fun l H4 hl h4 s4=>?_⟩
   refine⟨(by show 1≤sizeLine;decide),fun r hr'=>?_⟩
   have s5:=Same.new (o:=HO.lst [V.ref l]) hr'
   refine k r _ ((s3.trans s4).free hr') ⟨[(l,rdW pa h n)],upd_same,fun q hq=>?_,?_⟩ (s3.trans (s4.trans s5))
   ·rw[List.mem_singleton.mp hq]
    exact⟨s5 _ _ h4,s3.free hl⟩
   ·unfold rfs
    rw[if_pos c]
    rfl
  ·refine iteN (by simp[c]) ?_
   have er:rfs pa ds h n=(sel (ldr pa) (ldr pa n,ldr pa h) ds).map (rdO pa h n):=by unfold rfs;rw[if_neg c]
   rw[er] at k
   refine⟨_,rfl,d,rfl,.inr ⟨_,.inl b3.dd⟩,_,rfl,(by show 0≤sizeLine;decide),fun e he=>?_⟩
   have s4:=Same.new (o:=HO.lst []) he
   have he4:=upd_same (H:=H3) (a:=e) (o:=HO.lst [])
   generalize upd H3 e (HO.lst [])=H4 at *
   have W4:=W3.same s4
   have b4:=b3.same s4
   obtain⟨l0,rs0,hv,h0,L0⟩:∃ l0 rs0,(yL (kvB js) (yw (ldr pa n,ldr pa h))).getD (V.ref e)=V.ref l0∧H4 l0=some (.lst rs0)∧LnAt H4 rs0 (sel (ldr pa) (ldr pa n,ldr pa h) ds):=by
    cases hc:yL (kvB js) (yw (ldr pa n,ldr pa h)) with
    |none =>
     refine⟨e,[],rfl,he4,?_⟩
     rw[b4.no _ fun z=>uo hc (kvB_keys.mpr z)]
     exact⟨rfl,fun n r p a1=>by simp at a1⟩
    |some v =>
     obtain⟨l,rfl,hl⟩:=XC hc
     obtain⟨rs,h1,h2⟩:=b4.rows _ hl
     exact⟨l,rs,rfl,h1,h2⟩
   refine⟨_,DGet.t (k:=yw (ldr pa n,ldr pa h)) b4.dd (s4 _ _ ht3),?_⟩
   rw[hv]
   refine⟨l0,rfl,⟨_,SqL.of h0⟩,fun D hD _=>?_⟩
   have lsel:(sel (ldr pa) (ldr pa n,ldr pa h) ds).length≤132:=Nat.le_trans (List.length_filter_le _ _) lds
   have hsl:∀ q∈sel (ldr pa) (ldr pa n,ldr pa h) ds,q.1∈us∧q.2∈us:=fun q hq=>hds q (List.mem_filter.mp hq).1
   generalize sel (ldr pa) (ldr pa n,ldr pa h) ds=sl at *
   have fD:=(s3.trans s4).free hD
   refine yh (K:=K) (a:=l0) (xs:=rs0) (fun j zs τ H'=>∃ (o:Option V) (ps:List (Addr×LI)),τ=[o,some (.ref p),some (.int h),some (.int n)]∧zs=ps.map (fun p=>V.ref p.1)∧H' D=some (.lst zs)∧(∀ q∈ps,H' q.1=some (.lst (q.2.map V.int))∧H q.1=none)∧ps.map (·.2)=(sl.take j).map (rdO pa h n)∧Same H4 H') ?_ ?_ ?_ ?_
   ·exact⟨none,[],rfl,rfl,upd_same,(fun q hq=>(nomatch hq)),by simp,Same.new hD⟩
   ·rintro j zs τ H' ⟨o,ps,_,_,_,_,_,sm⟩
    exact SqL.of (sm _ _ h0)
   ·rintro j v zs τ H' hj ⟨o,ps,rfl,rfl,hD',hps,eps,sm⟩
    obtain⟨q,t',hq,rfl,ht'⟩:=L0.get hj
    obtain⟨hq1,hq2⟩:=hsl q (List.mem_of_getElem? hq)
    have hjl:=(List.getElem?_eq_some_iff.mp hq).1
    have lps:ps.length≤132:=by
     have:=congrArg List.length eps
     rw[List.length_map,List.length_map,List.length_take] at this
     omega
    refine Yc ?_
    refine⟨_,rfl,_,rfl,_,rfl,_,rfl,p,dx,dp,ob,t',pf,pa,us,h,n,q,rfl,W4.same sm,U,hh,hn,hq1,hq2,sm _ _ ht',fun l H5 hl h5 s5=>?_⟩
    have nlD:l≠D:=fun z=>by rw[z,hD'] at hl;cases hl
    refine⟨s5 _ _ hD',by rw[List.length_map];exact zj (by omega),_,ps++[(l,rdO pa h n q)],rfl,by rw[List.map_append];rfl,upd_same,fun q' hq'=>?_,?_,Same.updF (sm.trans s5) hD⟩
    ·rcases List.mem_append.mp hq' with z | z
     ·have h1:=s5 _ _ (hps q' z).1
      have:q'.1≠D:=fun zz=>by
       have h2:=(hps q' z).1
       rw[zz,hD'] at h2
       injection h2 with h2
       injection h2 with h2
       have:=congrArg List.head? h2
       cases ps with
       |nil=>cases z
       |cons p0 ps => 
        cases hc:q'.2 with
        |nil=>rw[hc] at h2;cases h2
        |cons i r=>rw[hc] at h2;cases h2
      exact⟨by rw[upd_ne this];exact h1,(hps q' z).2⟩
     ·rw[List.mem_singleton.mp z]
      exact⟨by rw[upd_ne nlD];exact h5,((s3.trans s4).trans sm).free hl⟩
    ·rw[List.map_append,eps,List.take_add_one,hq,List.map_append]
     rfl
   ·rintro zs τ H' ⟨o,ps,rfl,rfl,hD',hps,eps,sm⟩
    rw[List.take_of_length_le (by have:=L0.1;omega)] at eps
    exact k D H' fD ⟨ps,hD',hps,eps⟩ ((s3.trans s4).trans sm)
def zj3 (a:Ad):Sp:=fun vs H Q _=>∃ (p:Addr) (hs:LI) (ls:LP),vs=[.ref p]∧WbP a H p hs ls∧∀ (l:Addr) (rs:List V) (H':Hp),H l=none→H' l=some (.lst rs)→LnAt H' rs (dbl (srt ls))→Same H H'→Q (.ref l) H'
theorem zdC (T:Txt w K mg a):FnOk P w K mg base CX0 2 a.f_qr a.d_qr ["web"] (zj3 a):=by
 refine T.F_qr.ok sc_qr (fun vs H Q E h=>?_) (fun cdv A outer s H vs Q E hr h=>?_)
 ·obtain⟨p,hs,ls,rfl,_⟩:=h
  rfl
 ·obtain⟨p,hs,ls,rfl,WP,k⟩:=h
  refine zM (w_pss_cons (w_ps_set (i:=1) sc_qr.nd rfl (Or.inl rfl) (zA za))
   (w_pss_cons (zE PassesOwn.never rfl (zw (zK (zf 0))) (zZ rfl (zp (zh (i:=2) sc_qr.nd rfl (Or.inl rfl)) (zp (zh (i:=3) sc_qr.nd rfl (Or.inl rfl)) zQ)))
    (w_pss_cons (zH (ya PySem.F.plainAttrs_list PySem.F.slot_list_append PySem.F.type_list_append zL (zf 1) (xM (zP (zd (zf 2) (zd (zf 3) za))) za)))
    (zb (zH (ya PySem.F.plainAttrs_list PySem.F.slot_list_append PySem.F.type_list_append zL (zf 1) (xM (zP (zd (zf 3) (zd (zf 2) za))) za))))))
   (zb (zg (zf 1))))) ?_
  refine⟨(by show 0≤sizeLine;decide),fun l hl=>?_⟩
  have s0:=Same.new (o:=HO.lst []) hl
  have h0:=upd_same (H:=H) (a:=l) (o:=HO.lst [])
  generalize upd H l (HO.lst [])=H0 at *
  obtain⟨wdx,oh,ol,d0,ad,W⟩:=(WP.same s0).at_
  refine⟨_,rfl,p,_,wdx,_,_,_,_,_,_,rfl,W.p,rfl,T.cl_Web,T.mt_qT,ZR (P:=P) (w:=w) T,hr.m,T.b_qT,p,hs,ls,wdx,oh,ol,d0,ad,rfl,W,fun lq zs hlq Lz=>?_⟩
  have s1:=Same.new (o:=HO.lst zs) hlq
  have hz1:=upd_same (H:=H0) (a:=lq) (o:=HO.lst zs)
  have Lz1:=Lz.same s1
  have h1:=s1 _ _ h0
  have lsl:(srt ls).length≤66:=by rw[(zJ ls).length_eq];exact WP.wl.le
  generalize upd H0 lq (HO.lst zs)=H1 at *
  generalize srt ls=sb at *
  have nql:lq≠l:=fun z=>by rw[z,h0] at hlq;cases hlq
  refine⟨lq,rfl,⟨_,SqL.of hz1⟩,?_⟩
  refine for_list (xs:=zs) (fun i σ H'=>∃ (rs:List V) (o2 o3:Option V),σ=[some (.ref p),some (.ref l),o2,o3]∧H' l=some (.lst rs)∧LnAt H' rs (dbl (sb.take i))∧H' lq=some (.lst zs)∧LnAt H' zs sb∧Same H H') ?_ ?_ ?_ ?_
  ·exact⟨[],none,none,rfl,h1,⟨rfl,fun n r p a1=>by simp at a1⟩,hz1,Lz1,s0.trans s1⟩
  ·rintro i σ H' hi ⟨rs,o2,o3,_,_,_,h,_⟩
   exact SqL.of h
  ·rintro i v σ H2 hi ⟨rs,o2,o3,rfl,h2,L2',hz2,Lz2,sm⟩
   obtain⟨⟨x,y⟩,q,hp,rfl,hq⟩:=Lz2.get hi
   dsimp only at hq
   have hjl:=(List.getElem?_eq_some_iff.mp hp).1
   have etk:sb.take (i+1)=sb.take i++[(x,y)]:=by rw[List.take_add_one,hp];rfl
   have lr:rs.length≤132:=by
    rw[L2'.1,xq,List.length_take]
    omega
   refine⟨q,_,rfl,SqT.of hq,rfl,_,_,rfl,_,_,rfl,rfl,?_⟩
   refine⟨_,rfl,.inl ⟨rfl,_,SqL.of h2⟩,_,rfl,_,rfl,(by show 2≤sizeLine;decide),fun t1 ht1=>?_⟩
   have n1:=Same.new (o:=HO.tup [V.int x,V.int y]) ht1
   refine⟨l,_,_,rfl,rfl,n1 _ _ h2,zj (by omega),?_⟩
   have L3:=(((L2'.same n1).snoc (p:=(x,y)) upd_same).updN (o:=HO.lst (rs++[V.ref t1])) (n1 _ _ h2) (fun xs q=>by cases q))
   have Lz3:=(Lz2.same n1).updN (o:=HO.lst (rs++[V.ref t1])) (n1 _ _ h2) (fun xs q=>by cases q)
   have hz3:(upd (upd H2 t1 (HO.tup [V.int x,V.int y])) l (HO.lst (rs++[V.ref t1]))) lq=some (.lst zs):=by rw[upd_ne nql];exact n1 _ _ hz2
   have sm3:=(sm.trans n1).updF (o:=HO.lst (rs++[V.ref t1])) hl
   have h3:=upd_same (H:=upd H2 t1 (HO.tup [V.int x,V.int y])) (a:=l) (o:=HO.lst (rs++[V.ref t1]))
   generalize upd (upd H2 t1 (HO.tup [V.int x,V.int y])) l (HO.lst (rs++[V.ref t1]))=H3 at *
   refine⟨_,rfl,.inl ⟨rfl,_,SqL.of h3⟩,_,rfl,_,rfl,(by show 2≤sizeLine;decide),fun t2 ht2=>?_⟩
   have n2:=Same.new (o:=HO.tup [V.int y,V.int x]) ht2
   refine⟨l,_,_,rfl,rfl,n2 _ _ h3,zj (by rw[List.length_append,List.length_singleton];omega),?_⟩
   refine⟨_,_,_,rfl,upd_same,?_,by rw[upd_ne nql];exact n2 _ _ hz3,(Lz3.same n2).updN (n2 _ _ h3) (fun xs q=>by cases q),(sm3.trans n2).updF hl⟩
   rw[etk,dbl_snoc]
   exact((L3.same n2).snoc (p:=(y,x)) upd_same).updN (n2 _ _ h3) (fun xs q=>by cases q)
  ·rintro σ H' ⟨rs,o2,o3,rfl,h2,L2',_,_,sm⟩
   rw[List.take_of_length_le (by have:=Lz1.1;omega)] at L2'
   exact⟨_,rfl,k l rs H' hl h2 L2' sm⟩
open L2.Sco (PT PsAt)
def kvP (js:List ((Int×Int)×Addr×LI)):List (List Key×V):=js.map fun j=>(yw j.1,V.ref j.2.1)
structure Pp (H:Hp) (d:Addr) (js:List ((Int×Int)×Addr×LI)):Prop where
 dd:H d=some (.dT (kvP js))
 nd:(js.map (·.1)).Nodup
 row:∀ j∈js,H j.2.1=some (.lst (j.2.2.map V.int))
 len:js.length≤132
theorem Pp.same {H H':Hp}{d:Addr}{js:List ((Int×Int)×Addr×LI)}(p:Pp H d js) (s:Same H H'):Pp H' d js:=⟨s _ _ p.dd,p.nd,fun j hj=>s _ _ (p.row j hj),p.len⟩
theorem uI {js:List ((Int×Int)×Addr×LI)}:(kvP js).map (·.1)=(js.map (·.1)).map yw:=by
 unfold kvP
 rw[List.map_map,List.map_map]
 rfl
theorem XJ:∀ {ls:LP},ls.Nodup→(∀ p∈ls,p.1<p.2)→(dbl ls).Nodup
 |[],_,_=>List.nodup_nil
 |p::ls,hn,h=>by
  rw[List.nodup_cons] at hn
  have ih:=XJ (ls:=ls) hn.2 fun q hq=>h q (List.mem_cons_of_mem _ hq)
  have hp:=h p List.mem_cons_self
  show(p::(p.2,p.1)::dbl ls).Nodup
  rw[List.nodup_cons,List.nodup_cons]
  refine⟨fun z=>?_,fun z=>?_,ih⟩
  ·rcases List.mem_cons.mp z with e | e
   ·have:=congrArg Prod.fst e
    dsimp only at this
    omega
   ·rcases mem_dbl.mp e with e | e
    ·exact hn.1 e
    ·have:=h _ (List.mem_cons_of_mem _ e)
     dsimp only at this
     omega
  ·rcases mem_dbl.mp z with e | e
   ·have:=h _ (List.mem_cons_of_mem _ e)
    dsimp only at this
    omega
   ·exact hn.1 e
theorem Ls.dnd {hs:LI}{ls:LP}(L:Ls hs ls):(dbl (srt ls)).Nodup:=XJ ((zJ ls).nodup_iff.mpr L.nd) fun p hp=>(L.ok p ((zJ ls).mem_iff.mp hp)).2.2
theorem mem_ds {ls:LP}{q:Int×Int}:q∈dbl (srt ls)↔q∈dbl ls:=by
 rw[mem_dbl,mem_dbl,(zJ ls).mem_iff,(zJ ls).mem_iff]
theorem Xw {pa:Int→LI}{bs:LP}{x y:Int}(h:ldr pa x≠ldr pa y→∃ b∈bs,jk (ldr pa) b=jk (ldr pa) (x,y)):rfs pa (dbl (srt bs)) x y≠[]:=by
 unfold rfs
 by_cases c:ldr pa y=ldr pa x
 ·rw[if_pos c];simp
 ·rw[if_neg c]
  obtain⟨b,hb,e⟩:=h fun z=>c z.symm
  have e1:=congrArg Prod.fst e
  have e2:=congrArg Prod.snd e
  unfold jk at e1 e2
  dsimp only at e1 e2
  intro z
  rw[List.map_eq_nil_iff] at z
  have hz:∀ q:Int×Int,q∈dbl (srt bs)→(ldr pa q.1,ldr pa q.2)≠(ldr pa y,ldr pa x):=fun q hq e=>by
   have:q∈sel (ldr pa) (ldr pa y,ldr pa x) (dbl (srt bs)):=List.mem_filter.mpr ⟨hq,decide_eq_true e⟩
   rw[z] at this
   cases this
  by_cases c1:ldr pa b.1=ldr pa y
  ·exact hz b (mem_ds.mpr (mem_dbl.mpr (.inl hb))) (Prod.ext c1 (by show ldr pa b.2=ldr pa x;omega))
  ·exact hz (b.2,b.1) (mem_ds.mpr (mem_dbl.mpr (.inr hb))) (Prod.ext (by show ldr pa b.2=ldr pa y;omega) (by show ldr pa b.1=ldr pa x;omega))
open L2.Sco (PT PsAt)
def zjZ (a:Ad):Sp:=fun vs H Q E=>∃ (p q dx dp ob:Addr) (hs us:LI) (ls bs:LP) (pf:Int→Option Int),vs=[.ref p,.ref q]∧WbP a H p hs ls∧WayAt a H q pf us bs dx dp ob∧(∀ x,x∈us↔x∈hs)∧Cl us pf∧BrL ls bs∧(GG us ls pf bs→∀ (H':Hp),Same H H'→Q .non H')∧(¬GG us ls pf bs→∀ (H':Hp),Same H H'→E (.ref a.c_NoWay) none H')
theorem zdx (T:Txt w K mg a):FnOk P w K mg base (CX1 P w) 10 a.f_qj a.d_qj ["web", "way"] (zjZ a):=by
 have c_qi:Callee P w K mg base "lets" a.f_qi a.d_qi ["web", "way"] 9 (zj6 a):=⟨zdH T,T.g_qi,T.F_qi.kp,T.b_qi⟩
 refine T.F_qj.ok1 zc4 (fun vs H Q E h=>?_) (fun cdv A outer s H vs Q E hr h=>?_)
 ·obtain⟨p,q,dx,dp,ob,hs,us,ls,bs,pf,rfl,_⟩:=h
  rfl
 ·obtain⟨p,q,dx,dp,ob,hs,us,ls,bs,pf,rfl,WP,Y,hm,C,BL,k,kx⟩:=h
  refine zM (zb (zu (zG (zy (zm c_qi hr.m (zd (zf 0) (zd (zf 1) za)))))
    (zb (uS hr.hd T.xc_NoWay T.g_NoWay (zX xu za)))
    zk)) ?_
  refine⟨_,rfl,_,rfl,p,q,dx,dp,ob,hs,us,ls,bs,pf,rfl,WP,Y,hm,C,BL,fun b H1 hb s1=>⟨_,rfl,?_⟩⟩
  cases hc:b with
  |true=>exact iteN rfl (k (hb.mp hc) _ s1)
  |false=>exact xH ⟨by show 1≤1000;decide,kx (fun z=>by rw[hb.mpr z] at hc;cases hc) _ s1⟩
structure RdB (us:LI) (ls:LP) (pf:Int→Option Int) (bs:LP) (js:List ((Int×Int)×Addr×LI)):Prop where
 ks:js.map (·.1)=dbl (srt ls)
 hd:∀ j∈js,(rfs (paO pf) (dbl (srt bs)) j.1.1 j.1.2).head?=some j.2.2
def zcT (a:Ad):Sp:=fun vs H Q E=>∃ (p q dx dp ob:Addr) (hs us:LI) (ls bs:LP) (pf:Int→Option Int),vs=[.ref p,.ref q]∧WbP a H p hs ls∧WayAt a H q pf us bs dx dp ob∧(∀ x,x∈us↔x∈hs)∧Cl us pf∧BrL ls bs∧(GG us ls pf bs→∀ (d:Addr) (js:List ((Int×Int)×Addr×LI)) (H':Hp),H d=none→Pp H' d js→RdB us ls pf bs js→(∀ j∈js,H j.2.1=none)→Same H H'→Q (.ref d) H')∧(¬GG us ls pf bs→∀ (H':Hp),Same H H'→E (.ref a.c_NoWay) none H')
theorem UF (T:Txt w K mg a):FnOk P w K mg base (CX1 P w) 11 a.f_qs a.d_qs ["web", "way"] (zcT a):=by
 have cx_qj:Callee1 P w K mg base "refuse_unlet" a.f_qj a.d_qj ["web", "way"] 10 (zjZ a):=⟨zdx T,T.g_qj,T.F_qj.kp,T.b_qj⟩
 have c_qr:Callee P w K mg base "pairs_of" a.f_qr a.d_qr ["web"] 2 (zj3 a):=⟨zdC T,T.g_qr,T.F_qr.kp,T.b_qr⟩
 have c_qp:Callee P w K mg base "bridges_by_leaders" a.f_qp a.d_qp ["way"] 7 (zkf a):=⟨zdQ T,T.g_qp,T.F_qp.kp,T.b_qp⟩
 have c_qq:Callee P w K mg base "roads_for" a.f_qq a.d_qq ["way", "bridges", "hand", "neighbour"] 4 (zj1 a):=⟨zdA T,T.g_qq,T.F_qq.kp,T.b_qq⟩
 refine T.F_qs.ok1 sc_qs (fun vs H Q E h=>?_) (fun cdv A outer s H vs Q E hr h=>?_)
 ·obtain⟨p,q,dx,dp,ob,hs,us,ls,bs,pf,rfl,_⟩:=h
  rfl
 ·obtain⟨p,q,dx,dp,ob,hs,us,ls,bs,pf,rfl,WP,Y,hm,C,BL,kg,kx⟩:=h
  have hu:=yQ hr
  refine zM (w_pss_cons (zH (XO cx_qj hr.m (zd (zf 0) (zd (zf 1) za))))
   (w_pss_cons (w_ps_set (i:=2) sc_qs.nd rfl (Or.inl rfl) (zm c_qp hr.m (zd (zf 1) za)))
   (w_pss_cons (w_ps_set (i:=3) sc_qs.nd rfl (Or.inl rfl) yk)
   (w_pss_cons (zE PassesOwn.leaving rfl (zw (zm c_qr hr.m (zd (zf 0) za))) (zZ rfl (zp (zh (i:=4) sc_qs.nd rfl (Or.inl rfl)) (zp (zh (i:=5) sc_qs.nd rfl (Or.inl rfl)) zQ)))
    (zb (yr hu (zf 3) (zP (zd (zf 4) (zd (zf 5) za))) (zr zN (zm c_qq hr.m (zd (zf 1) (zd (zf 2) (zd (zf 4) (zd (zf 5) za))))) ze (fun _ _=>rfl)) rfl)))
   (zb (zg (zf 3))))))) ?_
  refine⟨_,rfl,_,rfl,p,q,dx,dp,ob,hs,us,ls,bs,pf,rfl,WP,Y,hm,C,BL,fun gg H1 s1=>?_,kx⟩
  have k:=kg gg
  have g:=gg.g
  have U:=UpP.of C g.en
  have inl:∀ b∈bs,b∈ls:=fun b hb=>BL.inl WP.wl hb (g.gd.1 b hb).1
  have l66:bs.length≤63:=Nat.le_trans (xO g.gd.2 inl) WP.l63
  have Bb:Bd bs:=fun b hb=>(WP.wl.bd WP.wh) b (inl b hb)
  have bin:∀ b∈bs,b.1∈us∧b.2∈us:=fun b hb=>⟨(hm _).mpr (WP.wl.ok b (inl b hb)).1,(hm _).mpr (WP.wl.ok b (inl b hb)).2.1⟩
  have din:∀ b∈dbl (srt bs),b.1∈us∧b.2∈us:=fun b hb=>by
   rcases mem_dbl.mp (mem_ds.mp hb) with z | z
   ·exact bin b z
   ·exact⟨(bin _ z).2,(bin _ z).1⟩
  have dln:(dbl (srt bs)).length≤132:=by rw[xq,(zJ bs).length_eq];omega
  have pin:∀ b∈dbl (srt ls),b.1∈us∧b.2∈us:=fun b hb=>by
   rcases mem_dbl.mp (mem_ds.mp hb) with z | z
   ·exact⟨(hm _).mpr (WP.wl.ok _ z).1,(hm _).mpr (WP.wl.ok _ z).2.1⟩
   ·exact⟨(hm _).mpr (WP.wl.ok _ z).2.1,(hm _).mpr (WP.wl.ok _ z).1⟩
  have cov:∀ b∈dbl (srt ls),rfs (paO pf) (dbl (srt bs)) b.1 b.2≠[]:=fun b hb=>Xw fun hne=>by
   rcases mem_dbl.mp (mem_ds.mp hb) with z | z
   ·exact gg.cov b z hne
   ·obtain⟨c,hc,e⟩:=gg.cov _ z fun zz=>hne zz.symm
    refine⟨c,hc,e.trans ?_⟩
    unfold jk
    rw[Int.min_comm,Int.max_comm]
  have dnd:=WP.wl.dnd
  have pln:(dbl (srt ls)).length≤132:=by rw[xq,(zJ ls).length_eq];have:=WP.wl.le;omega
  refine⟨_,rfl,q,dx,dp,ob,pf,paO pf,us,bs,rfl,Y.same s1,U,Bb,l66,bin,fun bd bj H2 hbd br2 lbj s2=>?_⟩
  refine fun d hd=>?_
  have s3:=Same.new (o:=HO.dT []) hd
  have h3:=upd_same (H:=H2) (a:=d) (o:=HO.dT [])
  generalize upd H2 d (HO.dT [])=H3 at *
  have s02:=s1.trans s2
  have s03:=s02.trans s3
  refine⟨_,rfl,p,hs,ls,rfl,WP.same s03,fun l rs H4 hl h4 L4 s4=>?_⟩
  have s24:=s3.trans s4
  have fd:H d=none:=s02.free hd
  refine⟨l,rfl,⟨_,SqL.of h4⟩,?_⟩
  have lr:=L4.1
  have nld:l≠d:=fun z=>by rw[z,h3] at hl;cases hl
  have hd4:=s4 _ _ h3
  generalize hqs:dbl (srt ls)=qs at *
  have LX:∀ {G:Hp},Ext d H4 G→LnAt G rs qs:=fun {G} x=>⟨L4.1,fun n r p a1 a2=>by
   obtain⟨qq,b1,b2⟩:=L4.2 n r p a1 a2
   exact⟨qq,b1,x _ _ b2 fun z=>by rw[z,hd4] at b2;cases b2⟩⟩
  have SX:∀ {G:Hp},Ext d H4 G→Same H2 G:=fun {G} x c o hc=>x _ _ (s24 _ _ hc) fun z=>by rw[z,hd] at hc;cases hc
  refine for_list (xs:=rs) (fun i σ H'=>∃ (js:List ((Int×Int)×Addr×LI)) (o4 o5:Option V),σ=[some (.ref p),some (.ref q),some (.ref bd),some (.ref d),o4,o5]∧Pp H' d js∧js.map (·.1)=qs.take i∧(∀ j∈js,(rfs (paO pf) (dbl (srt bs)) j.1.1 j.1.2).head?=some j.2.2∧H j.2.1=none)∧Ext d H4 H') ?_ ?_ ?_ ?_
  ·exact⟨[],none,none,rfl,⟨hd4,List.nodup_nil,(fun j hj=>(nomatch hj)),by simp⟩,by simp,(fun j hj=>(nomatch hj)),Ext.refl⟩
  ·rintro i σ H' hi ⟨js,o4,o5,_,_,_,_,x⟩
   exact SqL.of (x _ _ h4 nld)
  ·rintro i v σ H5 hi ⟨js,o4,o5,rfl,pp,ek,eh,x5⟩
   obtain⟨⟨x,y⟩,t,hp,rfl,ht⟩:=(LX x5).get hi
   have hxy:=List.mem_of_getElem? hp
   obtain⟨hx,hy⟩:=pin _ hxy
   have hne:=cov _ hxy
   dsimp only at ht hx hy hne
   have etk:qs.take (i+1)=qs.take i++[(x,y)]:=by rw[List.take_add_one,hp];rfl
   have S5:=SX x5
   have Y5:=(Y.same s02).same S5
   refine⟨t,_,rfl,SqT.of ht,rfl,_,_,rfl,_,_,rfl,rfl,?_⟩
   refine⟨_,rfl,_,rfl,_,rfl,_,rfl,q,dx,dp,ob,bd,pf,paO pf,us,dbl (srt bs),bj,x,y,rfl,Y5.r,U,br2.same S5,din,dln,hx,hy,fun lr6 H6 hlr ll6 s6=>?_⟩
   obtain⟨ps,e1,e2,e3⟩:=ll6
   cases hps:ps with
   |nil=>rw[hps] at e3;exact absurd e3.symm hne
   |cons r0 ps' =>
   rw[hps] at e1 e2 e3
   refine⟨lr6,_,0,V.ref r0.1,rfl,rfl,SqL.of e1,zY (j:=0) rfl,?_⟩
   obtain⟨hr0,fr0⟩:=e2 r0 List.mem_cons_self
   have fr0:H r0.1=none:=(s02.trans S5).free fr0
   have ehd:(rfs (paO pf) (dbl (srt bs)) x y).head?=some r0.2:=by rw[← e3];rfl
   refine⟨_,rfl,_,rfl,_,rfl,(by show 2≤sizeLine;decide),fun kt hkt=>?_⟩
   have s7:=Same.new (o:=HO.tup [V.int x,V.int y]) hkt
   have hk7:=upd_same (H:=H6) (a:=kt) (o:=HO.tup [V.int x,V.int y])
   generalize upd H6 kt (HO.tup [V.int x,V.int y])=H7 at *
   have s57:=s6.trans s7
   have pp7:=pp.same s57
   have hnew:yw (x,y)∉(kvP js).map (·.1):=by
    rw[uI]
    intro z
    obtain⟨u,hu',e⟩:=List.mem_map.mp z
    rw[yP e,ek] at hu'
    exact w6 dnd hp hu'
   have ljs:js.length≤131:=by
    have h1:=congrArg List.length ek
    rw[List.length_map,List.length_take] at h1
    have h2:=(List.getElem?_eq_some_iff.mp hp).1
    omega
   refine⟨d,_,rfl,DPut.t (k:=yw (x,y)) pp7.dd hk7 (by unfold kvP;rw[List.length_map];exact zj (by omega)),?_⟩
   refine⟨js++[((x,y),r0.1,r0.2)],_,_,rfl,⟨?_,?_,fun j hj=>?_,by rw[List.length_append,List.length_singleton];omega⟩,?_,fun j hj=>?_,(x5.trans (Ext.same s57)).trans Ext.at⟩
   ·rw[upd_same,putK_new hnew]
    unfold kvP
    rw[List.map_append]
    rfl
   ·have e:(js++[((x,y),r0.1,r0.2)]).map (·.1)=qs.take (i+1):=by rw[List.map_append,ek,etk];rfl
    rw[e]
    exact dnd.sublist (List.take_sublist _ _)
   ·have hrow:∀ {b:Addr}{ns:LI},H7 b=some (.lst (ns.map V.int))→(upd H7 d (.dT (putK (kvP js) (yw (x,y)) (V.ref r0.1)))) b=some (.lst (ns.map V.int)):=fun {b ns} e=>by
     rw[upd_ne (fun z=>by rw[z,pp7.dd] at e;cases e)]
     exact e
    rcases List.mem_append.mp hj with z | z
    ·exact hrow (pp7.row j z)
    ·rw[List.mem_singleton.mp z]
     exact hrow (s7 _ _ hr0)
   ·rw[List.map_append,ek,etk]
    rfl
   ·rcases List.mem_append.mp hj with z | z
    ·exact eh j z
    ·rw[List.mem_singleton.mp z]
     exact⟨ehd,fr0⟩
  ·rintro σ H' ⟨js,o4,o5,rfl,pp,ek,eh,x5⟩
   rw[List.take_of_length_le (by omega)] at ek
   exact⟨_,rfl,k d js H' fd pp ⟨by rw[hqs];exact ek,fun j hj=>(eh j hj).1⟩ (fun j hj=>(eh j hj).2) (s02.trans (SX x5))⟩
open L2.Sco (PT PsAt)
theorem LnAt.take {H:Hp}{rs:List V}{ls:LP}{n:Nat}(h:LnAt H rs ls):LnAt H (rs.take n) (ls.take n):=by
 refine⟨by rw[List.length_take,List.length_take,h.1],fun i r p a1 a2=>?_⟩
 rw[List.getElem?_take] at a1 a2
 split at a1
 ·rw[if_pos (by assumption)] at a2
  exact h.2 i r p a1 a2
 ·cases a1
theorem zgB {rs:List V}:xF rs none (some 14)=rs.take 14:=by
 by_cases c:14≤rs.length
 ·exact Vt (n:=14) c
 ·unfold xF HT.sIx
  simp
theorem zlC {n m:Nat}(h:m≤tri n) (hn:n≤8):m≤28:=by
 have:∀ n,n≤8→tri n≤28:=by decide
 have:=this n hn
 omega
def zjX:Sp:=fun vs H Q _=>∃ (l:Addr),vs=[.ref l]∧XsAt H l ∧
 ∀ (t h q:Addr) (hs:LI) (rs:List V) (ls:LP) (H':Hp),H' t=some (.tup [.ref h,.ref q])→H' h=some (.lst (hs.map V.int))→H' q=some (.lst rs)→LnAt H' rs ls→Hs hs→Ls hs ls→XsAt H' l→Ext l H H'→h≠l→q≠l→ls.length≤28→Q (.ref t) H'
theorem zdv (T:Txt w K mg a):FnOk P w K mg base CX0 3 a.f_qC a.d_qC ["_law_xs"] zjX:=by
 have c_qz:Callee P w K mg base "_law_take" a.f_qz a.d_qz ["_law_xs", "_law_size"] 1 wL:=⟨wq T,T.g_qz,T.F_qz.kp,T.b_qz⟩
 have c_qA:Callee P w K mg base "_law_hands" a.f_qA a.d_qA ["_law_xs", "_law_most"] 2 zj9:=⟨zdK T,T.g_qA,T.F_qA.kp,T.b_qA⟩
 have c_qB:Callee P w K mg base "_law_lines" a.f_qB a.d_qB ["_law_xs", "_law_hands_here"] 2 zj8:=⟨zdJ T,T.g_qB,T.F_qB.kp,T.b_qB⟩
 refine T.F_qC.ok sc_qC (fun vs H Q E h=>?_) (fun cdv A outer s H vs Q E hr h=>?_)
 ·obtain⟨l,rfl,_⟩:=h
  rfl
 ·obtain⟨l,rfl,hX,k⟩:=h
  refine zM (w_pss_cons (w_ps_set (i:=1) sc_qC.nd rfl (Or.inl rfl) (zr zN (zA (zX ze (zX ze (zX ze (zX ze (zX ze (zX ze (zX ze (zX ze za))))))))) (zm c_qz hr.m (zd (zf 0) (zX ze za))) (fun _ _=>rfl)))
   (w_pss_cons (w_ps_set (i:=2) sc_qC.nd rfl (Or.inl rfl) (zm c_qA hr.m (zd (zf 0) (zd (zf 1) za))))
   (w_pss_cons (w_ps_set (i:=3) sc_qC.nd rfl (Or.inl rfl) (zm c_qB hr.m (zd (zf 0) (zd (zf 2) za))))
   (zb (zg (zP (zd (zf 2) (zn (zr zN (zA (zd (zf 3) (zn (zV yC (zf 3) yf (w_po_some ze)) za))) (zq xY (zf 1) ze) (fun _ _=>rfl)) za)))))))) ?_
  refine⟨(by show 8≤sizeLine;decide),fun q0 hq0=>?_⟩
  refine⟨_,rfl,l,8,rfl,hX.new hq0,by decide,fun d H1 d0 d1 x1 y1=>?_⟩
  have nq0:=hX.ne hq0
  have hq1:=y1 _ _ upd_same nq0
  obtain⟨m,hat,hm⟩:∃ m:Int,atI ([V.int 8,V.int 8,V.int 8,V.int 8,V.int 8,V.int 8,V.int 8,V.int 12]) d=some (V.int m)∧(m=8∨m=12):=by
   obtain⟨n,rfl⟩:∃ n:Nat,d=(n:Int):=⟨d.toNat,by omega⟩
   have hn:n<8:=by omega
   match n,hn with
   |0,_=>exact⟨8,zY rfl,.inl rfl⟩
   |1,_=>exact⟨8,zY rfl,.inl rfl⟩
   |2,_=>exact⟨8,zY rfl,.inl rfl⟩
   |3,_=>exact⟨8,zY rfl,.inl rfl⟩
   |4,_=>exact⟨8,zY rfl,.inl rfl⟩
   |5,_=>exact⟨8,zY rfl,.inl rfl⟩
   |6,_=>exact⟨8,zY rfl,.inl rfl⟩
   |7,_=>exact⟨12,zY rfl,.inr rfl⟩
   |n+8,hn=>omega
  refine⟨q0,_,_,_,rfl,rfl,SqL.of hq1,hat,?_⟩
  refine⟨_,rfl,_,rfl,l,m,rfl,by omega,by omega,x1,fun h hs H2 hh hh2 wh hmo x2 y2=>?_⟩
  have nhl:h≠l:=x1.ne hh
  refine⟨_,rfl,_,rfl,l,h,hs,rfl,x2,hh2,nhl,wh,fun q rs ls H3 hq hq3 L3 wl htr x3 y3=>?_⟩
  have nql:q≠l:=x2.ne hq
  have hh3:=y3 _ _ hh2 nhl
  have ye:=(((Ext.new (l:=l) (o:=HO.lst [V.int 8,V.int 8,V.int 8,V.int 8,V.int 8,V.int 8,V.int 8,V.int 12]) hq0).trans y1).trans y2).trans y3
  refine⟨_,rfl,_,rfl,_,rfl,_,rfl,q,_,rfl,SqL.of hq3,fun p1 hp1=>?_⟩
  rw[zgB]
  have s4:=Same.new (o:=HO.lst (rs.take 14)) hp1
  have hp4:=upd_same (H:=H3) (a:=p1) (o:=HO.lst (rs.take 14))
  have np1:p1≠l:=x3.ne hp1
  generalize upd H3 p1 (HO.lst (rs.take 14))=H4 at *
  refine⟨(by show 2≤sizeLine;decide),fun pl hpl=>?_⟩
  have s5:=Same.new (o:=HO.lst [V.ref q,V.ref p1]) hpl
  have hpl5:=upd_same (H:=H4) (a:=pl) (o:=HO.lst [V.ref q,V.ref p1])
  generalize upd H4 pl (HO.lst [V.ref q,V.ref p1])=H5 at *
  have s35:=s4.trans s5
  refine⟨_,rfl,_,_,rfl,rfl,⟨by decide,by decide⟩,?_⟩
  have fin:∀ (q':Addr) (rs':List V) (ls':LP),H5 q'=some (.lst rs')→LnAt H5 rs' ls'→Ls hs ls'→q'≠l→ls'.length≤28→∀ pt,H5 pt=none→Q (.ref pt) (upd H5 pt (.tup [.ref h,.ref q'])):=fun q' rs' ls' e1 e2 e3 e4 e5 pt hpt=>by
   have s6:=Same.new (o:=HO.tup [V.ref h,V.ref q']) hpt
   exact k pt h q' hs rs' ls' _ upd_same (s6 _ _ (s35 _ _ hh3)) (s6 _ _ e1) (e2.same s6) wh e3 ((x3.same s35).same s6) (ye.trans (Ext.same (s35.trans s6))) nhl e4 e5
  rcases hm with rfl | rfl
  ·refine⟨pl,_,_,V.ref q,rfl,rfl,SqL.of hpl5,zY (j:=0) rfl,(by show 2≤sizeLine;decide),fun pt hpt=>?_⟩
   exact fin q rs ls (s35 _ _ hq3) (L3.same s35) wl nql (zlC htr (by omega)) pt hpt
  ·refine⟨pl,_,_,V.ref p1,rfl,rfl,SqL.of hpl5,zY (j:=1) rfl,(by show 2≤sizeLine;decide),fun pt hpt=>?_⟩
   exact fin p1 (rs.take 14) (ls.take 14) (s5 _ _ hp4) (L3.take.same s35) ⟨wl.nd.sublist (List.take_sublist _ _),fun p hp=>wl.ok p (List.mem_of_mem_take hp),by rw[List.length_take];have:=wl.le;omega⟩ np1 (by rw[List.length_take];omega) pt hpt
open L2.Sco (PT PsAt)
open L2.Srt (wR)
structure PaC (ls:LP) (us:LI) (pf:Int→Option Int):Prop where
 nd:us.Nodup
 cl:Cl us pf
 ad:∀ x∈us,∀ y,pf x=some y→adB ls x y=true
 en:∀ x∈us,∃ l,En pf x l
theorem En.cg {us:LI}{pf pg:Int→Option Int}(C:Cl us pf) (h:∀ z∈us,pg z=pf z){x:Int}{l:LI}(e:En pf x l):x∈us→En pg x l:=by
 induction e with
 |z e=>exact fun hx=>.z (by rw[h _ hx];exact e)
 | @s x y l e t ih=>exact fun hx=>.s (by rw[h _ hx];exact e) (ih (C x hx y e))
theorem PaC.join {ls:LP}{us vs:LI}{pf pg:Int→Option Int}(p:PaC ls us pf) (nv:vs.Nodup) (dj:∀ x∈vs,x∉us) (hg:∀ x∈vs,∀ y,pg x=some y→y∈us++vs∧adB ls x y=true) (he:∀ x∈vs,(∃ y∈us,pg x=some y)∨((∀ z∈vs,∀ y,pg z=some y→y∈vs)∧∃ l,En pg x l)):PaC ls (us++vs) (fun z=>if z∈vs then pg z else pf z):=by
 have e1:∀ z∈us,(fun z=>if z∈vs then pg z else pf z) z=pf z:=fun z hz=>if_neg fun hv=>dj z hv hz
 have e2:∀ z∈vs,(fun z=>if z∈vs then pg z else pf z) z=pg z:=fun z hz=>if_pos hz
 have eu:∀ x∈us,∃ l,En (fun z=>if z∈vs then pg z else pf z) x l:=fun x hx=>by
  obtain⟨l,hl⟩:=p.en x hx
  exact⟨l,hl.cg p.cl e1 hx⟩
 refine⟨?_,fun x hx y hy=>?_,fun x hx y hy=>?_,fun x hx=>?_⟩
 ·rw[List.nodup_append]
  exact⟨p.nd,nv,fun a ha b hb e=>dj b hb (by rw[← e];exact ha)⟩
 ·rcases List.mem_append.mp hx with z | z
  ·have hy:=(e1 x z).symm.trans hy
   exact List.mem_append.mpr (.inl (p.cl x z y hy))
  ·have hy:=(e2 x z).symm.trans hy
   exact(hg x z y hy).1
 ·rcases List.mem_append.mp hx with z | z
  ·have hy:=(e1 x z).symm.trans hy
   exact p.ad x z y hy
  ·have hy:=(e2 x z).symm.trans hy
   exact(hg x z y hy).2
 ·rcases List.mem_append.mp hx with z | z
  ·exact eu x z
  ·rcases he x z with⟨y,hy,e⟩ | ⟨c,l,hl⟩
   ·obtain⟨l,hl⟩:=eu y hy
    exact⟨x::l,.s ((e2 x z).trans e) hl⟩
   ·exact⟨l,hl.cg (us:=vs) c e2 z⟩
theorem uq {f g k:Int→V}{us vs:LI}(nd:(us++vs).Nodup) (h1:∀ x∈us,k x=f x) (h2:∀ x∈vs,k x=g x):tabV f us=tabV k us∧tabV g vs=tabV k vs:=⟨yK fun x hx=>(h1 x hx).symm,yK fun x hx=>(h2 x hx).symm⟩
def zj5 (a:Ad):Sp:=fun vs H Q _=>∃ (p dx oh ol d0 l d r:Addr) (ad:Int→Addr) (hs left ring us:LI) (ls:LP) (f:Int→V),vs=[.ref p,.ref l,.ref d,.ref r]∧WebAt a H p hs ls dx oh ol d0 ad∧Hs hs∧Ls hs ls∧H l=some (.lst (left.map V.int))∧H d=some (.dK (tabV f us))∧H r=some (.lst (ring.map V.int))∧(∀ x∈left,x∈hs)∧(∀ x∈ring,x∈hs) ∧
 ∀ (q:Addr) (fs:LI) (g:Int→Int) (H':Hp),H q=none→H' q=some (.dK (tabV (fun x=>V.int (g x)) fs))→fs.Nodup→(∀ x∈fs,x∈left∧x∉us∧g x∈ring∧adB ls x (g x)=true)→Same H H'→Q (.ref q) H'
theorem zdF (T:Txt w K mg a):FnOk P w K mg base CX0 4 a.f_qk a.d_qk ["web", "left", "parents", "ring"] (zj5 a):=by
 refine T.F_qk.ok sc_qk (fun vs H Q E h=>?_) (fun cdv A outer s H vs Q E hr h=>?_)
 ·obtain⟨p,dx,oh,ol,d0,l,d,r,ad,hs,left,ring,us,ls,f,rfl,_⟩:=h
  rfl
 ·obtain⟨p,dx,oh,ol,d0,l,d,r,ad,hs,left,ring,us,ls,f,rfl,W,wh,wl,hl,hd,hr0,hlh,hrh,k⟩:=h
  have hu:=yQ hr
  refine zM (w_pss_cons (w_ps_set (i:=4) sc_qk.nd rfl (Or.inl rfl) xb)
   (w_pss_cons (zE PassesOwn.never rfl (zw (zf 3)) (zh (i:=5) sc_qk.nd rfl (Or.inl rfl))
    (zb (zE PassesOwn.never rfl (zw (zx (zf 0) (zd (zf 5) za))) (zh (i:=6) sc_qk.nd rfl (Or.inl rfl))
     (zb (zu (we (yo (zl xA (zf 6) (zf 1) (by with_unfolding_all rfl)) (yd (yM (yN hu (zf 6) (zf 2))))))
      (zb (zH (xv hu (zf 4) (zf 6) (zf 5) ⟨rfl,rfl,rfl,rfl⟩)))
      zk)))))
   (zb (zg (zf 4))))) ?_
  refine fun q hq=>?_
  refine⟨_,rfl,r,rfl,⟨_,SqL.of (Same.new hq _ _ hr0)⟩,?_⟩
  refine for_list (xs:=ring.map V.int) (fun i σ H'=>∃ (fs:LI) (g:Int→Int) (o5 o6:Option V),σ=[some (.ref p),some (.ref l),some (.ref d),some (.ref r),some (.ref q),o5,o6]∧H' q=some (.dK (tabV (fun x=>V.int (g x)) fs))∧fs.Nodup∧(∀ x∈fs,x∈left∧x∉us∧g x∈ring∧adB ls x (g x)=true)∧Same H H') ?_ ?_ ?_ ?_
  ·exact⟨[],id,none,none,rfl,upd_same,List.nodup_nil,(fun x h=>(nomatch h)),Same.new hq⟩
  ·rintro i σ H' hi ⟨fs,g,o5,o6,_,_,_,_,sm⟩
   exact SqL.of (sm _ _ hr0)
  ·rintro i v σ H1 hi ⟨fs,g,o5,o6,rfl,hq1,nd,mem,sm⟩
   rw[List.getElem?_map] at hi
   obtain⟨h,hh,rfl⟩:=Option.map_eq_some_iff.mp hi
   have hhr:=List.mem_of_getElem? hh
   have hhm:=hrh h hhr
   refine⟨_,rfl,p,_,dx,_,_,_,_,_,_,rfl,sm _ _ W.p,rfl,T.cl_Web,T.mt_qW,zdG (P:=P) (w:=w) T,hr.m,T.b_qW,_,rfl,p,h,hs,ls,dx,oh,ol,d0,ad,rfl,W.same sm,wh,wl,hhm,fun n hn=>?_⟩
   refine⟨n,rfl,⟨_,SqL.of upd_same⟩,?_⟩
   have s2:=Same.new (o:=HO.lst ((hs.filter (adB ls h)).map V.int)) hn
   have hn2:=upd_same (H:=H1) (a:=n) (o:=HO.lst ((hs.filter (adB ls h)).map V.int))
   have nnq:n≠q:=fun z=>by rw[z,hq1] at hn;cases hn
   have hq2:=s2 _ _ hq1
   have sm2:=sm.trans s2
   generalize upd H1 n (HO.lst ((hs.filter (adB ls h)).map V.int))=H2 at *
   refine for_list (xs:=(hs.filter (adB ls h)).map V.int) (fun j σ H'=>∃ (fs:LI) (g:Int→Int) (o6:Option V),σ=[some (.ref p),some (.ref l),some (.ref d),some (.ref r),some (.ref q),some (.int h),o6]∧H' q=some (.dK (tabV (fun x=>V.int (g x)) fs))∧H' n=some (.lst ((hs.filter (adB ls h)).map V.int))∧fs.Nodup∧(∀ x∈fs,x∈left∧x∉us∧g x∈ring∧adB ls x (g x)=true)∧Same H H') ?_ ?_ ?_ ?_
   ·exact⟨fs,g,o6,rfl,hq2,hn2,nd,mem,sm2⟩
   ·rintro j σ H' hj ⟨fs',g',o6,_,_,hn',_⟩
    exact SqL.of hn'
   ·rintro j v σ H3 hj ⟨fs,g,o6,rfl,hq3,hn3,nd3,mem3,sm3⟩
    rw[List.getElem?_map] at hj
    obtain⟨o,ho,rfl⟩:=Option.map_eq_some_iff.mp hj
    have hom:=List.mem_filter.mp (List.mem_of_getElem? ho)
    have l12:fs.length≤12:=Nat.le_trans (yX nd3 fun x hx=>hlh x (mem3 x hx).1) wh.l12
    by_cases c1:o∈left
    ·refine⟨_,rfl,_,rfl,l,_,rfl,.inl (SqL.of (sm3 _ _ hl)),rfl,yD _,_,rfl,iteB (by show inV (.int o) _=true;rw[yZ];exact decide_eq_true c1) ?_⟩
     by_cases c2:o∈us
     ·refine⟨_,rfl,_,rfl,d,_,rfl,xz (sm3 _ _ hd) c2,_,rfl,iteN rfl ?_⟩
      exact⟨fs,g,_,rfl,hq3,hn3,nd3,mem3,sm3⟩
     ·refine⟨_,rfl,_,rfl,d,none,rfl,vY (sm3 _ _ hd) c2,_,rfl,xH ?_⟩
      refine⟨_,rfl,q,rfl,.inl ⟨_,.inl hq3⟩,_,rfl,_,rfl,.inl ⟨_,.inl o,hq3,rfl,by rw[tabV_len];exact zj (by omega),fun u hu'=>?_,fun hn'=>?_⟩⟩
      ·exact⟨fs,g,_,rfl,hq3,hn3,nd3,mem3,sm3⟩
      ·have hof:o∉fs:=fun z=>by rw[wU z] at hn';cases hn'
       rw[ut hof]
       have ec:tabV (fun y=>if y=o then V.int h else V.int (g y)) (fs++[o])=tabV (fun x=>V.int (if x=o then h else g x)) (fs++[o]):=yK fun x hx=>by
        by_cases e:x=o
        ·rw[if_pos e,if_pos e]
        ·rw[if_neg e,if_neg e]
       rw[ec]
       refine⟨fs++[o],_,_,rfl,upd_same,?_,?_,fun x hx=>?_,Same.updF sm3 hq⟩
       ·rw[upd_ne nnq];exact hn3
       ·rw[List.nodup_append]
        exact⟨nd3,by simp,fun u hu v hv e=>hof (by rw[List.mem_singleton.mp hv] at e;rw[← e];exact hu)⟩
       ·by_cases e:x=o
        ·subst e
         rw[if_pos rfl]
         exact⟨c1,c2,hhr,by rw[vh];exact hom.2⟩
        ·rw[if_neg e]
         exact mem3 x ((List.mem_append.mp hx).resolve_right fun z=>e (List.mem_singleton.mp z))
    ·refine⟨_,rfl,_,rfl,l,_,rfl,.inl (SqL.of (sm3 _ _ hl)),rfl,yD _,_,rfl,iteN (by show inV (.int o) _=false;rw[yZ];exact decide_eq_false c1) ?_⟩
     exact⟨fs,g,_,rfl,hq3,hn3,nd3,mem3,sm3⟩
   ·rintro σ H3 ⟨fs,g,o6,rfl,hq3,hn3,nd3,mem3,sm3⟩
    exact⟨fs,g,_,_,rfl,hq3,nd3,mem3,sm3⟩
  ·rintro σ H1 ⟨fs,g,o5,o6,rfl,hq1,nd,mem,sm⟩
   exact⟨_,rfl,k q fs g H1 hq hq1 nd mem sm⟩
def zj4 (a:Ad):Sp:=fun vs H Q _=>∃ (p dx oh ol d0 l:Addr) (ad:Int→Addr) (hs lt:LI) (s r:Int) (ls:LP),vs=[.ref p,.ref l,.int r]∧WebAt a H p hs ls dx oh ol d0 ad∧Hs hs∧Ls hs ls∧H l=some (.lst ((s::lt).map V.int))∧(∀ x∈s::lt,x∈hs) ∧
 ∀ (q:Addr) (us:LI) (pf:Int→Option Int) (H':Hp),H q=none→H' q=some (.dK (tabV (fun x=>opV (pf x)) us))→PaC ls us pf→(∀ x∈us,x∈s::lt)→s∈us→Same H H'→Q (.ref q) H'
theorem zdE (T:Txt w K mg a):FnOk P w K mg base CX0 5 a.f_ql a.d_ql ["web", "left", "reach"] (zj4 a):=by
 have c_qk:Callee P w K mg base "next_ring" a.f_qk a.d_qk ["web", "left", "parents", "ring"] 4 (zj5 a):=⟨zdF T,T.g_qk,T.F_qk.kp,T.b_qk⟩
 refine T.F_ql.ok sc_ql (fun vs H Q E h=>?_) (fun cdv A outer s H vs Q E hr h=>?_)
 ·obtain⟨p,dx,oh,ol,d0,l,ad,hs,lt,s,r,ls,rfl,_⟩:=h
  rfl
 ·obtain⟨p,dx,oh,ol,d0,l,ad,hs,lt,s,r,ls,rfl,W,wh,wl,hl,hsub,k⟩:=h
  have hu:=yQ hr
  have h0:atI ((s::lt).map V.int) 0=some (V.int s):=zY (j:=0) rfl
  generalize hle:s::lt=left at *
  have hsl:s∈left:=by rw[← hle];exact List.mem_cons_self
  refine zM (w_pss_cons (w_ps_set (i:=3) sc_ql.nd rfl (Or.inl rfl) (Zq (uT (zr zN (zf 1) ze (fun _ _=>rfl)) yx Zo) rfl rfl (by intro z;cases z) (by decide)))
   (w_pss_cons (w_ps_set (i:=4) sc_ql.nd rfl (Or.inl rfl) (zA (zn (zr zN (zf 1) ze (fun _ _=>rfl)) za)))
   (w_pss_cons (w_ps_set (i:=5) sc_ql.nd rfl (Or.inl rfl) ze)
   (w_pss_cons (yA PassesOwn.never (we (yo (wH (zf 4) (fun _=>rfl)) (yd (zl vC (zf 5) (zf 2) (zC _)))))
    (w_pss_cons (w_ps_set (i:=6) sc_ql.nd rfl (Or.inl rfl) (zm c_qk hr.m (zd (zf 0) (zd (zf 1) (zd (zf 3) (zd (zf 4) za))))))
    (w_pss_cons (zH (vn (zf 3) (zf 6) ⟨rfl,rfl,rfl,rfl⟩))
    (w_pss_cons (w_ps_set (i:=4) sc_ql.nd rfl (Or.inl rfl) (zi wR (by rfl) T.n_sorted yi (zd (zf 6) za)))
    (zb (Yu (i:=5) sc_ql.nd rfl (Or.inl rfl) ze zbg))))))
   (zb (zg (zf 3))))))) ?_
  refine fun q hq=>?_
  have s1:=Same.new (o:=HO.dK []) hq
  refine⟨_,rfl,l,_,0,_,rfl,rfl,SqL.of (s1 _ _ hl),h0,?_⟩
  refine⟨upd_same,[(Sum.inl s,V.non)],rfl,(by show 1≤15;decide),?_⟩
  rw[xJ,w8 (kvs:=[(Sum.inl s,V.non)]) (by simp)]
  have ht1:([(Sum.inl s,V.non)]:List (Key×V))=tabV (fun x=>opV ((fun _=>none:Int→Option Int) x)) [s]:=rfl
  rw[ht1]
  have s2:=Same.new (o:=HO.dK (tabV (fun x=>opV ((fun _=>none:Int→Option Int) x)) [s])) hq
  have hq2:=upd_same (H:=H) (a:=q) (o:=HO.dK (tabV (fun x=>opV ((fun _=>none:Int→Option Int) x)) [s]))
  generalize upd H q (HO.dK (tabV (fun x=>opV ((fun _=>none:Int→Option Int) x)) [s]))=H2 at *
  refine⟨_,rfl,l,_,0,_,rfl,rfl,SqL.of (s2 _ _ hl),h0,(by show 1≤sizeLine;decide),fun rg hrg=>?_⟩
  have s3:=s2.trans (Same.new (o:=HO.lst [V.int s]) hrg)
  have nq:q≠rg:=fun z=>by rw[← z,hq2] at hrg;cases hrg
  refine⟨fun m σ H'=>∃ (us ring:LI) (pf:Int→Option Int) (kk:Int) (rg:Addr) (o6:Option V),m=2*(12-us.length)+ring.length.min 1∧σ=[some (.ref p),some (.ref l),some (.int r),some (.ref q),some (.ref rg),some (.int kk),o6]∧H' q=some (.dK (tabV (fun x=>opV (pf x)) us))∧H' rg=some (.lst (ring.map V.int))∧PaC ls us pf∧(∀ x∈us,x∈left)∧s∈us∧(∀ x∈ring,x∈us)∧Same H H',⟨_,[s],[s],fun _=>none,0,rg,none,rfl,rfl,?_,upd_same,⟨by simp,(fun x hx y hy=>by cases hy),(fun x hx y hy=>by cases hy),fun x hx=>⟨[x],.z rfl⟩⟩,(fun x hx=>by rw[List.mem_singleton.mp hx];exact hsl),by simp,(fun x hx=>hx),s3⟩,?_⟩
  ·rw[upd_ne nq]
   exact hq2
  rintro m σ H4 ⟨us,ring,pf,kk,rg,o6,rfl,rfl,hq4,hrg4,pc,hul,hsu,hru,s4⟩
  have us12:us.length≤12:=Nat.le_trans (yX pc.nd fun x hx=>hsub x (hul x hx)) wh.l12
  have fin:Q (V.ref q) H4:=k q us pf H4 hq hq4 pc hul hsu s4
  refine⟨_,rfl,_,.inl ⟨_,SqL.of hrg4,rfl⟩,?_⟩
  cases hrl:ring with
  |nil=>exact iteN (by rfl) ⟨_,rfl,fin⟩
  |cons z0 zs0 =>
   refine iteB (by rfl) ?_
   by_cases hc:kk<r
   ·refine⟨_,rfl,_,rfl,_,_,rfl,rfl,_,rfl,iteB (by simp;omega) ?_⟩
    refine⟨_,fun σ' H' h=>h,?_⟩
    refine⟨_,rfl,_,rfl,_,rfl,_,rfl,p,dx,oh,ol,d0,l,q,rg,ad,hs,left,ring,us,ls,_,rfl,W.same s4,wh,wl,s4 _ _ hl,hq4,hrg4,hsub,(fun x hx=>hsub x (hul x (hru x hx))),fun fq fs g H5 hfq hfq5 ndf memf s5=>?_⟩
    have ndx:(us++fs).Nodup:=by
     rw[List.nodup_append]
     exact⟨pc.nd,ndf,fun x hx y hy e=>(memf y hy).2.1 (by rw[← e];exact hx)⟩
    have pj:=pc.join (vs:=fs) (pg:=fun x=>some (g x)) ndf (fun x hx=>(memf x hx).2.1) (fun x hx y hy=>by
     injection hy with hy
     rw[← hy]
     exact⟨List.mem_append.mpr (.inl (hru _ (memf x hx).2.2.1)),(memf x hx).2.2.2⟩) fun x hx=>.inl ⟨g x,hru _ (memf x hx).2.2.1,rfl⟩
    obtain⟨t1,t2⟩:=uq (f:=fun x=>opV (pf x)) (g:=fun x=>V.int (g x)) (k:=fun x=>opV ((fun z=>if z∈fs then some (g z) else pf z) x)) ndx (fun x hx=>by show opV (if x∈fs then some (g x) else pf x)=_;rw[if_neg fun z=>(memf x z).2.1 hx]) (fun x hx=>by show opV (if x∈fs then some (g x) else pf x)=_;rw[if_pos hx];rfl)
    rw[t1] at hq4
    rw[t2] at hfq5
    generalize (fun z=>if z∈fs then some (g z) else pf z)=pf' at *
    have nfq:q≠fq:=fun z=>by rw[← z,hq4] at hfq;cases hfq
    have f12:fs.length≤12:=Nat.le_trans (yX ndf fun x hx=>hsub x (memf x hx).1) wh.l12
    have uf12:(us++fs).length≤12:=Nat.le_trans (yX ndx fun x hx=>(List.mem_append.mp hx).elim (fun z=>hsub x (hul x z)) fun z=>hsub x (memf x z).1) wh.l12
    refine⟨_,rfl,q,rfl,.inl ⟨_,.inl (s5 _ _ hq4)⟩,_,rfl,fq,_,_,rfl,nfq,s5 _ _ hq4,hfq5,by rw[tabV_len,tabV_len];omega,?_⟩
    rw[wK ndx]
    have hfq6:(upd H5 q (HO.dK (tabV (fun x=>opV (pf' x)) (us++fs)))) fq=some (.dK (tabV (fun x=>opV (pf' x)) fs)):=by rw[upd_ne nfq.symm];exact hfq5
    have s6:Same H (upd H5 q (HO.dK (tabV (fun x=>opV (pf' x)) (us++fs)))):=Same.updF (s4.trans s5) hq
    have hq6:=upd_same (H:=H5) (a:=q) (o:=HO.dK (tabV (fun x=>opV (pf' x)) (us++fs)))
    generalize upd H5 q (HO.dK (tabV (fun x=>opV (pf' x)) (us++fs)))=H6 at *
    refine⟨_,rfl,fq,_,fs,rfl,hfq6,tabV_keys,by omega,fun rg2 ms hrg2 pm sd=>?_⟩
    have s7:=Same.new (o:=HO.lst (ms.map V.int)) hrg2
    refine⟨_,rfl,_,_,rfl,rfl,?_⟩
    have lm:=pm.length_eq
    rw[List.length_append] at uf12
    refine⟨_,?_,us++fs,ms,pf',kk+1,rg2,_,rfl,rfl,s7 _ _ hq6,upd_same,pj,fun x hx=>(List.mem_append.mp hx).elim (hul x) fun z=>(memf x z).1,List.mem_append.mpr (.inl hsu),fun x hx=>List.mem_append.mpr (.inr (pm.mem_iff.mp hx)),s6.trans s7⟩
    rw[List.length_append,lm,List.length_cons]
    simp only[Nat.min_def]
    split<;>split<;>omega
   ·refine⟨_,rfl,_,rfl,_,_,rfl,rfl,_,rfl,iteN (by simp;omega) ?_⟩
    exact⟨_,rfl,fin⟩
theorem XE {lf:Int→Int}:∀ {ls:LP}{acc:List ((Int×Int)×(Int×Int))}{j:(Int×Int)×(Int×Int)},j∈ls.foldl (jst lf) acc→j∈acc∨(j.2∈ls∧lf j.2.1≠lf j.2.2∧j.1=jk lf j.2)
 |[],acc,j,h=>.inl h
 |p::ls,acc,j,h=>by
  rw[List.foldl_cons] at h
  rcases XE (ls:=ls) h with h | ⟨h1,h2⟩
  ·unfold jst at h
   split at h
   ·exact .inl h
   ·split at h
    ·exact .inl h
    ·rcases List.mem_append.mp h with h | h
     ·exact .inl h
     ·rw[List.mem_singleton.mp h]
      exact .inr ⟨List.mem_cons_self,by assumption,rfl⟩
  ·exact .inr ⟨List.mem_cons_of_mem _ h1,h2⟩
theorem zbe {lf:Int→Int}:∀ {ls:LP}{acc:List ((Int×Int)×(Int×Int))},(acc.map (·.1)).Nodup→((ls.foldl (jst lf) acc).map (·.1)).Nodup
 |[],acc,h=>h
 |p::ls,acc,h=>by
  rw[List.foldl_cons]
  refine zbe (ls:=ls) ?_
  unfold jst
  split
  ·exact h
  ·split
   ·exact h
   ·rename_i c
    rw[List.map_append,List.nodup_append]
    exact⟨h,by simp,fun u hu v hv e=>c (by rw[List.map_cons,List.map_nil] at hv;have hv:=List.mem_singleton.mp hv;have e:u=jk lf p:=e.trans hv;rw[← e];exact hu)⟩
def zkg (a:Ad):Sp:=fun vs H Q _=>∃ (p:Addr) (hs:LI) (ls:LP) (r:Int),vs=[.ref p,.int r]∧WbP a H p hs ls ∧
 ∀ (q dx dp ob:Addr) (us:LI) (pf:Int→Option Int) (bs:LP) (H':Hp),WayAt a H' q pf us bs dx dp ob→(∀ x,x∈us↔x∈hs)→Cl us pf→BrL ls bs→GG us ls pf bs→Same H H'→Q (.ref q) H'
theorem zdR (T:Txt w K mg a):FnOk P w K mg base CX0 8 a.f_qm a.d_qm ["web", "reach"] (zkg a):=by
 have c_ql:Callee P w K mg base "parents_in_cluster" a.f_ql a.d_ql ["web", "left", "reach"] 5 (zj4 a):=⟨zdE T,T.g_ql,T.F_ql.kp,T.b_ql⟩
 have c_qh:Callee P w K mg base "first_joins" a.f_qh a.d_qh ["way", "lines"] 3 (zcZ a):=⟨UJ T,T.g_qh,T.F_qh.kp,T.b_qh⟩
 have m_Way:Maker P w K mg base "Way" a.c_Way a.f_qL a.d_qL ["self", "parents", "bridges"] 6 (YH a):=⟨ZQ T,T.g_Way,T.mk_Way,T.b_qL⟩
 refine T.F_qm.ok sc_qm (fun vs H Q E h=>?_) (fun cdv A outer s H vs Q E hr h=>?_)
 ·obtain⟨p,hs,ls,r,rfl,_⟩:=h
  rfl
 ·obtain⟨p,hs,ls,r,rfl,WP,k⟩:=h
  obtain⟨wdx,oh,ol,d0,ad,W⟩:=WP.at_
  have wh:=WP.wh
  have wl:=WP.wl
  have l63:=WP.l63
  have hu:=yQ hr
  have l12:=wh.l12
  refine zM (w_pss_cons (w_ps_set (i:=2) sc_qm.nd rfl (Or.inr rfl) xb)
   (w_pss_cons (w_ps_set (i:=3) sc_qm.nd rfl (Or.inl rfl) (zK (zf 0)))
   (w_pss_cons (yA PassesOwn.never (wH (zf 3) (fun _=>rfl))
    (w_pss_cons (zH (vn (zf 2) (zm c_ql hr.m (zd (zf 0) (zd (zf 3) (zd (zf 1) za)))) ⟨rfl,rfl,rfl,rfl⟩))
    (zb (yU (i:=3) rfl sc_qm.nd rfl (Or.inl rfl) (N':=["hand", "parents"]) (t:=1) (caps:=[2]) ⟨rfl,rfl,rfl⟩ (zw (zf 3)) (fun _=>(zh (i:=0) (show(["hand", "parents"]:List Str).Nodup by decide +kernel) rfl (Or.inl rfl))) (fun _=>(yT (yM (yN hu (zf 0) (zf 1))))) (fun _=>(zf 0))))))
   (w_pss_cons (w_ps_set (i:=4) sc_qm.nd rfl (Or.inl rfl) (zm c_qh hr.m (zI (vj m_Way hr.m (zd (zf 2) (zn (zA za) za))) (zI (zK (zf 0)) za))))
   (zb (zg (vj m_Way hr.m (zd (zf 2) (zI (vT rfl (by rfl) T.n_sorted yi (zf 4)) za))))))))) ?_
  refine fun d hd=>?_
  have s1:=Same.new (o:=HO.dK []) hd
  refine⟨_,rfl,p,_,wdx,_,_,_,_,_,_,rfl,s1 _ _ W.p,rfl,T.cl_Web,T.mt_qS,wt (P:=P) (w:=w) T,hr.m,T.b_qS,p,hs,ls,wdx,oh,ol,d0,ad,rfl,W.same s1,fun l0 hl0=>?_⟩
  have nl0:d≠l0:=fun z=>by rw[← z,upd_same] at hl0;cases hl0
  have s2:=s1.trans (Same.new (o:=HO.lst (hs.map V.int)) hl0)
  refine⟨fun m σ H'=>∃ (us left:LI) (pf:Int→Option Int) (l:Addr) (o4:Option V),m=left.length∧σ=[some (.ref p),some (.int r),some (.ref d),some (.ref l),o4]∧H' d=some (.dK (tabV (fun x=>opV (pf x)) us))∧H' l=some (.lst (left.map V.int))∧PaC ls us pf∧(∀ x,x∈hs↔x∈us∨x∈left)∧(∀ x∈left,x∉us)∧left.length≤12∧Same H H',⟨_,[],hs,fun _=>none,l0,none,rfl,rfl,?_,upd_same,⟨List.nodup_nil,(fun x hx=>(nomatch hx)),(fun x hx=>(nomatch hx)),(fun x hx=>(nomatch hx))⟩,(fun x=>by simp),(fun x _=>by simp),l12,s2⟩,?_⟩
  ·rw[upd_ne nl0]
   exact upd_same
  rintro m σ H3 ⟨us,left,pf,l,o4,rfl,rfl,hd3,hl3,pc,hm,dj,lf12,s3⟩
  refine⟨_,rfl,_,.inl ⟨_,SqL.of hl3,rfl⟩,?_⟩
  have us12:us.length≤12:=Nat.le_trans (yX pc.nd fun x hx=>(hm x).mpr (.inl hx)) l12
  cases hcl:left with
  |nil =>
   refine iteN (by rfl) ?_
   have hmem:∀ x,x∈us↔x∈hs:=fun x=>by rw[hm x,hcl];simp
   have U:=UpP.of pc.cl pc.en
   refine⟨_,rfl,(by show 0≤sizeLine;decide),fun e0 he0=>?_⟩
   have s4:=Same.new (o:=HO.lst []) he0
   have he4:=upd_same (H:=H3) (a:=e0) (o:=HO.lst [])
   generalize upd H3 e0 (HO.lst [])=H4 at *
   refine fun x dx nx ndx nex=>?_
   have m5:Same H4 (upd (upd H4 dx (.own x)) x (.ins a.c_Way dx [])):=(Same.new ndx).updF nx
   refine⟨x,dx,d,e0,pf,us,[],[],rfl,upd_same,m5 _ _ (s4 _ _ hd3),pc.nd,us12,m5 _ _ he4,⟨rfl,fun i r p h=>by simp at h⟩,Nat.zero_le _,fun dp ob H5 fdp fob x5 W5=>⟨rfl,?_⟩⟩
   have s5:Same H4 H5:=fun b o e=>x5 b o (m5 b o e) (ne_of_none e nx)
   have s35:=s4.trans s5
   have s05:=s3.trans s35
   refine⟨_,rfl,p,_,wdx,_,_,_,_,_,_,rfl,s05 _ _ W.p,rfl,T.cl_Web,T.mt_qT,ZR (P:=P) (w:=w) T,hr.m,T.b_qT,p,hs,ls,wdx,oh,ol,d0,ad,rfl,W.same s05,fun lq zs hlq Lz=>?_⟩
   have s6:=Same.new (o:=HO.lst zs) hlq
   have sm:∀ {q},q∈srt ls↔q∈ls:=fun {q}=>(zJ ls).mem_iff
   have sl:(srt ls).length=ls.length:=(zJ ls).length_eq
   have Bs:Bd (srt ls):=fun q hq=>(wl.bd wh) q (sm.mp hq)
   refine⟨x,dx,dp,ob,lq,pf,paO pf,us,[],srt ls,zs,rfl,W5.same s6,U,upd_same,Lz.same s6,Bs,by omega,fun q hq=>?_,fun jd js H7 hjd hj7 ej ps7 s7=>?_⟩
   ·have:=wl.ok q (sm.mp hq)
    exact⟨(hmem _).mpr this.1,(hmem _).mpr this.2.1⟩
   have s37:=s35.trans (s6.trans s7)
   have hd7:=s37 _ _ hd3
   have ljs:js.length≤63:=by
    have h1:=congrArg List.length ej
    unfold tlJ at h1
    rw[List.length_map] at h1
    have h2:=XF (lf:=ldr (paO pf)) (ls:=srt ls)
    omega
   refine⟨_,rfl,_,rfl,jd,kvJ js,js.map (·.2),rfl,hj7,?_,by rw[List.length_map];exact ljs,ps7,fun sl qs hsl pm up=>?_⟩
   ·unfold kvJ
    rw[List.map_map,List.map_map]
    rfl
   have s8:=Same.new (o:=HO.lst (qs.map fun p=>V.ref p.1)) hsl
   have L8:=(wV ps7 pm up).same s8
   have eb:(js.map (·.2)).map (·.2)=(jn (ldr (paO pf)) (srt ls)).map (·.2):=by
    rw[← ej]
    unfold tlJ
    rw[List.map_map,List.map_map]
    rfl
   have lbs:((js.map (·.2)).map (·.2)).length≤63:=by rw[List.length_map,List.length_map];exact ljs
   rw[eb] at L8 lbs
   have hsl8:=upd_same (H:=H7) (a:=sl) (o:=HO.lst (qs.map fun p=>V.ref p.1))
   generalize qs.map (fun p=>V.ref p.1)=zs8 at *
   generalize upd H7 sl (HO.lst zs8)=H8 at *
   have bm:∀ {b},b∈srt ((jn (ldr (paO pf)) (srt ls)).map (·.2))↔∃ j∈jn (ldr (paO pf)) (srt ls),j.2=b:=fun {b}=>by rw[(zJ _).mem_iff,List.mem_map]
   have jm:∀ j∈jn (ldr (paO pf)) (srt ls),j.2∈ls∧ldr (paO pf) j.2.1≠ldr (paO pf) j.2.2∧j.1=jk (ldr (paO pf)) j.2:=fun j hj=>by
    rcases XE hj with h | ⟨h1,h2⟩
    ·cases h
    ·exact⟨sm.mp h1,h2⟩
   have jnd:((jn (ldr (paO pf)) (srt ls)).map (·.1)).Nodup:=zbe (by simp)
   have jkey:∀ {k:Int×Int},k∈(jn (ldr (paO pf)) (srt ls)).map (·.1)↔∃ p∈srt ls,ldr (paO pf) p.1≠ldr (paO pf) p.2∧jk (ldr (paO pf)) p=k:=fun {k}=>by
    unfold jn
    rw[uJ]
    simp
   have bnd:(srt ((jn (ldr (paO pf)) (srt ls)).map (·.2))).Nodup:=by
    refine(zJ _).nodup_iff.mpr ?_
    have go:∀ {l:List ((Int×Int)×(Int×Int))},(l.map (·.1)).Nodup→(∀ j∈l,j.1=jk (ldr (paO pf)) j.2)→(l.map (·.2)).Nodup:=by
     intro l
     induction l with
     |nil=>intro _ _;exact List.nodup_nil
     |cons j l ih =>
      intro h1 h2
      rw[List.map_cons,List.nodup_cons] at h1 ⊢
      refine⟨fun z=>?_,ih h1.2 fun j hj=>h2 j (List.mem_cons_of_mem _ hj)⟩
      obtain⟨j',hj',e⟩:=List.mem_map.mp z
      exact h1.1 (List.mem_map.mpr ⟨j',hj',by rw[h2 j' (List.mem_cons_of_mem _ hj'),e,← h2 j List.mem_cons_self]⟩)
    exact go jnd fun j hj=>(jm j hj).2.2
   have gg:GG us ls pf (srt ((jn (ldr (paO pf)) (srt ls)).map (·.2))):=by
    refine⟨⟨pc.ad,pc.en,fun b hb=>?_,bnd⟩,fun q hq hne=>?_⟩
    ·obtain⟨j,hj,rfl⟩:=bm.mp hb
     have:=jm j hj
     exact⟨Int.le_of_lt (wl.ok _ this.1).2.2,this.2.1⟩
    ·obtain⟨j,hj,e⟩:=List.mem_map.mp (jkey.mpr ⟨q,sm.mpr hq,hne,rfl⟩)
     exact⟨j.2,bm.mpr ⟨j,hj,rfl⟩,by rw[← (jm j hj).2.2];exact e⟩
   have brl:BrL ls (srt ((jn (ldr (paO pf)) (srt ls)).map (·.2))):=fun b hb=>by
    obtain⟨j,hj,rfl⟩:=bm.mp hb
    unfold adB
    rw[Bool.or_eq_true]
    exact .inl (decide_eq_true (jm j hj).1)
   have lbs2:(srt ((jn (ldr (paO pf)) (srt ls)).map (·.2))).length≤200:=by rw[(zJ _).length_eq];omega
   generalize srt ((jn (ldr (paO pf)) (srt ls)).map (·.2))=bs at *
   refine fun x2 dx2 nx2 ndx2 nex2=>?_
   have m9:Same H8 (upd (upd H8 dx2 (.own x2)) x2 (.ins a.c_Way dx2 [])):=(Same.new ndx2).updF nx2
   refine⟨x2,dx2,d,sl,pf,us,zs8,bs,rfl,upd_same,m9 _ _ (s8 _ _ hd7),pc.nd,us12,m9 _ _ hsl8,L8.same m9,lbs2,fun dp2 ob2 H9 fdp2 fob2 x9 W9=>⟨rfl,?_⟩⟩
   have s9:Same H8 H9:=fun b o e=>x9 b o (m9 b o e) (ne_of_none e nx2)
   exact k x2 dx2 dp2 ob2 us pf bs H9 W9 hmem pc.cl brl gg (s3.trans (s37.trans (s8.trans s9)))
  |cons s0 lt =>
   refine iteB (by rfl) ?_
   refine⟨_,fun σ' H' h=>h,?_⟩
   rw[hcl] at hl3 hm dj lf12
   have hlh:∀ x∈s0::lt,x∈hs:=fun x hx=>(hm x).mpr (.inr hx)
   refine⟨_,rfl,d,rfl,.inl ⟨_,.inl hd3⟩,_,rfl,_,rfl,_,rfl,p,wdx,oh,ol,d0,l,ad,hs,lt,s0,r,ls,rfl,W.same s3,wh,wl,hl3,hlh,fun q cu pg H4 hq hq4 pcc hcl2 hs0 s4=>?_⟩
   have ndq:d≠q:=fun z=>by rw[← z,hd3] at hq;cases hq
   have ndx:(us++cu).Nodup:=by
    rw[List.nodup_append]
    exact⟨pc.nd,pcc.nd,fun x hx y hy e=>dj y (hcl2 y hy) (by rw[← e];exact hx)⟩
   have c12:cu.length≤12:=Nat.le_trans (yX pcc.nd fun x hx=>hlh x (hcl2 x hx)) l12
   have pj:=pc.join (vs:=cu) (pg:=pg) pcc.nd (fun x hx=>dj x (hcl2 x hx)) (fun x hx y hy=>⟨List.mem_append.mpr (.inr (pcc.cl x hx y hy)),pcc.ad x hx y hy⟩) fun x hx=>.inr ⟨pcc.cl,pcc.en x hx⟩
   obtain⟨t1,t2⟩:=uq (f:=fun x=>opV (pf x)) (g:=fun x=>opV (pg x)) (k:=fun x=>opV ((fun z=>if z∈cu then pg z else pf z) x)) ndx (fun x hx=>by show opV (if x∈cu then pg x else pf x)=_;rw[if_neg fun z=>dj x (hcl2 x z) hx]) (fun x hx=>by show opV (if x∈cu then pg x else pf x)=_;rw[if_pos hx])
   have hd4:=s4 _ _ hd3
   rw[t1] at hd4
   rw[t2] at hq4
   generalize (fun z=>if z∈cu then pg z else pf z)=pf' at *
   refine⟨q,_,_,rfl,ndq,hd4,hq4,by rw[tabV_len,tabV_len];omega,?_⟩
   rw[wK ndx]
   have s5:Same H (upd H4 d (HO.dK (tabV (fun x=>opV (pf' x)) (us++cu)))):=Same.updF (s3.trans s4) hd
   have hd5:=upd_same (H:=H4) (a:=d) (o:=HO.dK (tabV (fun x=>opV (pf' x)) (us++cu)))
   have ndl:l≠d:=fun z=>by rw[z,hd3] at hl3;cases hl3
   have hl5:(upd H4 d (HO.dK (tabV (fun x=>opV (pf' x)) (us++cu)))) l=some (.lst ((s0::lt).map V.int)):=by rw[upd_ne ndl];exact s4 _ _ hl3
   generalize upd H4 d (HO.dK (tabV (fun x=>opV (pf' x)) (us++cu)))=H5 at *
   refine⟨_,rfl,l,rfl,⟨_,SqL.of hl5⟩,fun D hD _=>?_⟩
   have nDd:D≠d:=fun z=>by rw[z,hd5] at hD;cases hD
   refine yh (K:=K) (a:=l) (xs:=(s0::lt).map V.int) (fun i zs τ H'=>∃ (o:Option V),τ=[o,some (.ref d)]∧zs=(((s0::lt).take i).filter fun x=>decide (x∉us++cu)).map V.int∧H'=upd H5 D (.lst zs)) ?_ ?_ ?_ ?_
   ·exact⟨none,rfl,rfl,rfl⟩
   ·rintro i zs τ H' ⟨o,_,_,rfl⟩
    exact SqL.of (by rw[upd_ne (ne_of_none hl5 hD)];exact hl5)
   ·rintro i v zs τ H' hi ⟨o,rfl,rfl,rfl⟩
    rw[List.getElem?_map] at hi
    obtain⟨x,hx,rfl⟩:=Option.map_eq_some_iff.mp hi
    have etk:(s0::lt).take (i+1)=(s0::lt).take i++[x]:=by rw[List.take_add_one,hx];rfl
    have hd6:(upd H5 D (HO.lst ((((s0::lt).take i).filter fun x=>decide (x∉us++cu)).map V.int))) d=some (.dK (tabV (fun x=>opV (pf' x)) (us++cu))):=by rw[upd_ne nDd.symm];exact hd5
    have hlen:((((s0::lt).take i).filter fun x=>decide (x∉us++cu)).map V.int).length<sizeLine:=by
     rw[List.length_map]
     have h1:=List.length_filter_le (fun x=>decide (x∉us++cu)) ((s0::lt).take i)
     rw[List.length_take] at h1
     exact zj (by omega)
    by_cases c:x∈us++cu
    ·refine⟨_,rfl,_,rfl,d,_,rfl,xz hd6 c,_,rfl,iteN rfl ?_⟩
     refine⟨_,rfl,?_,rfl⟩
     rw[etk,List.filter_append,List.filter_cons_of_neg (by simp[c]),List.filter_nil,List.append_nil]
    ·refine⟨_,rfl,_,rfl,d,none,rfl,vY hd6 c,_,rfl,xH ?_⟩
     refine⟨_,rfl,upd_same,hlen,_,rfl,?_,?_⟩
     ·rw[etk,List.filter_append,List.filter_cons_of_pos (by simpa using c),List.filter_nil,List.map_append]
      rfl
     ·rw[xJ]
   ·rintro zs τ H' ⟨o,rfl,rfl,rfl⟩
    rw[List.length_map,List.take_length]
    have s0n:s0∈us++cu:=List.mem_append.mpr (.inr hs0)
    have lfil:((s0::lt).filter fun x=>decide (x∉us++cu)).length≤lt.length:=by
     rw[List.filter_cons_of_neg (by simp[hs0])]
     exact List.length_filter_le _ _
    refine⟨_,?_,us++cu,(s0::lt).filter (fun x=>decide (x∉us++cu)),pf',D,_,rfl,rfl,?_,upd_same,pj,fun x=>?_,fun x hx=>of_decide_eq_true (List.mem_filter.mp hx).2,?_,s5.trans (Same.new hD)⟩
    ·rw[List.length_cons];omega
    ·rw[upd_ne nDd.symm];exact hd5
    ·rw[hm x,List.mem_append,List.mem_filter]
     constructor
     ·rintro(h | h)
      ·exact .inl (.inl h)
      ·by_cases c:x∈us++cu
       ·exact .inl (List.mem_append.mp c)
       ·exact .inr ⟨h,decide_eq_true c⟩
     ·rintro((h | h) | h)
      ·exact .inl h
      ·exact .inr (hcl2 x h)
      ·exact .inr h.1
    ·rw[List.length_cons] at lf12;omega
open L2.Sco (PT PsAt)
theorem ZD {lf:Int→Int}{k:Int×Int}{ds es:LP}:sel lf k (ds++es)=sel lf k ds++sel lf k es:=by
 unfold sel
 rw[List.filter_append]
def Uo:Sp:=fun vs H Q _=>∃ (d:Addr) (pf:Int→Option Int) (us:LI) (x:Int) (p:LI),vs=[.ref d,.int x]∧H d=some (.dK (tabV (fun x=>opV (pf x)) us))∧us.length≤12∧Cl us pf∧x∈us∧En pf x p∧∀ (l:Addr),H l=none→Q (.ref l) (upd H l (.lst (p.map V.int)))
theorem UD (T:Txt w K mg a):FnOk P w K mg base CX0 1 a.f_qE a.d_qE ["_law_parents", "_law_hand"] Uo:=(Xz T).imp fun vs H Q E h=>by
 obtain⟨d,pf,us,x,p,rfl,hd,l12,C,hx,hp,k⟩:=h
 exact⟨d,pf,us,x,rfl,hd,l12,C,hx,fun l p' hp' hl=>by rw[hp'.fn hp];exact k l hl,fun h=>absurd ⟨_,hp⟩ h⟩
def zj7:Sp:=fun vs H Q _=>∃ (d lb:Addr) (pf:Int→Option Int) (pa:Int→LI) (us:LI) (rb:List V) (bs:LP) (h n:Int) (Eo:Int→Prop),vs=[.ref d,.ref lb,.int h,.int n]∧H d=some (.dK (tabV (fun x=>opV (pf x)) us))∧us.length≤12∧Cl us pf∧(∀ z,Eo z→z∈us∧En pf z (pa z))∧H lb=some (.lst rb)∧LnAt H rb bs∧Bd bs∧bs.length≤63∧(∀ q∈bs,Eo q.1∧Eo q.2)∧Eo h∧Eo n ∧
 ∀ (l:Addr) (H':Hp),H l=none→LLf H H' l (rfs pa (dbl (srt bs)) h n)→Same H H'→Q (.ref l) H'
theorem zdI (T:Txt w K mg a):FnOk P w K mg base CX0 2 a.f_qH a.d_qH ["_law_parents", "_law_bridges", "_law_hand", "_law_other"] zj7:=by
 have c_qE:Callee P w K mg base "_law_up" a.f_qE a.d_qE ["_law_parents", "_law_hand"] 1 Uo:=⟨UD T,T.g_qE,T.F_qE.kp,T.b_qE⟩
 refine T.F_qH.ok sc_qH (fun vs H Q E h=>?_) (fun cdv A outer s H vs Q E hr h=>?_)
 ·obtain⟨d,lb,pf,pa,us,rb,bs,h,n,Eo,rfl,_⟩:=h
  rfl
 ·obtain⟨d,lb,pf,pa,us,rb,bs,h,n,Eo,rfl,hd,l12,C,hE,hlb,L,B,l66,hin,hh,hn,k⟩:=h
  have lsE:∀ {z},Eo z→∃ ys,pa z=ys++[ldr pa z]:=fun {z} hz=>by
   obtain⟨ys,z',e,_⟩:=(hE z hz).2.lst
   refine⟨ys,?_⟩
   have:ldr pa z=z':=by
    unfold ldr
    rw[e,List.getLastD_eq_getLast?,List.getLast?_append]
    simp
   rw[this]
   exact e
  have lst:∀ {z},Eo z→atI ((pa z).map V.int) (-1)=some (V.int (ldr pa z)):=fun {z} hz=>by
   obtain⟨ys,e⟩:=lsE hz
   rw[e,List.map_append]
   exact at_last
  have fst:∀ {z},Eo z→atI (((pa z).map V.int).reverse) 0=some (V.int (ldr pa z)):=fun {z} hz=>by
   obtain⟨ys,e⟩:=lsE hz
   refine zY (j:=0) ?_
   rw[e,List.map_append,List.reverse_append]
   rfl
  have ln:∀ {z},Eo z→1≤(pa z).length∧(pa z).length≤12:=fun {z} hz=>⟨by obtain⟨ys,e⟩:=lsE hz;rw[e];simp,Nat.le_trans (yX (hE z hz).2.nd ((hE z hz).2.mem C (hE z hz).1)) l12⟩
  have lh:=ln hh
  have lnn:=ln hn
  refine zM (w_pss_cons (w_ps_set (i:=4) sc_qH.nd rfl (Or.inl rfl) (zm c_qE hr.m (zd (zf 0) (zd (zf 3) za))))
   (w_pss_cons (w_ps_set (i:=5) sc_qH.nd rfl (Or.inl rfl) (uj (zm c_qE hr.m (zd (zf 0) (zd (zf 2) za))) (yj yJ ze)))
   (w_pss_cons (zu (zl xo (zr zN (zf 4) (yj yJ ze) (fun _ _=>rfl)) (zr zN (zf 5) ze (fun _ _=>rfl)) (zC _))
    (zb (zg (zA (xy (zq xk (zf 4) (zV yC (zf 5) (w_po_some ze) yf)) za))))
    zk)
   (w_pss_cons (w_ps_set (i:=6) sc_qH.nd rfl (Or.inl rfl) (zA za))
   (w_pss_cons (zE PassesOwn.never rfl (zw (zi Sco.call_sortX (by rfl) T.n_sorted yi (zd (zf 1) za))) (zZ rfl (zp (zh (i:=7) sc_qH.nd rfl (Or.inl rfl)) (zp (zh (i:=8) sc_qH.nd rfl (Or.inl rfl)) zQ)))
    (zb (zE PassesOwn.never rfl (zw (zA (xM (zP (zd (zf 7) (zd (zf 8) za))) (xM (zP (zd (zf 8) (zd (zf 7) za))) za)))) (zZ rfl (zp (zh (i:=9) sc_qH.nd rfl (Or.inl rfl)) (zp (zh (i:=10) sc_qH.nd rfl (Or.inl rfl)) zQ)))
     (zb (zu (we (yo (zl xo (zr zN (zm c_qE hr.m (zd (zf 0) (zd (zf 9) za))) (yj yJ ze) (fun _ _=>rfl)) (zr zN (zf 4) (yj yJ ze) (fun _ _=>rfl)) (zC _)) (yd (zl xo (zr zN (zm c_qE hr.m (zd (zf 0) (zd (zf 10) za))) (yj yJ ze) (fun _ _=>rfl)) (zr zN (zf 5) ze (fun _ _=>rfl)) (zC _)))))
      (zb (zH (ya PySem.F.plainAttrs_list PySem.F.slot_list_append PySem.F.type_list_append zL (zf 6) (xy (zq xk (zq xk (zq xk (zf 4) (zV yC (uj (zm c_qE hr.m (zd (zf 0) (zd (zf 9) za))) (yj yJ ze)) (w_po_some ze) yf)) (zm c_qE hr.m (zd (zf 0) (zd (zf 10) za)))) (zV yC (zf 5) (w_po_some ze) yf)) za))))
      zk)))))
   (zb (zg (zf 6)))))))) ?_
  refine⟨_,rfl,_,rfl,d,pf,us,n,pa n,rfl,hd,l12,C,(hE _ hn).1,(hE _ hn).2,fun l1 hl1=>?_⟩
  have s1:=Same.new (o:=HO.lst ((pa n).map V.int)) hl1
  have h1:=upd_same (H:=H) (a:=l1) (o:=HO.lst ((pa n).map V.int))
  generalize upd H l1 (HO.lst ((pa n).map V.int))=H1 at *
  refine⟨_,rfl,_,rfl,d,pf,us,h,pa h,rfl,s1 _ _ hd,l12,C,(hE _ hh).1,(hE _ hh).2,fun l2 hl2=>?_⟩
  have s2:=s1.trans (Same.new (o:=HO.lst ((pa h).map V.int)) hl2)
  have h2:=Same.new (o:=HO.lst ((pa h).map V.int)) hl2 _ _ h1
  refine⟨_,rfl,rfl,l2,_,rfl,SqL.of upd_same,fun l3 hl3=>?_⟩
  have s3:=s2.trans (Same.new (o:=HO.lst ((pa h).map V.int).reverse) hl3)
  have h31:=Same.new (o:=HO.lst ((pa h).map V.int).reverse) hl3 _ _ h2
  have h33:=upd_same (H:=upd H1 l2 (HO.lst ((pa h).map V.int))) (a:=l3) (o:=HO.lst ((pa h).map V.int).reverse)
  generalize upd (upd H1 l2 (HO.lst ((pa h).map V.int))) l3 (HO.lst ((pa h).map V.int).reverse)=H3 at *
  refine⟨_,rfl,_,rfl,l1,_,-1,_,rfl,rfl,SqL.of h31,lst hn,_,rfl,l3,_,0,_,rfl,rfl,SqL.of h33,fst hh,rfl,_,rfl,?_⟩
  by_cases c:ldr pa n=ldr pa h
  ·refine iteB (by rw[c];simp) ?_
   refine⟨_,rfl,_,rfl,_,rfl,l3,_,rfl,SqL.of h33,fun l4 hl4=>?_⟩
   rw[zbm (by simp;omega)]
   have s4:=Same.new (o:=HO.lst (((pa h).map V.int).reverse.drop 1)) hl4
   refine⟨l1,l4,_,_,rfl,rfl,s4 _ _ h31,upd_same,Nat.le_of_lt (zj (by rw[List.length_drop,List.length_reverse,List.length_map,List.length_map];omega)),fun l5 hl5=>?_⟩
   have s5:=s3.trans (s4.trans (Same.new (o:=HO.lst ((pa n).map V.int++((pa h).map V.int).reverse.drop 1)) hl5))
   have f5:H l5=none:=(s3.trans s4).free hl5
   have h5:=upd_same (H:=upd H3 l4 (HO.lst (((pa h).map V.int).reverse.drop 1))) (a:=l5) (o:=HO.lst ((pa n).map V.int++((pa h).map V.int).reverse.drop 1))
   generalize upd (upd H3 l4 (HO.lst (((pa h).map V.int).reverse.drop 1))) l5 (HO.lst ((pa n).map V.int++((pa h).map V.int).reverse.drop 1))=H5 at *
   refine⟨(by show 1≤sizeLine;decide),fun l6 hl6=>?_⟩
   have s6:=Same.new (o:=HO.lst [V.ref l5]) hl6
   refine k l6 _ (s5.free hl6) ⟨[(l5,rdW pa h n)],upd_same,fun q hq=>?_,?_⟩ (s5.trans s6)
   ·rw[List.mem_singleton.mp hq]
    refine⟨?_,f5⟩
    rw[s6 _ _ h5]
    unfold rdW
    rw[List.map_append,List.map_drop,List.map_reverse]
   ·unfold rfs
    rw[if_pos c]
    rfl
  ·refine iteN (by simp[c]) ?_
   have er:rfs pa (dbl (srt bs)) h n=(sel (ldr pa) (ldr pa n,ldr pa h) (dbl (srt bs))).map (rdO pa h n):=by unfold rfs;rw[if_neg c]
   rw[er] at k
   refine⟨(by show 0≤sizeLine;decide),fun lf hlf=>?_⟩
   have s4:=s3.trans (Same.new (o:=HO.lst []) hlf)
   have n4:=Same.new (o:=HO.lst []) hlf
   have h41:=n4 _ _ h31
   have h43:=n4 _ _ h33
   have h4f:=upd_same (H:=H3) (a:=lf) (o:=HO.lst [])
   have flf:H lf=none:=s3.free hlf
   generalize upd H3 lf (HO.lst [])=H4 at *
   obtain⟨ps,e1,e2,e3⟩:=(L.same s4).ps B
   have lps:ps.length≤63:=by rw[← e2,List.length_map] at l66;exact l66
   refine⟨_,rfl,lb,ps,rfl,by rw[e1];exact SqL.of (s4 _ _ hlb),lps,e3,fun sl qs hsl pm up=>?_⟩
   have Ls:=wV e3 pm up
   rw[e2] at Ls
   have n5:=Same.new (o:=HO.lst (qs.map fun p=>V.ref p.1)) hsl
   have hs5:=upd_same (H:=H4) (a:=sl) (o:=HO.lst (qs.map fun p=>V.ref p.1))
   generalize upd H4 sl (HO.lst (qs.map fun p=>V.ref p.1))=H5 at *
   generalize hrq:qs.map (fun p=>V.ref p.1)=rq at *
   have s5:=s4.trans n5
   have h51:=n5 _ _ h41
   have h53:=n5 _ _ h43
   have h5f:=n5 _ _ h4f
   have Ls5:=Ls.same n5
   have hsm:∀ {x:Int×Int},x∈srt bs↔x∈bs:=fun {x}=>(zJ bs).mem_iff
   have lsl:(srt bs).length≤66:=by rw[(zJ bs).length_eq];omega
   have lr:=Ls5.1
   generalize srt bs=sb at *
   refine⟨sl,rfl,⟨_,SqL.of hs5⟩,?_⟩
   have nsf:sl≠lf:=fun z=>by rw[z,h4f] at hsl;cases hsl
   have n1f:l1≠lf:=fun z=>by rw[z,hlf] at h31;cases h31
   have n3f:l3≠lf:=fun z=>by rw[z,hlf] at h33;cases h33
   have d5:=s5 _ _ hd
   have ndf:d≠lf:=fun z=>by rw[z,flf] at hd;cases hd
   have LX:∀ {G:Hp},Ext lf H5 G→LnAt G rq sb:=fun {G} x=>⟨Ls5.1,fun n r p a1 a2=>by
    obtain⟨qq,b1,b2⟩:=Ls5.2 n r p a1 a2
    exact⟨qq,b1,x _ _ b2 fun z=>by rw[z,h5f] at b2;cases b2⟩⟩
   -- the roads found so far,by the directed bridges gone over
   generalize hF:(fun(H':Hp) (ds:LP)=>∃ ps:List (Addr×LI),H' lf=some (.lst (ps.map fun p=>V.ref p.1))∧(∀ p∈ps,H' p.1=some (.lst (p.2.map V.int))∧p.1≠lf∧H p.1=none)∧ps.map (·.2)=(sel (ldr pa) (ldr pa n,ldr pa h) ds).map (rdO pa h n))=F
   have Fsame:∀ {G G':Hp} {ds},F G ds→Same G G'→F G' ds:=by
    intro G G' ds f s
    rw[← hF] at f ⊢
    obtain⟨ps,f1,f2,f3⟩:=f
    exact⟨ps,s _ _ f1,fun p hp=>⟨s _ _ (f2 p hp).1,(f2 p hp).2⟩,f3⟩
   refine for_list (xs:=rq) (fun i σ H'=>∃ (o7 o8 o9 o10:Option V),σ=[some (.ref d),some (.ref lb),some (.int h),some (.int n),some (.ref l1),some (.ref l3),some (.ref lf),o7,o8,o9,o10]∧F H' (dbl (sb.take i))∧Ext lf H5 H') ?_ ?_ ?_ ?_
   ·refine⟨none,none,none,none,rfl,?_,Ext.refl⟩
    rw[← hF]
    exact⟨[],h5f,(fun p hp=>(nomatch hp)),by simp[dbl,sel]⟩
   ·rintro i σ H' hi ⟨o7,o8,o9,o10,_,_,x⟩
    exact SqL.of (x _ _ hs5 nsf)
   ·rintro i v σ H6 hi ⟨o7,o8,o9,o10,rfl,f6,x6⟩
    obtain⟨⟨x,y⟩,q,hp,rfl,hq⟩:=(LX x6).get hi
    have hpm:=hin _ (hsm.mp (List.mem_of_getElem? hp))
    have hi66:i<66:=by
     have:=(List.getElem?_eq_some_iff.mp hp).1
     omega
    obtain⟨hx,hy⟩:=hpm
    dsimp only at hx hy hq
    have etk:sb.take (i+1)=sb.take i++[(x,y)]:=by rw[List.take_add_one,hp];rfl
    refine⟨q,_,rfl,SqT.of hq,rfl,_,_,rfl,_,_,rfl,rfl,?_⟩
    refine⟨_,rfl,_,rfl,(by show 2≤sizeLine;decide),fun t1 ht1=>?_⟩
    have m1:=Same.new (o:=HO.tup [V.int x,V.int y]) ht1
    have g1:=upd_same (H:=H6) (a:=t1) (o:=HO.tup [V.int x,V.int y])
    generalize upd H6 t1 (HO.tup [V.int x,V.int y])=H7 at *
    refine⟨_,rfl,_,rfl,(by show 2≤sizeLine;decide),fun t2 ht2=>?_⟩
    have m2:=Same.new (o:=HO.tup [V.int y,V.int x]) ht2
    have g2:=upd_same (H:=H7) (a:=t2) (o:=HO.tup [V.int y,V.int x])
    generalize upd H7 t2 (HO.tup [V.int y,V.int x])=H8 at *
    refine⟨(by show 2≤sizeLine;decide),fun li hli=>?_⟩
    have m3:=Same.new (o:=HO.lst [V.ref t1,V.ref t2]) hli
    have g3:=upd_same (H:=H8) (a:=li) (o:=HO.lst [V.ref t1,V.ref t2])
    generalize upd H8 li (HO.lst [V.ref t1,V.ref t2])=H9 at *
    have m13:=(m1.trans m2).trans m3
    have x9:=x6.trans (Ext.same m13)
    have f9:=Fsame f6 m13
    have L9:LnAt H9 [V.ref t1,V.ref t2] [(x,y),(y,x)]:=by
     have z0:LnAt H9 [] []:=⟨rfl,fun n r p a1=>by simp at a1⟩
     exact(z0.snoc (p:=(x,y)) (m3 _ _ (m2 _ _ g1))).snoc (p:=(y,x)) (m3 _ _ g2)
    have h9f:∃ zs,H9 lf=some (.lst zs):=by
     rw[← hF] at f9
     obtain⟨ps,f1,_⟩:=f9
     exact⟨_,f1⟩
    have nif:li≠lf:=fun z=>by
     rw[← hF] at f6
     obtain⟨ps,f1,_⟩:=f6
     rw[z,(m1.trans m2) _ _ f1] at hli
     cases hli
    refine⟨li,rfl,⟨_,SqL.of g3⟩,?_⟩
    refine for_list (xs:=[V.ref t1,V.ref t2]) (fun j σ H'=>∃ (o9 o10:Option V),σ=[some (.ref d),some (.ref lb),some (.int h),some (.int n),some (.ref l1),some (.ref l3),some (.ref lf),some (.int x),some (.int y),o9,o10]∧F H' (dbl (sb.take i)++[(x,y),(y,x)].take j)∧Ext lf H9 H') ?_ ?_ ?_ ?_
    ·exact⟨_,_,rfl,by simpa using f9,Ext.refl⟩
    ·rintro j σ H' hj ⟨o9,o10,_,_,xx⟩
     exact SqL.of (xx _ _ g3 nif)
    ·rintro j v σ G hj ⟨o9,o10,rfl,f,xG⟩
     obtain⟨⟨u,v⟩,q',hp',rfl,hq'⟩:=L9.get hj
     dsimp only at hq'
     have huv:Eo u∧Eo v:=by
      have:=List.mem_of_getElem? hp'
      rcases List.mem_cons.mp this with z | z
      ·cases z;exact⟨hx,hy⟩
      ·cases List.mem_singleton.mp z;exact⟨hy,hx⟩
     have etj:([(x,y),(y,x)]:LP).take (j+1)=([(x,y),(y,x)]:LP).take j++[(u,v)]:=by rw[List.take_add_one,hp'];rfl
     rw[etj,← List.append_assoc]
     generalize hds:dbl (sb.take i)++([(x,y),(y,x)]:LP).take j=ds at *
     have lds:ds.length≤140:=by
      rw[← hds,List.length_append,xq,List.length_take,List.length_take]
      simp
      omega
     have nqf:q'≠lf:=fun z=>by
      obtain⟨zs,h9f⟩:=h9f
      rw[z,h9f] at hq'
      cases hq'
     have xx:=x9.trans xG
     refine⟨q',_,rfl,SqT.of (xG _ _ hq' nqf),rfl,_,_,rfl,_,_,rfl,rfl,?_⟩
     have dG:=xx _ _ d5 ndf
     refine⟨_,rfl,_,rfl,d,pf,us,u,pa u,rfl,dG,l12,C,(hE _ huv.1).1,(hE _ huv.1).2,fun r1 hr1=>?_⟩
     have a1:=Same.new (o:=HO.lst ((pa u).map V.int)) hr1
     refine⟨_,rfl,r1,_,-1,_,rfl,rfl,SqL.of upd_same,lst huv.1,?_⟩
     generalize upd G r1 (HO.lst ((pa u).map V.int))=G1 at *
     refine⟨_,rfl,_,rfl,l1,_,-1,_,rfl,rfl,SqL.of (a1 _ _ (xx _ _ h51 n1f)),lst hn,rfl,_,rfl,?_⟩
     have skip:∀ {G':Hp} (o9 o10:Option V),Same G G'→(ldr pa u,ldr pa v)≠(ldr pa n,ldr pa h)→∃ (o9' o10':Option V),([some (.ref d),some (.ref lb),some (.int h),some (.int n),some (.ref l1),some (.ref l3),some (.ref lf),some (.int x),some (.int y),o9,o10]:St)=[some (.ref d),some (.ref lb),some (.int h),some (.int n),some (.ref l1),some (.ref l3),some (.ref lf),some (.int x),some (.int y),o9',o10']∧F G' (ds++[(u,v)])∧Ext lf H9 G':=fun {G'} o9 o10 sG hne=>by
      refine⟨o9,o10,rfl,?_,xG.trans (Ext.same sG)⟩
      have fs:=Fsame f sG
      rw[← hF] at fs ⊢
      obtain⟨ps,f1,f2,f3⟩:=fs
      refine⟨ps,f1,f2,?_⟩
      have:sel (ldr pa) (ldr pa n,ldr pa h) [(u,v)]=[]:=by
       unfold sel
       rw[List.filter_cons_of_neg (by simpa using hne),List.filter_nil]
      rw[ZD,this,List.append_nil]
      exact f3
     by_cases c1:ldr pa u=ldr pa n
     ·refine iteB (by rw[c1];simp) ?_
      refine⟨_,rfl,_,rfl,d,pf,us,v,pa v,rfl,a1 _ _ dG,l12,C,(hE _ huv.2).1,(hE _ huv.2).2,fun r2 hr2=>?_⟩
      have a2:=Same.new (o:=HO.lst ((pa v).map V.int)) hr2
      refine⟨_,rfl,r2,_,-1,_,rfl,rfl,SqL.of upd_same,lst huv.2,?_⟩
      generalize upd G1 r2 (HO.lst ((pa v).map V.int))=G2 at *
      have a12:=a1.trans a2
      refine⟨_,rfl,l3,_,0,_,rfl,rfl,SqL.of (a12 _ _ (xx _ _ h53 n3f)),fst hh,rfl,_,rfl,?_⟩
      by_cases c2:ldr pa v=ldr pa h
      ·refine iteB (by rw[c2];simp) ?_
       have f2':=Fsame f a12
       rw[← hF] at f2'
       obtain⟨ps,f1,f2,f3⟩:=f2'
       have lps:ps.length≤140:=by
        have e:=congrArg List.length f3
        rw[List.length_map,List.length_map] at e
        have:=List.length_filter_le (fun p:Int×Int=>decide ((ldr pa p.1,ldr pa p.2)=(ldr pa n,ldr pa h))) ds
        unfold sel at e
        omega
       have lu:=ln huv.1
       have lv:=ln huv.2
       refine⟨_,rfl,.inl ⟨rfl,_,SqL.of f1⟩,?_⟩
       refine⟨_,rfl,_,rfl,_,rfl,d,pf,us,u,pa u,rfl,a12 _ _ dG,l12,C,(hE _ huv.1).1,(hE _ huv.1).2,fun r3 hr3=>?_⟩
       have a3:=Same.new (o:=HO.lst ((pa u).map V.int)) hr3
       refine⟨_,rfl,rfl,r3,_,rfl,SqL.of upd_same,fun r4 hr4=>?_⟩
       have a4:=Same.new (o:=HO.lst ((pa u).map V.int).reverse) hr4
       refine⟨_,rfl,r4,_,rfl,SqL.of upd_same,fun r5 hr5=>?_⟩
       rw[zbm (by simp;omega)]
       have a5:=Same.new (o:=HO.lst (((pa u).map V.int).reverse.drop 1)) hr5
       have a35:=(a3.trans a4).trans a5
       have b5:=upd_same (H:=upd (upd G2 r3 (HO.lst ((pa u).map V.int))) r4 (HO.lst ((pa u).map V.int).reverse)) (a:=r5) (o:=HO.lst (((pa u).map V.int).reverse.drop 1))
       generalize upd (upd (upd G2 r3 (HO.lst ((pa u).map V.int))) r4 (HO.lst ((pa u).map V.int).reverse)) r5 (HO.lst (((pa u).map V.int).reverse.drop 1))=G5 at *
       have aG5:=a12.trans a35
       have hn1:G5 l1=some (.lst ((pa n).map V.int)):=aG5 _ _ (xx _ _ h51 n1f)
       have ldu:(((pa u).map V.int).reverse.drop 1).length≤12:=by rw[List.length_drop,List.length_reverse,List.length_map];omega
       have ldh:(((pa h).map V.int).reverse.drop 1).length≤12:=by rw[List.length_drop,List.length_reverse,List.length_map];omega
       refine⟨l1,r5,_,_,rfl,rfl,hn1,b5,Nat.le_of_lt (zj (by rw[List.length_map];omega)),fun r6 hr6=>?_⟩
       have a6:=Same.new (o:=HO.lst ((pa n).map V.int++((pa u).map V.int).reverse.drop 1)) hr6
       have b6:=upd_same (H:=G5) (a:=r6) (o:=HO.lst ((pa n).map V.int++((pa u).map V.int).reverse.drop 1))
       generalize upd G5 r6 (HO.lst ((pa n).map V.int++((pa u).map V.int).reverse.drop 1))=G6 at *
       have aG6:=aG5.trans a6
       refine⟨_,rfl,_,rfl,d,pf,us,v,pa v,rfl,aG6 _ _ dG,l12,C,(hE _ huv.2).1,(hE _ huv.2).2,fun r7 hr7=>?_⟩
       have a7:=Same.new (o:=HO.lst ((pa v).map V.int)) hr7
       refine⟨r6,r7,_,_,rfl,rfl,a7 _ _ b6,upd_same,Nat.le_of_lt (zj (by rw[List.length_append,List.length_map,List.length_map];omega)),fun r8 hr8=>?_⟩
       have a8:=a7.trans (Same.new (o:=HO.lst ((pa n).map V.int++((pa u).map V.int).reverse.drop 1++(pa v).map V.int)) hr8)
       have b8:=upd_same (H:=upd G6 r7 (HO.lst ((pa v).map V.int))) (a:=r8) (o:=HO.lst ((pa n).map V.int++((pa u).map V.int).reverse.drop 1++(pa v).map V.int))
       generalize upd (upd G6 r7 (HO.lst ((pa v).map V.int))) r8 (HO.lst ((pa n).map V.int++((pa u).map V.int).reverse.drop 1++(pa v).map V.int))=G8 at *
       have aG8:=aG6.trans a8
       refine⟨_,rfl,_,rfl,l3,_,rfl,SqL.of (aG8 _ _ (xx _ _ h53 n3f)),fun r9 hr9=>?_⟩
       rw[zbm (by simp;omega)]
       have a9:=Same.new (o:=HO.lst (((pa h).map V.int).reverse.drop 1)) hr9
       refine⟨r8,r9,_,_,rfl,rfl,a9 _ _ b8,upd_same,Nat.le_of_lt (zj (by rw[List.length_append,List.length_append,List.length_map,List.length_map];omega)),fun r10 hr10=>?_⟩
       have a10:=a9.trans (Same.new (o:=HO.lst ((pa n).map V.int++((pa u).map V.int).reverse.drop 1++(pa v).map V.int++((pa h).map V.int).reverse.drop 1)) hr10)
       have b10:=upd_same (H:=upd G8 r9 (HO.lst (((pa h).map V.int).reverse.drop 1))) (a:=r10) (o:=HO.lst ((pa n).map V.int++((pa u).map V.int).reverse.drop 1++(pa v).map V.int++((pa h).map V.int).reverse.drop 1))
       have er10:(pa n).map V.int++((pa u).map V.int).reverse.drop 1++(pa v).map V.int++((pa h).map V.int).reverse.drop 1=(rdO pa h n (u,v)).map V.int:=by
        unfold rdO rdW
        rw[List.map_append,List.map_append,List.map_append,List.map_drop,List.map_drop,List.map_reverse,List.map_reverse]
        simp only[List.append_assoc]
       have fr10:H r10=none:=by
        cases e:H r10 with
        |none=>rfl
        |some o =>
         have:=(aG8.trans a9) _ _ (xx _ _ (s5 _ _ e) (fun z=>by rw[z,flf] at e;cases e))
         rw[hr10] at this
         cases this
       rw[er10] at a10 b10 ⊢
       generalize upd (upd G8 r9 (HO.lst (((pa h).map V.int).reverse.drop 1))) r10 (HO.lst ((rdO pa h n (u,v)).map V.int))=G10 at *
       have aG10:=aG8.trans a10
       have a210:=((a35.trans a6).trans a8).trans a10
       have f10:=a210 _ _ f1
       refine⟨lf,_,_,rfl,rfl,f10,by rw[List.length_map];exact zj (by omega),?_⟩
       have nrf:r10≠lf:=fun z=>by
        rw[z,f10] at b10
        injection b10 with b10
        injection b10 with b10
        cases hc:ps with
        |nil =>
         rw[hc] at b10
         have hl:=congrArg List.length b10
         unfold rdO rdW at hl
         simp at hl
         omega
        |cons p0 ps0 =>
         rw[hc] at b10
         cases hr:rdO pa h n (u,v) with
         |nil=>rw[hr] at b10;cases b10
         |cons i0 r0=>rw[hr] at b10;cases b10
       refine⟨_,_,rfl,?_,?_⟩
       ·rw[← hF]
        refine⟨ps++[(r10,rdO pa h n (u,v))],?_,fun p hp=>?_,?_⟩
        ·rw[upd_same,List.map_append]
         rfl
        ·rcases List.mem_append.mp hp with z | z
         ·have:=f2 p z
          exact⟨by rw[upd_ne this.2.1];exact a210 _ _ this.1,this.2⟩
         ·rw[List.mem_singleton.mp z]
          exact⟨by rw[upd_ne nrf];exact b10,nrf,fr10⟩
        ·have:sel (ldr pa) (ldr pa n,ldr pa h) [(u,v)]=[(u,v)]:=by
          unfold sel
          rw[List.filter_cons_of_pos (by simp[c1,c2]),List.filter_nil]
         rw[ZD,this,List.map_append,f3,List.map_append]
         rfl
       ·exact(xG.trans (Ext.same aG10)).trans Ext.at
      ·refine iteN (by simp[c2]) ?_
       exact skip _ _ a12 fun z=>c2 (congrArg Prod.snd z)
     ·refine iteN (by simp[c1]) ?_
      exact skip _ _ a1 fun z=>c1 (congrArg Prod.fst z)
    ·rintro σ G ⟨o9,o10,rfl,f,xG⟩
     refine⟨_,_,_,_,rfl,?_,x9.trans xG⟩
     rw[etk,dbl_snoc]
     have e:dbl (sb.take i)++([(x,y),(y,x)]:LP).take ([V.ref t1,V.ref t2]:List V).length=dbl (sb.take i)++[(x,y)]++[((x,y).2,(x,y).1)]:=by simp
     rw[← e]
     exact f
   ·rintro σ H' ⟨o7,o8,o9,o10,rfl,f,x⟩
    rw[List.take_of_length_le (by omega)] at f
    rw[← hF] at f
    obtain⟨ps,f1,f2,f3⟩:=f
    refine⟨_,rfl,k lf H' flf ⟨ps,f1,fun p hp=>⟨(f2 p hp).1,(f2 p hp).2.2⟩,f3⟩ fun c o hc=>?_⟩
    exact x _ _ (s5 _ _ hc) fun z=>by rw[z,flf] at hc;cases hc
theorem YB {f:Int→V}{us:LI}{x:Int}{v:V}(hx:x∈us):putK (tabV f us) (.inl x) v=tabV (fun y=>if y=x then v else f y) us:=by
 unfold putK
 have h:((tabV f us).any fun kv=>decide (kv.1=(Sum.inl x:Key)))=true:=by
  rw[List.any_eq_true]
  exact⟨(Sum.inl x,f x),List.mem_map.mpr ⟨x,hx,rfl⟩,by simp⟩
 rw[if_pos h]
 unfold tabV
 rw[List.map_map]
 refine List.map_congr_left fun y _=>?_
 show(if (Sum.inl y:Key)=Sum.inl x then((Sum.inl y:Key),v) else(Sum.inl y,f y))=(Sum.inl y,if y=x then v else f y)
 by_cases c:y=x
 ·rw[if_pos c,if_pos (by rw[c])]
 ·rw[if_neg c,if_neg (fun z=>c (by injection z))]
def UpS (us:LI) (pf:Int→Option Int) (pa:Int→LI):Prop:=∃ sf:Int→Nat,(∀ x∈us,sf x<us.length)∧∀ x∈us,(pf x=none∧pa x=[x])∨∃ y,pf x=some y∧y∈us∧pa x=x::pa y∧sf y<sf x
theorem UpS.up {us:LI}{pf:Int→Option Int}{pa:Int→LI}(h:UpS us pf pa):UpP us pf pa:=let ⟨sf,_,u⟩:=h;⟨sf,u⟩
def paF (pa:Int→LI) (x:Int):Option Int→List Int
 |none=>[x]
 |some y=>x::pa y
theorem UpS.add {us:LI}{pf:Int→Option Int}{pa:Int→LI}{x:Int}{o:Option Int}(h:UpS us pf pa) (hx:x∉us) (ho:∀ y,o=some y→y∈us):UpS (us++[x]) (fun z=>if z=x then o else pf z) (fun z=>if z=x then paF pa x o else pa z):=by
 obtain⟨sf,h1,h2⟩:=h
 have ne:∀ {z},z∈us→z≠x:=fun hz e=>hx (by rw[← e];exact hz)
 refine⟨fun z=>if z=x then us.length else sf z,fun z hz=>?_,fun z hz=>?_⟩
 ·rw[List.length_append,List.length_singleton]
  dsimp only
  by_cases c:z=x
  ·rw[if_pos c];omega
  ·rw[if_neg c]
   have:=h1 z ((List.mem_append.mp hz).resolve_right fun e=>c (List.mem_singleton.mp e))
   omega
 ·dsimp only
  by_cases c:z=x
  ·subst c
   rw[if_pos rfl,if_pos rfl,if_pos rfl]
   cases o with
   |none=>exact .inl ⟨rfl,rfl⟩
   |some y =>
    have hy:=ho y rfl
    refine .inr ⟨y,rfl,List.mem_append.mpr (.inl hy),?_,?_⟩
    ·rw[if_neg (ne hy)];rfl
    ·rw[if_neg (ne hy)];exact h1 y hy
  ·have hz':=(List.mem_append.mp hz).resolve_right fun e=>c (List.mem_singleton.mp e)
   rw[if_neg c,if_neg c,if_neg c]
   rcases h2 z hz' with q | ⟨y,q1,q2,q3,q4⟩
   ·exact .inl q
   ·exact .inr ⟨y,q1,List.mem_append.mpr (.inl q2),by rw[if_neg (ne q2)];exact q3,by rw[if_neg (ne q2)];exact q4⟩
structure Bw (lf:Int→Int) (ls bs:LP) (kvs:List (List Key×V)):Prop where
 sub:bs.Sublist ls
 df:∀ b∈bs,lf b.1≠lf b.2
 cov:∀ p∈ls,lf p.1≠lf p.2→∃ b∈bs,jk lf b=jk lf p
 key:∀ k:Int×Int,yw k∈kvs.map (·.1)↔∃ b∈bs,jk lf b=k
 len:kvs.length≤ls.length
theorem Bw.skip {lf:Int→Int}{ls bs:LP}{kvs:List (List Key×V)}{p:Int×Int}(h:Bw lf ls bs kvs) (c:lf p.1≠lf p.2→∃ b∈bs,jk lf b=jk lf p):Bw lf (ls++[p]) bs kvs :=
 ⟨h.sub.trans (List.sublist_append_left _ _),h.df,fun q hq hne=>(List.mem_append.mp hq).elim (fun z=>h.cov q z hne) fun z=>by rw[List.mem_singleton.mp z] at hne ⊢;exact c hne,h.key,by rw[List.length_append];have:=h.len;omega⟩
theorem Bw.add {lf:Int→Int}{ls bs:LP}{kvs:List (List Key×V)}{p:Int×Int}{v:V}(h:Bw lf ls bs kvs) (c:lf p.1≠lf p.2):Bw lf (ls++[p]) (bs++[p]) (putK kvs (yw (jk lf p)) v):=by
 refine⟨h.sub.append (List.Sublist.refl _),fun b hb=>?_,fun q hq hne=>?_,fun k=>?_,?_⟩
 ·rcases List.mem_append.mp hb with z | z
  ·exact h.df b z
  ·rw[List.mem_singleton.mp z];exact c
 ·rcases List.mem_append.mp hq with z | z
  ·obtain⟨b,h1,h2⟩:=h.cov q z hne
   exact⟨b,List.mem_append.mpr (.inl h1),h2⟩
  ·exact⟨q,List.mem_append.mpr (.inr z),rfl⟩
 ·have hpk:yw k∈(putK kvs (yw (jk lf p)) v).map (·.1)↔yw k∈kvs.map (·.1)∨k=jk lf p:=by
   by_cases hin:yw (jk lf p)∈kvs.map (·.1)
   ·rw[ZG hin]
    constructor
    ·exact .inl
    ·rintro(z | z)
     ·exact z
     ·rw[z];exact hin
   ·rw[putK_new hin,List.map_append,List.mem_append]
    constructor
    ·rintro(z | z)
     ·exact .inl z
     ·exact .inr (yP (List.mem_singleton.mp z))
    ·rintro(z | z)
     ·exact .inl z
     ·exact .inr (by rw[z];simp)
  rw[hpk,h.key k]
  constructor
  ·rintro(⟨b,h1,h2⟩ | z)
   ·exact⟨b,List.mem_append.mpr (.inl h1),h2⟩
   ·exact⟨p,by simp,z.symm⟩
  ·rintro⟨b,h1,h2⟩
   rcases List.mem_append.mp h1 with z | z
   ·exact .inl ⟨b,z,h2⟩
   ·rw[List.mem_singleton.mp z] at h2
    exact .inr h2.symm
 ·have:=ym kvs (yw (jk lf p)) v
  have:=h.len
  rw[List.length_append,List.length_singleton]
  omega
def zkc:Sp:=fun vs H Q _=>∃ (l h q:Addr) (rs:List V) (hs:LI) (ls:LP),vs=[.ref l,.ref h,.ref q]∧XsAt H l∧H h=some (.lst (hs.map V.int))∧h≠l∧H q=some (.lst rs)∧q≠l∧LnAt H rs ls∧Hs hs∧Ls hs ls ∧
 ∀ (t d lb:Addr) (us:LI) (pf:Int→Option Int) (pa:Int→LI) (bs:LP) (rb:List V) (H':Hp),H' t=some (.tup [.ref d,.ref lb])→H' d=some (.dK (tabV (fun x=>opV (pf x)) us))→H' lb=some (.lst rb)→LnAt H' rb bs→us.Nodup→Gd hs ls pf pa us bs→XsAt H' l→Ext l H H'→lb≠l→Q (.ref t) H'
theorem zdN (T:Txt w K mg a):FnOk P w K mg base CX0 3 a.f_qG a.d_qG ["_law_xs", "_law_hands_here", "_law_lines_here"] zkc:=by
 have c_qz:Callee P w K mg base "_law_take" a.f_qz a.d_qz ["_law_xs", "_law_size"] 1 wL:=⟨wq T,T.g_qz,T.F_qz.kp,T.b_qz⟩
 have c_qD:Callee P w K mg base "_law_near" a.f_qD a.d_qD ["_law_lines_here", "_law_hand"] 1 zcW:=⟨UH T,T.g_qD,T.F_qD.kp,T.b_qD⟩
 have c_qF:Callee P w K mg base "_law_both" a.f_qF a.d_qF ["_law_parents", "_law_one", "_law_other"] 2 zke:=⟨zdP T,T.g_qF,T.F_qF.kp,T.b_qF⟩
 refine T.F_qG.ok sc_qG (fun vs H Q E h=>?_) (fun cdv A outer s H vs Q E hr h=>?_)
 ·obtain⟨l,h,q,rs,hs,ls,rfl,_⟩:=h
  rfl
 ·obtain⟨l,h,q,rs,hs,ls,rfl,hX,hh,nhl,hq,nql,L,wh,wl,k⟩:=h
  have hu:=yQ hr
  have l12:=wh.l12
  have un:∀ n:Nat,n≤3→(A.deeper (PyProof.Rows.envOfC "_law_drawn_way" (defScope YG) s.heap.objs.size a.f_qG cdv)).units+n+2<cLine:=fun n hn=>by
   have:=hr.units
   omega
  have lnX:∀ {H':Hp},Ext l H H'→LnAt H' rs ls:=fun {H'} y=>⟨L.1,fun n r p a1 a2=>by
   obtain⟨qq,b1,b2⟩:=L.2 n r p a1 a2
   exact⟨qq,b1,y _ _ b2 fun z=>by
    obtain⟨ms,e',_⟩:=hX
    rw[z,e'] at b2
    cases b2⟩⟩
  refine zM (w_pss_cons (w_ps_set (i:=3) sc_qG.nd rfl (Or.inr rfl) xb)
   (w_pss_cons (w_ps_set (i:=4) sc_qG.nd rfl (Or.inl rfl) (zT yF (by rfl) T.n_list bt_list (zd (zf 1) za)))
   (w_pss_cons (yA PassesOwn.never (zl (vD uC uD) (zf 4) (zA za) (zC _))
    (w_pss_cons (w_ps_set (i:=5) sc_qG.nd rfl (Or.inl rfl) (ya PySem.F.plainAttrs_list PySem.F.slot_list_pop PySem.F.type_list_pop uF (zf 4) (zI (zm c_qz hr.m (zd (zf 0) (zI (zi zD (by rfl) T.n_len yu (zd (zf 4) za)) za))) za)))
    (w_pss_cons (yU (i:=6) rfl sc_qG.nd rfl (Or.inl rfl) (N':=["_law_other", "_law_parents"]) (t:=1) (caps:=[3]) ⟨rfl,rfl,rfl⟩ (zw (zm c_qD hr.m (zd (zf 2) (zd (zf 5) za)))) (fun _=>(zh (i:=0) (show(["_law_other", "_law_parents"]:List Str).Nodup by decide +kernel) rfl (Or.inl rfl))) (fun _=>(yT (yM (xV hu (zf 0) (zf 1))))) (fun _=>(zf 0)))
    (w_pss_cons (yr hu (zf 3) (zf 5) yx rfl)
    (zb (zu (we (yo (zl (vD uC uD) (zf 6) (zA za) (zC _)) (yd (zl u4 (zm c_qz hr.m (zd (zf 0) (zX ze za))) ze (zC _)))))
     (zb (yr hu (zf 3) (zf 5) (zr zN (zf 6) (zm c_qz hr.m (zd (zf 0) (zI (zi zD (by rfl) T.n_len yu (zd (zf 6) za)) za))) (fun _ _=>rfl)) rfl))
     zk))))))
   (w_pss_cons (w_ps_set (i:=7) sc_qG.nd rfl (Or.inl rfl) (zA za))
   (w_pss_cons (w_ps_set (i:=8) sc_qG.nd rfl (Or.inl rfl) yk)
   (w_pss_cons (zE PassesOwn.never rfl (zw (zf 2)) (zh (i:=9) sc_qG.nd rfl (Or.inl rfl))
    (w_pss_cons (w_ps_set (i:=10) sc_qG.nd rfl (Or.inl rfl) (zm c_qF hr.m (zd (zf 3) (zn (zr yc (zf 9) ze (fun _ _=>rfl)) (zn (zr yc (zf 9) ze (fun _ _=>rfl)) za)))))
    (zb (zu (we (yo (zl u3 (zr yc (zf 10) ze (fun _ _=>rfl)) (zr yc (zf 10) ze (fun _ _=>rfl)) (zC _)) (yd (we (yg (yM (yN hu (zf 10) (zf 8))) (yb (zl xo (zm c_qz hr.m (zd (zf 0) (zX ze za))) ze (zC _))))))))
     (w_pss_cons (yr hu (zf 8) (zf 10) zF rfl)
     (zb (zH (ya PySem.F.plainAttrs_list PySem.F.slot_list_append PySem.F.type_list_append zL (zf 7) (zd (zf 9) za)))))
     zk))))
   (w_pss_cons (w_ps_set (i:=11) sc_qG.nd rfl (Or.inl rfl) (zm c_qz hr.m (zd (zf 0) (xy (zq xl (zi zD (by rfl) T.n_len yu (zd (zf 7) za)) ze) za))))
   (zb (zg (zP (zd (zf 3) (xy (zq xk (zV yC (zf 7) (w_po_some (zf 11)) yf) (zV yC (zf 7) yf (w_po_some (zf 11)))) za)))))))))))) ?_
  refine fun d hd=>?_
  have ndl:d≠l:=hX.ne hd
  have y0:Ext l H (upd H d (HO.dK [])):=Ext.new hd
  have x0:=hX.new (o:=HO.dK []) hd
  have hd0:=upd_same (H:=H) (a:=d) (o:=HO.dK [])
  generalize upd H d (HO.dK [])=H0 at *
  refine⟨_,rfl,h,_,rfl,.inl (SqL.of (y0 _ _ hh nhl)),fun lf hlf=>?_⟩
  have nfl:lf≠l:=x0.ne hlf
  have nfd:d≠lf:=fun z=>by rw[← z,hd0] at hlf;cases hlf
  have fd:H d=none:=hd
  have ff:H lf=none:=y0.free nfl hlf
  refine⟨fun m σ H'=>∃ (us left:LI) (pf:Int→Option Int) (pa:Int→LI) (o5 o6 o7 o8 o9 o10 o11:Option V),m=left.length∧σ=[some (.ref l),some (.ref h),some (.ref q),some (.ref d),some (.ref lf),o5,o6,o7,o8,o9,o10,o11]∧H' d=some (.dK (tabV (fun x=>opV (pf x)) us))∧H' lf=some (.lst (left.map V.int))∧us.Nodup∧left.Nodup∧(∀ x,x∈hs↔x∈us∨x∈left)∧(∀ x∈left,x∉us)∧UpS us pf pa∧(∀ x∈us,∀ y,pf x=some y→adB ls x y=true)∧XsAt H' l∧Ext l H H',⟨_,[],hs,fun _=>none,fun x=>[x],none,none,none,none,none,none,none,rfl,rfl,?_,upd_same,List.nodup_nil,vd wh,(fun x=>by simp),(fun x _=>by simp),⟨fun _=>0,(fun x hx=>(nomatch hx)),(fun x hx=>(nomatch hx))⟩,(fun x hx=>(nomatch hx)),x0.new hlf,y0.trans (Ext.new hlf)⟩,?_⟩
  ·rw[upd_ne nfd];exact hd0
  rintro m σ H3 ⟨us,left,pf,pa,o5,o6,o7,o8,o9,o10,o11,rfl,rfl,hd3,hl3,ndu,ndL,hm,hdj,U,had,x3,y3⟩
  have hsu:∀ x∈us,x∈hs:=fun x hx=>(hm x).mpr (.inl hx)
  have us12:us.length≤12:=Nat.le_trans (yX ndu hsu) l12
  have lf12:left.length≤12:=Nat.le_trans (yX ndL fun x hx=>(hm x).mpr (.inr hx)) l12
  refine⟨_,rfl,(by show 0≤sizeLine;decide),fun e he=>?_⟩
  have se:=Same.new (o:=HO.lst []) he
  have xe:=x3.new (o:=HO.lst []) he
  have ye:=y3.trans (Ext.new (l:=l) (o:=HO.lst []) he)
  cases hcl:left with
  |nil =>
   rw[hcl] at hl3
   refine .inl ⟨lf,e,_,_,fun _=>true,0,rfl,rfl,.inl ⟨SqL.of (se _ _ hl3),SqL.of upd_same⟩,rfl,un 0 (by omega),(fun j x y hx=>by cases hx),_,rfl,iteN rfl ?_⟩
   have hmem:∀ x,x∈us↔x∈hs:=fun x=>by
    rw[hm x,hcl]
    simp
   have UP:=U.up
   have hd4:=se _ _ hd3
   generalize upd H3 e (HO.lst [])=H4 at *
   refine⟨(by show 0≤sizeLine;decide),fun bl hbl=>?_⟩
   have nbl:bl≠l:=xe.ne hbl
   have fbl:H bl=none:=ye.free nbl hbl
   have s5:=Same.new (o:=HO.lst []) hbl
   have hb5:=upd_same (H:=H4) (a:=bl) (o:=HO.lst [])
   have x5:=xe.new (o:=HO.lst []) hbl
   have y5:=ye.trans (Ext.new (l:=l) (o:=HO.lst []) hbl)
   have hd5:=s5 _ _ hd4
   generalize upd H4 bl (HO.lst [])=H5 at *
   refine fun dj hdj'=>?_
   have ndj:dj≠l:=x5.ne hdj'
   have fdj:H dj=none:=y5.free ndj hdj'
   have s6:=Same.new (o:=HO.dT []) hdj'
   have hj6:=upd_same (H:=H5) (a:=dj) (o:=HO.dT [])
   have x6:=x5.new (o:=HO.dT []) hdj'
   have y6:=y5.trans (Ext.new (l:=l) (o:=HO.dT []) hdj')
   have hd6:=s6 _ _ hd5
   have hb6:=s6 _ _ hb5
   generalize upd H5 dj (HO.dT [])=H6 at *
   have njb:dj≠bl:=fun z=>by rw[z,hb6] at hj6;cases hj6
   have njd:dj≠d:=fun z=>by rw[z,hd6] at hj6;cases hj6
   have nbd:bl≠d:=fun z=>by rw[z,hd6] at hb6;cases hb6
   have hq6:=y6 _ _ hq nql
   refine⟨_,rfl,q,rfl,⟨_,SqL.of hq6⟩,?_⟩
   have lr:=L.1
   generalize hlf:ldr pa=lf' at *
   refine for_list (xs:=rs) (fun i σ H'=>∃ (bs:LP) (rb:List V) (kvs:List (List Key×V)) (o9 o10 o11:Option V),σ=[some (.ref l),some (.ref h),some (.ref q),some (.ref d),some (.ref lf),o5,o6,some (.ref bl),some (.ref dj),o9,o10,o11]∧H' d=some (.dK (tabV (fun x=>opV (pf x)) us))∧H' bl=some (.lst rb)∧LnAt H' rb bs∧H' dj=some (.dT kvs)∧Bw lf' (ls.take i) bs kvs∧XsAt H' l∧Ext l H H') ?_ ?_ ?_ ?_
   ·exact⟨[],[],[],_,_,_,rfl,hd6,hb6,⟨rfl,fun n r p a1=>by simp at a1⟩,hj6,⟨List.Sublist.refl _,(fun b hb=>(nomatch hb)),(fun p hp=>by simp at hp),(fun k=>by simp),Nat.le_refl _⟩,x6,y6⟩
   ·rintro i σ H' hi ⟨bs,rb,kvs,_,_,_,_,_,_,_,_,_,_,y⟩
    exact SqL.of (y _ _ hq nql)
   ·rintro i v σ H7 hi ⟨bs,rb,kvs,o9,o10,o11,rfl,hd7,hb7,Lb,hj7,BW,x7,y7⟩
    obtain⟨⟨x,y⟩,qa,hp,rfl,hqa⟩:=(L.extX hX y7).get hi
    have hpm:=List.mem_of_getElem? hp
    have hxy:=wl.ok _ hpm
    dsimp only at hxy hqa
    have hx:=(hmem x).mpr hxy.1
    have hy:=(hmem y).mpr hxy.2.1
    have hil:i<rs.length:=(List.getElem?_eq_some_iff.mp hi).1
    have etk:ls.take (i+1)=ls.take i++[(x,y)]:=by rw[List.take_add_one,hp];rfl
    have kl:kvs.length≤66:=by
     have h1:=BW.len
     rw[List.length_take] at h1
     have:=wl.le
     omega
    refine⟨_,rfl,_,rfl,qa,_,0,_,rfl,rfl,SqT.of hqa,rfl,_,rfl,qa,_,1,_,rfl,rfl,SqT.of hqa,rfl,d,pf,pa,us,x,y,rfl,hd7,us12,UP,hx,hy,fun tb H8 htb htb8 s8=>?_⟩
    rw[hlf] at htb8
    have hd8:=s8 _ _ hd7
    have hb8:=s8 _ _ hb7
    have hj8:=s8 _ _ hj7
    have x8:=x7.same s8
    have y8:=y7.trans (Ext.same s8)
    have hqa8:=s8 _ _ hqa
    have Lb8:=Lb.same s8
    refine⟨_,rfl,tb,_,0,_,rfl,rfl,SqT.of htb8,rfl,_,rfl,tb,_,1,_,rfl,rfl,SqT.of htb8,rfl,rfl,_,rfl,?_⟩
    have hj1:(jk lf' (x,y)).1=min (lf' x) (lf' y):=rfl
    have hj2:(jk lf' (x,y)).2=max (lf' x) (lf' y):=rfl
    have go:∀ H9 (o11:Option V),lf' x≠lf' y→H9 d=some (.dK (tabV (fun x=>opV (pf x)) us))→H9 bl=some (.lst rb)→LnAt H9 rb bs→H9 dj=some (.dT kvs)→H9 qa=some (.tup [.int x,.int y])→XsAt H9 l→Ext l H H9 →
      ∃ (bs':LP) (rb':List V) (kvs':List (List Key×V)) (o9' o10' o11':Option V),([some (.ref l),some (.ref h),some (.ref q),some (.ref d),some (.ref lf),o5,o6,some (.ref bl),some (.ref dj),some (.ref qa),some (.ref tb),o11]:St)=[some (.ref l),some (.ref h),some (.ref q),some (.ref d),some (.ref lf),o5,o6,some (.ref bl),some (.ref dj),o9',o10',o11']∧(upd (upd H9 dj (.dT (putK kvs (yw (jk lf' (x,y))) (.bl true)))) bl (.lst (rb++[.ref qa]))) d=some (.dK (tabV (fun x=>opV (pf x)) us))∧(upd (upd H9 dj (.dT (putK kvs (yw (jk lf' (x,y))) (.bl true)))) bl (.lst (rb++[.ref qa]))) bl=some (.lst rb')∧LnAt (upd (upd H9 dj (.dT (putK kvs (yw (jk lf' (x,y))) (.bl true)))) bl (.lst (rb++[.ref qa]))) rb' bs'∧(upd (upd H9 dj (.dT (putK kvs (yw (jk lf' (x,y))) (.bl true)))) bl (.lst (rb++[.ref qa]))) dj=some (.dT kvs')∧Bw lf' (ls.take (i+1)) bs' kvs'∧XsAt (upd (upd H9 dj (.dT (putK kvs (yw (jk lf' (x,y))) (.bl true)))) bl (.lst (rb++[.ref qa]))) l∧Ext l H (upd (upd H9 dj (.dT (putK kvs (yw (jk lf' (x,y))) (.bl true)))) bl (.lst (rb++[.ref qa]))):=fun H9 o11 c a1 a2 a3 a4 a5 a6 a7=>by
     have b1:(upd H9 dj (.dT (putK kvs (yw (jk lf' (x,y))) (.bl true)))) bl=some (.lst rb):=(upd_ne njb.symm).trans a2
     have nqj:qa≠dj:=fun z=>by rw[z,a4] at a5;cases a5
     have L1:LnAt (upd H9 dj (.dT (putK kvs (yw (jk lf' (x,y))) (.bl true)))) rb bs:=a3.updN a4 (fun _ z=>by cases z)
     refine⟨bs++[(x,y)],rb++[.ref qa],_,_,_,_,rfl,(upd_ne nbd.symm).trans ((upd_ne njd.symm).trans a1),upd_same,(L1.snoc ((upd_ne nqj).trans a5)).updN b1 (fun _ z=>by cases z),(upd_ne njb).trans upd_same,by rw[etk];exact BW.add c,(a6.upd ndj).upd nbl,fun b o e nb=>?_⟩
     rw[upd_ne (ne_of_none e fbl),upd_ne (ne_of_none e fdj)]
     exact a7 b o e nb
    by_cases c:lf' x=lf' y
    ·refine iteN (by rw[hj1,hj2,c];simp) (iteN rfl ?_)
     refine⟨bs,rb,kvs,_,_,_,rfl,hd8,hb8,Lb8,hj8,by rw[etk];exact BW.skip fun z=>absurd c z,x8,y8⟩
    ·refine iteB (by rw[hj1,hj2];simp;omega) ?_
     have rl:rb.length≤66:=by
      have h1:=BW.sub.length_le
      rw[List.length_take] at h1
      have:=Lb.1
      have:=wl.le
      omega
     by_cases cin:yw (jk lf' (x,y))∈kvs.map (·.1)
     ·refine⟨_,rfl,_,rfl,dj,_,rfl,DGet.t (k:=yw (jk lf' (x,y))) hj8 htb8,_,rfl,iteN (by rw[valV_yes cin];rfl) ?_⟩
      refine⟨_,rfl,l,2,rfl,x8,by decide,fun t2 H9 t0 t1 x9 y9=>?_⟩
      have hd9:=y9 _ _ hd8 ndl
      have hb9:=y9 _ _ hb8 nbl
      have hj9:=y9 _ _ hj8 ndj
      have Lb9:=Lb8.extX x8 y9
      have nta:∀ {b xs},H8 b=some (.tup xs)→b≠l:=fun {b xs} e z=>by
       obtain⟨ms,e',_⟩:=x8
       rw[z,e'] at e
       cases e
      have hqa9:=y9 _ _ hqa8 (nta hqa8)
      have htb9:=y9 _ _ htb8 (nta htb8)
      refine⟨rfl,_,rfl,?_⟩
      by_cases c2:t2=0
      ·refine iteB (by simp[c2]) ?_
       refine⟨_,rfl,_,rfl,dj,_,rfl,DPut.t (k:=yw (jk lf' (x,y))) hj9 htb9 (zj (by omega)),?_⟩
       refine⟨_,rfl,.inl ⟨rfl,_,SqL.of ((upd_ne njb.symm).trans hb9)⟩,_,rfl,bl,_,_,rfl,rfl,(upd_ne njb.symm).trans hb9,zj (by omega),?_⟩
       exact go H9 _ c hd9 hb9 Lb9 hj9 hqa9 x9 (y8.trans y9)
      ·refine iteN (by simp[c2]) ?_
       refine⟨bs,rb,kvs,_,_,_,rfl,hd9,hb9,Lb9,hj9,by rw[etk];exact BW.skip fun _=>(BW.key _).mp cin,x9,y8.trans y9⟩
     ·refine⟨_,rfl,_,rfl,dj,_,rfl,DGet.t (k:=yw (jk lf' (x,y))) hj8 htb8,_,rfl,iteB (by rw[wT cin];rfl) (xH ?_)⟩
      refine⟨_,rfl,_,rfl,dj,_,rfl,DPut.t (k:=yw (jk lf' (x,y))) hj8 htb8 (zj (by omega)),?_⟩
      refine⟨_,rfl,.inl ⟨rfl,_,SqL.of ((upd_ne njb.symm).trans hb8)⟩,_,rfl,bl,_,_,rfl,rfl,(upd_ne njb.symm).trans hb8,zj (by omega),?_⟩
      exact go H8 _ c hd8 hb8 Lb8 hj8 hqa8 x8 y8
   ·rintro σ H7 ⟨bs,rb,kvs,o9,o10,o11,rfl,hd7,hb7,Lb,hj7,BW,x7,y7⟩
    rw[lr,List.take_length] at BW
    have rl:=Lb.1
    have bl66:bs.length≤66:=Nat.le_trans BW.sub.length_le wl.le
    refine⟨_,rfl,_,rfl,bl,_,rfl,.inl (SqL.of hb7),_,_,rfl,rfl,l,_,rfl,x7,(by show(0:Int)<(rb.length:Int)+1;omega),fun at0 H8 a0 a1 x8 y8=>?_⟩
    have hb8:=y8 _ _ hb7 nbl
    have hd8:=y8 _ _ hd7 ndl
    have Lb8:=Lb.extX x7 y8
    obtain⟨n,rfl⟩:∃ n:Nat,at0=(n:Int):=⟨at0.toNat,by omega⟩
    have hn:n≤rb.length:=by omega
    refine⟨_,rfl,_,rfl,_,rfl,_,rfl,bl,_,rfl,SqL.of hb8,fun p1 hp1=>?_⟩
    have z4:=Same.new (o:=HO.lst (xF rb (some (n:Int)) none)) hp1
    refine⟨_,rfl,_,rfl,_,rfl,bl,_,rfl,SqL.of (z4 _ _ hb8),fun p2 hp2=>?_⟩
    have z5:=Same.new (o:=HO.lst (xF rb none (some (n:Int)))) hp2
    have l1:=yn rb (some (n:Int)) none
    have l2:=yn rb none (some (n:Int))
    refine⟨p1,p2,_,_,rfl,rfl,z5 _ _ upd_same,upd_same,(Nat.le_of_lt (zj (by omega))),fun p3 hp3=>?_⟩
    have z6:=Same.new (o:=HO.lst (xF rb (some (n:Int)) none++xF rb none (some (n:Int)))) hp3
    have z456:=(z4.trans z5).trans z6
    have hp33:=upd_same (H:=(upd (upd H8 p1 (HO.lst (xF rb (some (n:Int)) none))) p2 (HO.lst (xF rb none (some (n:Int)))))) (a:=p3) (o:=HO.lst (xF rb (some (n:Int)) none++xF rb none (some (n:Int))))
    rw[Vu hn,Vt hn] at *
    generalize upd (upd (upd H8 p1 (HO.lst (rb.drop n))) p2 (HO.lst (rb.take n))) p3 (HO.lst (rb.drop n++rb.take n))=H9 at *
    refine⟨(by show 2≤sizeLine;decide),fun pt hpt=>?_⟩
    have z7:=Same.new (o:=HO.tup [V.ref d,V.ref p3]) hpt
    have z8:=z456.trans z7
    have hmr:∀ b,b∈bs.drop n++bs.take n↔b∈bs:=fun b=>by
     rw[List.mem_append,Or.comm,← List.mem_append,List.take_append_drop]
    have ndb:bs.Nodup:=wl.nd.sublist BW.sub
    have hin:∀ b∈bs,b∈ls:=fun b hb=>BW.sub.subset hb
    refine k pt d p3 us pf pa (bs.drop n++bs.take n) (rb.drop n++rb.take n) _ upd_same (z8 _ _ hd8) (z7 _ _ hp33) ((Lb8.cut).same z8) ndu ⟨UP,hmem,had,⟨?_,fun b hb=>wl.ok b (hin b ((hmr b).mp hb))⟩,fun b hb=>hin b ((hmr b).mp hb),fun b hb=>by rw[hlf];exact BW.df b ((hmr b).mp hb),fun p hp hne=>?_⟩ (x8.same z8) ((y7.trans y8).trans (Ext.same z8)) ((x8.same (z4.trans z5)).ne hp3)
    ·have:(bs.drop n++bs.take n).Perm bs:=List.perm_append_comm.trans (List.Perm.of_eq (List.take_append_drop n bs))
     exact this.nodup_iff.mpr ndb
    ·rw[hlf] at hne ⊢
     obtain⟨b,h1,h2⟩:=BW.cov p hp hne
     exact⟨b,(hmr b).mpr h1,h2⟩
  |cons b0 lt =>
   rw[hcl] at hl3
   refine .inr ⟨lf,e,_,_,rfl,rfl,SqL.of (se _ _ hl3),SqL.of upd_same,(by simp),Nat.lt_of_le_of_lt (Nat.le_add_right _ 2) (un 0 (by omega)),_,rfl,xH ?_⟩
   refine⟨_,fun σ' H' h=>h,?_⟩
   rw[← hcl] at hl3
   have hd4:=se _ _ hd3
   have hl4:=se _ _ hl3
   generalize upd H3 e (HO.lst [])=H4 at *
   have hlp:0<left.length:=by rw[hcl];simp
   refine⟨_,rfl,.inl ⟨rfl,_,SqL.of hl4⟩,?_⟩
   refine⟨_,rfl,_,rfl,lf,_,rfl,.inl (SqL.of hl4),l,_,rfl,xe,(by rw[List.length_map];omega),fun kd H5 k0 k1 x5 y5=>?_⟩
   rw[List.length_map] at k1
   have hd5:=y5 _ _ hd4 ndl
   have hl5:=y5 _ _ hl4 nfl
   have ye5:=ye.trans y5
   have hk:seqIndex? kd (left.map V.int).length=some kd.toNat:=by
    have e:(if kd<0 then kd+(left.length:Int) else kd)=kd:=if_neg (by omega)
    unfold seqIndex?
    rw[List.length_map]
    simp only[e]
    rw[if_pos (by simp;omega)]
   have hkl:kd.toNat<left.length:=by omega
   obtain⟨z,hz⟩:∃ z,left[kd.toNat]?=some z:=⟨left[kd.toNat],by simp[hkl]⟩
   refine⟨lf,_,kd,kd.toNat,V.int z,rfl,rfl,hl5,by omega,by omega,hk,by rw[List.getElem?_map,hz];rfl,?_⟩
   have hl6:(upd H5 lf (HO.lst ((left.map V.int).eraseIdx kd.toNat))) lf=some (.lst ((left.eraseIdx kd.toNat).map V.int)):=by rw[upd_same,List.eraseIdx_eq_take_drop_succ,List.eraseIdx_eq_take_drop_succ,List.map_append,List.map_take,List.map_drop]
   have hd6:(upd H5 lf (HO.lst ((left.map V.int).eraseIdx kd.toNat))) d=_:=(upd_ne nfd).trans hd5
   have x6:XsAt (upd H5 lf (HO.lst ((left.map V.int).eraseIdx kd.toNat))) l:=x5.upd nfl
   have y6:Ext l H (upd H5 lf (HO.lst ((left.map V.int).eraseIdx kd.toNat))):=fun b o e nb=>by
    rw[upd_ne (ne_of_none e ff)]
    exact ye5 b o e nb
   generalize upd H5 lf (HO.lst ((left.map V.int).eraseIdx kd.toNat))=H6 at *
   have hzl:=List.mem_of_getElem? hz
   have hzh:=(hm z).mpr (.inr hzl)
   have hzu:=hdj z hzl
   have hperm:left.Perm (z::left.eraseIdx kd.toNat):=by
    have e:left=left.take kd.toNat++z::left.drop (kd.toNat+1):=by
     have h1:=List.getElem?_eq_some_iff.mp hz
     rw[← h1.2]
     exact(List.take_append_drop kd.toNat left).symm.trans (by rw[List.drop_eq_getElem_cons h1.1])
    have e2:left.eraseIdx kd.toNat=left.take kd.toNat++left.drop (kd.toNat+1):=List.eraseIdx_eq_take_drop_succ left kd.toNat
    rw[e2]
    exact(List.Perm.of_eq e).trans List.perm_middle
   have hel:(left.eraseIdx kd.toNat).length+1=left.length:=by rw[hperm.length_eq];rfl
   obtain⟨hzn,ndE⟩:=List.nodup_cons.mp (hperm.nodup_iff.mp ndL)
   have hq6:=y6 _ _ hq nql
   refine⟨_,rfl,_,rfl,q,z,rs,hs,ls,rfl,hq6,lnX y6,wh,wl,fun pn H7 hpn s7 hpn7=>?_⟩
   refine⟨pn,rfl,⟨_,SqL.of hpn7⟩,fun D hD _=>?_⟩
   have hd7:=s7 _ _ hd6
   have nDd:d≠D:=fun z=>by rw[← z,hd7] at hD;cases hD
   refine yh (K:=K) (a:=pn) (xs:=(hs.filter (adB ls z)).map V.int) (fun j zs τ H'=>∃ (o:Option V),τ=[o,some (.ref d)]∧zs=(((hs.filter (adB ls z)).take j).filter fun y=>decide (y∈us)).map V.int∧H'=upd H7 D (.lst zs)) ?_ ?_ ?_ ?_
   ·exact⟨none,rfl,rfl,rfl⟩
   ·rintro j zs τ H' ⟨o,_,_,rfl⟩
    exact SqL.of (by rw[upd_ne (ne_of_none hpn7 hD)];exact hpn7)
   ·rintro j v zs τ H' hj ⟨o,rfl,rfl,rfl⟩
    rw[List.getElem?_map] at hj
    obtain⟨y,hy,rfl⟩:=Option.map_eq_some_iff.mp hj
    have etk2:(hs.filter (adB ls z)).take (j+1)=(hs.filter (adB ls z)).take j++[y]:=by rw[List.take_add_one,hy];rfl
    have hd9:(upd H7 D (HO.lst ((((hs.filter (adB ls z)).take j).filter fun y=>decide (y∈us)).map V.int))) d=some (.dK (tabV (fun x=>opV (pf x)) us)):=by rw[upd_ne nDd];exact hd7
    have hlen:((((hs.filter (adB ls z)).take j).filter fun y=>decide (y∈us)).map V.int).length<sizeLine:=by
     rw[List.length_map]
     have h1:=List.length_filter_le (fun y=>decide (y∈us)) ((hs.filter (adB ls z)).take j)
     rw[List.length_take] at h1
     have h2:=List.length_filter_le (adB ls z) hs
     exact zj (by omega)
    by_cases c1:y∈us
    ·refine⟨_,rfl,_,rfl,d,_,rfl,xz hd9 c1,_,rfl,xH ?_⟩
     refine⟨_,rfl,upd_same,hlen,_,rfl,?_,?_⟩
     ·rw[etk2,List.filter_append,List.filter_cons_of_pos (by simpa using c1),List.filter_nil,List.map_append]
      rfl
     ·rw[xJ]
    ·refine⟨_,rfl,_,rfl,d,none,rfl,vY hd9 c1,_,rfl,iteN rfl ?_⟩
     refine⟨_,rfl,?_,rfl⟩
     rw[etk2,List.filter_append,List.filter_cons_of_neg (by simpa using c1),List.filter_nil,List.append_nil]
   ·rintro zs τ H' ⟨o,rfl,rfl,rfl⟩
    rw[List.length_map,List.take_length]
    generalize hns:(hs.filter (adB ls z)).filter (fun y=>decide (y∈us))=ns
    have hnsm:∀ y∈ns,y∈us∧adB ls z y=true:=fun y hy=>by
     rw[← hns] at hy
     obtain⟨h1,h2⟩:=List.mem_filter.mp hy
     exact⟨of_decide_eq_true h2,(List.mem_filter.mp h1).2⟩
    have s8:=s7.trans (Same.new (o:=HO.lst (ns.map V.int)) hD)
    have hD8:=upd_same (H:=H7) (a:=D) (o:=HO.lst (ns.map V.int))
    have hd8:=s8 _ _ hd6
    have hl8:=s8 _ _ hl6
    have x8:=x6.same s8
    have y8:=y6.trans (Ext.same s8)
    have nDl:D≠l:=fun zz=>by
     obtain⟨ms,e',_⟩:=x6.same s7
     rw[zz,e'] at hD
     cases hD
    have nDd2:D≠d:=nDd.symm
    have nDf:D≠lf:=fun zz=>by rw[zz,s7 _ _ hl6] at hD;cases hD
    generalize upd H7 D (HO.lst (ns.map V.int))=H8 at *
    refine⟨_,rfl,_,rfl,d,_,rfl,DPut.k (k:=.inl z) hd8 (by rw[tabV_len];exact zj (by omega)),?_⟩
    rw[ut hzu]
    have ndz:(us++[z]).Nodup:=by
     rw[List.nodup_append]
     exact⟨ndu,by simp,fun u hu v hv e=>hzu (by rw[List.mem_singleton.mp hv] at e;rw[← e];exact hu)⟩
    have fin:∀ (o:Option Int) (σ5 σ6:Option V) (H':Hp),(∀ y,o=some y→y∈us∧adB ls z y=true)→H' d=some (.dK (tabV (fun x=>opV (if x=z then o else pf x)) (us++[z])))→H' lf=some (.lst ((left.eraseIdx kd.toNat).map V.int))→XsAt H' l→Ext l H H' →
      ∃ m',m'<(b0::lt).length∧∃ (us' left':LI) (pf':Int→Option Int) (pa':Int→LI) (o5 o6 o7' o8' o9' o10' o11':Option V),m'=left'.length∧([some (.ref l),some (.ref h),some (.ref q),some (.ref d),some (.ref lf),σ5,σ6,o7,o8,o9,o10,o11]:St)=[some (.ref l),some (.ref h),some (.ref q),some (.ref d),some (.ref lf),o5,o6,o7',o8',o9',o10',o11']∧H' d=some (.dK (tabV (fun x=>opV (pf' x)) us'))∧H' lf=some (.lst (left'.map V.int))∧us'.Nodup∧left'.Nodup∧(∀ x,x∈hs↔x∈us'∨x∈left')∧(∀ x∈left',x∉us')∧UpS us' pf' pa'∧(∀ x∈us',∀ y,pf' x=some y→adB ls x y=true)∧XsAt H' l∧Ext l H H':=fun o σ5 σ6 H' ho a1 a2 a3 a4=>by
     refine⟨(left.eraseIdx kd.toNat).length,by rw[← hcl];omega,us++[z],left.eraseIdx kd.toNat,fun x=>if x=z then o else pf x,fun x=>if x=z then paF pa z o else pa x,σ5,σ6,o7,o8,o9,o10,o11,rfl,rfl,a1,a2,ndz,ndE,fun x=>?_,fun x hx hx2=>?_,U.add hzu fun y hy=>(ho y hy).1,fun x hx y hy=>?_,a3,a4⟩
     ·rw[hm x,hperm.mem_iff,List.mem_cons,List.mem_append,List.mem_singleton]
      constructor
      ·rintro(h1 | h1 | h1)
       ·exact .inl (.inl h1)
       ·exact .inl (.inr h1)
       ·exact .inr h1
      ·rintro((h1 | h1) | h1)
       ·exact .inl h1
       ·exact .inr (.inl h1)
       ·exact .inr (.inr h1)
     ·rcases List.mem_append.mp hx2 with z2 | z2
      ·exact hdj x (hperm.mem_iff.mpr (List.mem_cons_of_mem _ hx)) z2
      ·exact hzn (by rw[← List.mem_singleton.mp z2];exact hx)
     ·dsimp only at hy
      by_cases c:x=z
      ·rw[if_pos c] at hy
       rw[c]
       exact(ho y hy).2
      ·rw[if_neg c] at hy
       exact had x ((List.mem_append.mp hx).resolve_right fun e=>c (List.mem_singleton.mp e)) y hy
    have e9:tabV (fun y=>if y=z then V.non else opV (pf y)) (us++[z])=tabV (fun x=>opV (if x=z then none else pf x)) (us++[z]):=yK fun y _=>by
     by_cases c:y=z
     ·rw[if_pos c,if_pos c];rfl
     ·rw[if_neg c,if_neg c]
    rw[e9]
    have hd9:=upd_same (H:=H8) (a:=d) (o:=HO.dK (tabV (fun x=>opV (if x=z then none else pf x)) (us++[z])))
    have hl9:(upd H8 d (HO.dK (tabV (fun x=>opV (if x=z then none else pf x)) (us++[z])))) lf=_:=(upd_ne nfd.symm).trans hl8
    have hD9:(upd H8 d (HO.dK (tabV (fun x=>opV (if x=z then none else pf x)) (us++[z])))) D=_:=(upd_ne nDd2).trans hD8
    have x9:XsAt (upd H8 d (HO.dK (tabV (fun x=>opV (if x=z then none else pf x)) (us++[z])))) l:=x8.upd ndl
    have y9:Ext l H (upd H8 d (HO.dK (tabV (fun x=>opV (if x=z then none else pf x)) (us++[z])))):=fun b o e nb=>by
     rw[upd_ne (ne_of_none e fd)]
     exact y8 b o e nb
    generalize upd H8 d (HO.dK (tabV (fun x=>opV (if x=z then none else pf x)) (us++[z])))=H9 at *
    refine⟨_,rfl,(by show 0≤sizeLine;decide),fun e2 he2=>?_⟩
    have se2:=Same.new (o:=HO.lst []) he2
    have nsl:ns.length≤12:=by
     rw[← hns]
     have h1:=List.length_filter_le (fun y=>decide (y∈us)) (hs.filter (adB ls z))
     have h2:=List.length_filter_le (adB ls z) hs
     omega
    have x10:=x9.new (o:=HO.lst []) he2
    have y10:=y9.trans (Ext.new (l:=l) (o:=HO.lst []) he2)
    have hd10:=se2 _ _ hd9
    have hl10:=se2 _ _ hl9
    have hD10:=se2 _ _ hD9
    have he10:=upd_same (H:=H9) (a:=e2) (o:=HO.lst [])
    generalize upd H9 e2 (HO.lst [])=H10 at *
    cases hnc:ns with
    |nil =>
     rw[hnc] at hD10
     refine .inl ⟨D,e2,_,_,fun _=>true,0,rfl,rfl,.inl ⟨SqL.of hD10,SqL.of he10⟩,rfl,un 0 (by omega),(fun j x y hx=>by cases hx),_,rfl,iteN rfl ?_⟩
     exact iteN rfl (fin none _ _ H10 (fun y hy=>(nomatch hy)) hd10 hl10 x10 y10)
    |cons n0 nt =>
     rw[hnc] at hD10
     refine .inr ⟨D,e2,_,_,rfl,rfl,SqL.of hD10,SqL.of he10,(by simp),Nat.lt_of_le_of_lt (Nat.le_add_right _ 2) (un 0 (by omega)),_,rfl,xH ?_⟩
     rw[← hnc] at hD10
     have hnp:0<ns.length:=by rw[hnc];simp
     refine⟨_,rfl,l,4,rfl,x10,by decide,fun t4 H11 t0 t1 x11 y11=>?_⟩
     have hd11:=y11 _ _ hd10 ndl
     have hl11:=y11 _ _ hl10 nfl
     have hD11:=y11 _ _ hD10 nDl
     have yy:=y10.trans y11
     refine⟨_,_,rfl,rfl,_,rfl,?_⟩
     by_cases c4:0<t4
     ·refine iteB (by simp;omega) ?_
      refine⟨_,rfl,_,rfl,_,rfl,D,_,rfl,.inl (SqL.of hD11),l,_,rfl,x11,(by rw[List.length_map];omega),fun kk H12 kk0 kk1 x12 y12=>?_⟩
      rw[List.length_map] at kk1
      have hkk:kk.toNat<ns.length:=by omega
      obtain⟨yv,hyv⟩:∃ yv,ns[kk.toNat]?=some yv:=⟨ns[kk.toNat],by simp[hkk]⟩
      have hyn:=hnsm yv (List.mem_of_getElem? hyv)
      have hat:atI (ns.map V.int) kk=some (V.int yv):=by
       have:=zY (xs:=ns.map V.int) (j:=kk.toNat) (v:=V.int yv) (by rw[List.getElem?_map,hyv];rfl)
       rw[Int.toNat_of_nonneg kk0] at this
       exact this
      have hd12:=y12 _ _ hd11 ndl
      have hl12:=y12 _ _ hl11 nfl
      have hD12:=y12 _ _ hD11 nDl
      refine⟨D,_,_,_,rfl,rfl,SqL.of hD12,hat,?_⟩
      refine⟨_,rfl,_,rfl,d,_,rfl,DPut.k (k:=.inl z) hd12 (by rw[tabV_len,List.length_append,List.length_singleton];exact zj (by omega)),?_⟩
      rw[YB (List.mem_append.mpr (.inr (by simp)))]
      have e12:tabV (fun y=>if y=z then V.int yv else opV (if y=z then none else pf y)) (us++[z])=tabV (fun x=>opV (if x=z then some yv else pf x)) (us++[z]):=yK fun y _=>by
       by_cases c:y=z
       ·rw[if_pos c,if_pos c];rfl
       ·rw[if_neg c,if_neg c,if_neg c]
      rw[e12]
      refine fin (some yv) _ _ _ (fun y hy=>by cases hy;exact hyn) upd_same ((upd_ne nfd.symm).trans hl12) (x12.upd ndl) fun b o e nb=>?_
      rw[upd_ne (ne_of_none e fd)]
      exact(yy.trans y12) b o e nb
     ·refine iteN (by simp;omega) ?_
      exact fin none _ _ H11 (fun y hy=>(nomatch hy)) hd11 hl11 x11 yy
section
variable {X:Cx}
theorem zbi {H:Hp}{i:Int}:EqP X H (.int i) (.int i) true 0:=by
 have:=EqP.of (X:=X) (H:=H) (n:=0) (EqD.flat (K:=X.K) (H:=H) (x:=.int i) (y:=.int i) rfl rfl)
 have e:eqV (.int i) (.int i)=true:=by simp[eqV]
 rw[e] at this
 exact this
theorem Vr {H:Hp}{a b:Addr}{ns:LI}(ha:H a=some (.lst (ns.map V.int))) (hb:H b=some (.lst (ns.map V.int))):EqP X H (.ref a) (.ref b) true 2:=EqP.lst (n:=0) (SqL.of ha) (SqL.of hb) rfl fun j x y e1 e2=>by
 rw[e1] at e2
 cases e2
 rw[List.getElem?_map] at e1
 obtain⟨i,_,rfl⟩:=Option.map_eq_some_iff.mp e1
 exact zbi
end
section
variable {K:PySem.W.Frag}{A:Around}{H:Hp}{D pe:Addr}{zs:List V}{Q:VK}
theorem neZ (h1:SqL K H D zs) (h2:SqL K H pe []) (hu:A.units+2<cLine) (q:Q (.bl (!zs.isEmpty)) H):zdn K A true (.ref D) (.ref pe) H Q∨zkk K A (.ref D) (.ref pe) H Q:=by
 cases zs with
 |nil=>exact .inl ⟨D,pe,[],[],fun _=>true,0,rfl,rfl,.inl ⟨h1,h2⟩,rfl,by omega,fun j x y e=>by simp at e,q⟩
 |cons z zs=>exact .inr ⟨D,pe,_,[],rfl,rfl,h1,h2,by simp,by omega,q⟩
end
def vQ (hs:LI) (ls:LP) (xs:LI):LP:=xs.flatMap fun x=>(hs.filter (adB ls x)).map fun y=>(x,y)
theorem prsO_snoc {hs:LI}{ls:LP}{xs:LI}{x:Int}:vQ hs ls (xs++[x])=vQ hs ls xs++(hs.filter (adB ls x)).map fun y=>(x,y):=by
 unfold vQ
 rw[List.flatMap_append]
 simp
theorem prsO_mem {hs:LI}{ls:LP}{xs:LI}{p:Int×Int}:p∈vQ hs ls xs↔p.1∈xs∧p.2∈hs∧adB ls p.1 p.2=true:=by
 unfold vQ
 rw[List.mem_flatMap]
 constructor
 ·rintro⟨x,hx,h⟩
  obtain⟨y,hy,rfl⟩:=List.mem_map.mp h
  exact⟨hx,(List.mem_filter.mp hy).1,(List.mem_filter.mp hy).2⟩
 ·rintro⟨h1,h2,h3⟩
  exact⟨p.1,h1,List.mem_map.mpr ⟨p.2,List.mem_filter.mpr ⟨h2,h3⟩,rfl⟩⟩
theorem prsO_nd {hs:LI}{ls:LP}(nh:hs.Nodup):∀ {xs:LI},xs.Nodup→(vQ hs ls xs).Nodup
 |[],_=>List.nodup_nil
 |x::xs,hn=>by
  rw[List.nodup_cons] at hn
  have ih:=prsO_nd (ls:=ls) nh hn.2
  show((hs.filter (adB ls x)).map (fun y=>(x,y))++vQ hs ls xs).Nodup
  rw[List.nodup_append]
  refine⟨List.pairwise_map.mpr ((nh.filter _).imp fun h e=>h (congrArg Prod.snd e)),ih,fun p hp q hq e=>?_⟩
  obtain⟨y,_,rfl⟩:=List.mem_map.mp hp
  rw[← e] at hq
  exact hn.1 (prsO_mem.mp hq).1
theorem mem_adB {ls:LP}{p:Int×Int}:p∈dbl ls↔adB ls p.1 p.2=true:=by
 rw[mem_dbl]
 unfold adB
 rw[Bool.or_eq_true,decide_eq_true_eq,decide_eq_true_eq]
theorem wY {hs:LI}{ls:LP}(L:Ls hs ls){p:Int×Int}:p∈vQ hs ls hs↔p∈dbl ls:=by
 rw[prsO_mem,mem_adB]
 exact⟨fun h=>h.2.2,fun h=>⟨uQ L (by rw[vh];exact h),uQ L h,h⟩⟩
theorem uz {hs:LI}{ls:LP}(wh:Hs hs) (L:Ls hs ls):(vQ hs ls hs).length=(dbl (srt ls)).length:=by
 have n1:=prsO_nd (ls:=ls) (vd wh) (vd wh)
 have n2:=L.dnd
 refine Nat.le_antisymm (xO n1 fun x hx=>mem_ds.mpr ((wY L).mp hx)) (xO n2 fun x hx=>(wY L).mpr (mem_ds.mp hx))
theorem YM {hs:LI}{ls:LP}(wh:Hs hs) (L:Ls hs ls){i:Nat}:(vQ hs ls (hs.take i)).length≤132:=by
 have n1:=prsO_nd (ls:=ls) (vd wh) ((vd wh).sublist (List.take_sublist i hs))
 have h:=xO n1 (bs:=vQ hs ls hs) fun x hx=>by
  have:=prsO_mem.mp hx
  exact prsO_mem.mpr ⟨List.mem_of_mem_take this.1,this.2⟩
 rw[uz wh L,xq,(zJ ls).length_eq] at h
 have:=L.le
 omega
theorem ixK {X:Cx}{K:PySem.W.Frag}(hK:X.K=K:=by rfl):IxR X (zkl K):=by
 subst hK
 exact zN
theorem WR {us:LI}{pf:Int→Option Int}{pa:Int→LI}{ds:LP}(U:UpP us pf pa) (hd:∀ q∈ds,q.1∈us∧q.2∈us){h n:Int}(hh:h∈us) (hn:n∈us):∀ r∈rfs pa ds h n,r.length≤4*us.length:=fun r hr=>by
 unfold rfs at hr
 split at hr
 ·rw[List.mem_singleton.mp hr]
  have:=wm U hh hn
  omega
 ·obtain⟨q,hq,rfl⟩:=List.mem_map.mp hr
  have hq:=hd q (List.mem_filter.mp hq).1
  have h1:=wm U hq.1 hn
  have h2:=wm U hh hq.2
  unfold rdO
  rw[List.length_append]
  omega
theorem zmK (T:Txt w K mg a):PySem.W.kitAny K (.ref a.c_NoWay) [.ref a.c_NoHand,.ref a.c_NoProgram,.ref a.c_NoWeb]=some false:=by
 unfold PySem.W.kitAny
 rw[T.k_NoWay_NoHand]
 show PySem.W.kitAny K (.ref a.c_NoWay) [.ref a.c_NoProgram,.ref a.c_NoWeb]=some false
 unfold PySem.W.kitAny
 rw[T.k_NoWay_NoProgram]
 show PySem.W.kitAny K (.ref a.c_NoWay) [.ref a.c_NoWeb]=some false
 unfold PySem.W.kitAny
 rw[T.k_NoWay_NoWeb]
 rfl
def zj2 (a:Ad):Sp:=fun vs H Q _=>∃ (p q dx dp ob:Addr) (hs us:LI) (ls bs:LP) (pf:Int→Option Int),vs=[.ref p,.ref q]∧WbP a H p hs ls∧WayAt a H q pf us bs dx dp ob∧(∀ x,x∈us↔x∈hs)∧Cl us pf∧BrL ls bs∧¬GG us ls pf bs∧∀ (H':Hp),Same H H'→Q (.bl true) H'
theorem zdB (T:Txt w K mg a):FnOk P w K mg base CX0 12 a.f_qI a.d_qI ["_law_web", "_law_way"] (zj2 a):=by
 have cx_qs:Callee1 P w K mg base "roads" a.f_qs a.d_qs ["web", "way"] 11 (zcT a):=⟨UF T,T.g_qs,T.F_qs.kp,T.b_qs⟩
 refine T.F_qI.ok sc_qI (fun vs H Q E h=>?_) (fun cdv A outer s H vs Q E hr h=>?_)
 ·obtain⟨p,q,dx,dp,ob,hs,us,ls,bs,pf,rfl,_⟩:=h
  rfl
 ·obtain⟨p,q,dx,dp,ob,hs,us,ls,bs,pf,rfl,WP,Y,hm,C,BL,ng,k⟩:=h
  refine zM (w_pss_cons (w_ps_set (i:=2) sc_qI.nd rfl (Or.inl rfl) xu)
   (wf (Zn (i:=3) rfl rfl sc_qI.nd rfl rfl (Or.inl T.xc_BeatlessError) T.g_BeatlessError (Zm (VW cx_qs hr.m (zd (zf 0) (zd (zf 1) za)))) (fun _=>(w_pss_cons (w_ps_set (i:=4) sc_qI.nd rfl (Or.inl rfl) (vU (zi (Yo (K:=K) rfl) (by rfl) T.n_isinstance zo (zd (zf 3) (xM (zP (zd (xw T.g_NoHand) (zd (xw T.g_NoProgram) (zd (xw T.g_NoWeb) za)))) za))) (yp (xU (zi (vL (K:=K) rfl) (by rfl) T.n_isinstance zo (zd (zf 3) (zd (zR T.n_ValueError vf) za)))))))
    (zb (w_ps_set (i:=2) sc_qI.nd rfl (Or.inl rfl) (zr ixK (zA (zX xu (zX xu za))) (zT Yp (by rfl) T.n_int Yq (zn (yz (zi (vL (K:=K) rfl) (by rfl) T.n_isinstance zo (zd (zf 3) (zd (xw T.g_NoWay) za))) (yp (xU (zf 4)))) za)) (fun _ _=>rfl)))))))
   (zb (zg (zW xo (zf 2) xu (zC _)))))) ?_
  refine⟨fun σ' H'=>∃ o3 o4,σ'=[some (.ref p),some (.ref q),some (.str "way"),o3,o4]∧Same H H',?_,?_⟩
  ·refine⟨_,rfl,_,rfl,p,q,dx,dp,ob,hs,us,ls,bs,pf,rfl,WP,Y,hm,C,BL,fun gg=>absurd gg ng,fun _ H1 s1=>⟨a.c_NoWay,rfl,T.xu_NoWay_BeatlessError,.inl T.xc_NoWay,fun ax hax=>?_⟩⟩
   have hX:upd H1 ax (.ext (ObX ax a.c_NoWay none)) ax=some (.ext (ObC ax a.c_NoWay)):=upd_same
   have hX2:upd H1 ax (.ext (ObX ax a.c_NoWay none)) ax=some (.ext (ObX ax a.c_NoWay none)):=upd_same
   have sX:=Same.new (o:=HO.ext (ObX ax a.c_NoWay none)) hax
   generalize upd H1 ax (.ext (ObX ax a.c_NoWay none))=H2 at *
   refine⟨_,rfl,(by show 3≤sizeLine;decide),fun tp htp=>?_⟩
   have sp:=Same.new (o:=HO.tup [V.ref a.c_NoHand,V.ref a.c_NoProgram,V.ref a.c_NoWeb]) htp
   have htp3:=upd_same (H:=H2) (a:=tp) (o:=HO.tup [V.ref a.c_NoHand,V.ref a.c_NoProgram,V.ref a.c_NoWeb])
   generalize upd H2 tp (HO.tup [V.ref a.c_NoHand,V.ref a.c_NoProgram,V.ref a.c_NoWeb])=H3 at *
   refine⟨ax,a.c_NoWay,tp,none,_,[.ref a.c_NoHand,.ref a.c_NoProgram,.ref a.c_NoWeb],false,rfl,sp _ _ hX2,htp3,rfl,T.xi_NoWay,zmK T,_,rfl,iteN rfl ?_⟩
   refine⟨_,rfl,ax,a.c_NoWay,_,_,_,rfl,rfl,sp _ _ hX,T.xi_NoWay,T.k_NoWay_tValueError,_,rfl,?_⟩
   refine⟨(by show 2≤sizeLine;decide),fun lw hlw=>?_⟩
   have sl:=Same.new (o:=HO.lst [V.str "other",V.str "way"]) hlw
   have hl4:=upd_same (H:=H3) (a:=lw) (o:=HO.lst [V.str "other",V.str "way"])
   generalize upd H3 lw (HO.lst [V.str "other",V.str "way"])=H4 at *
   refine⟨_,rfl,ax,a.c_NoWay,_,_,_,rfl,rfl,sl _ _ (sp _ _ hX),T.xi_NoWay,T.k_NoWay_NoWay,_,rfl,xH ?_⟩
   refine⟨_,rfl,_,rfl,.inr ⟨true,rfl,?_⟩⟩
   refine⟨lw,_,1,V.str "way",rfl,rfl,SqL.of hl4,zY (j:=1) rfl,?_⟩
   exact⟨_,_,rfl,s1.trans (sX.trans (sp.trans sl))⟩
  ·rintro σ' H' ⟨o3,o4,rfl,sm⟩
   exact⟨_,rfl,rfl,k H' sm⟩
def spRt (a:Ad):Sp:=fun vs H Q _=>∃ (p h q d lb:Addr) (rs rb:List V) (hs us:LI) (ls bs:LP) (pf:Int→Option Int),vs=[.ref p,.ref h,.ref q,.ref d,.ref lb]∧WbP a H p hs ls∧H h=some (.lst (hs.map V.int))∧H q=some (.lst rs)∧LnAt H rs ls∧H d=some (.dK (tabV (fun x=>opV (pf x)) us))∧us.Nodup∧(∀ x,x∈us↔x∈hs)∧Cl us pf∧H lb=some (.lst rb)∧LnAt H rb bs∧BrL ls bs∧GG us ls pf bs∧∀ (H':Hp),Same H H'→Q (.bl true) H'
theorem zdy (T:Txt w K mg a):FnOk P w K mg base CX0 13 a.f_qJ a.d_qJ ["_law_web", "_law_hands_here", "_law_lines_here", "_law_parents", "_law_bridges"] (spRt a):=by
 have c_qD:Callee P w K mg base "_law_near" a.f_qD a.d_qD ["_law_lines_here", "_law_hand"] 1 zcW:=⟨UH T,T.g_qD,T.F_qD.kp,T.b_qD⟩
 have c_qH:Callee P w K mg base "_law_roads" a.f_qH a.d_qH ["_law_parents", "_law_bridges", "_law_hand", "_law_other"] 2 zj7:=⟨zdI T,T.g_qH,T.F_qH.kp,T.b_qH⟩
 have c_qs:Callee P w K mg base "roads" a.f_qs a.d_qs ["web", "way"] 11 (fun vs H Q _=>zcT a vs H Q E0):=⟨calm (UF T),T.g_qs,T.F_qs.kp,T.b_qs⟩
 have m_Way:Maker P w K mg base "Way" a.c_Way a.f_qL a.d_qL ["self", "parents", "bridges"] 6 (YH a):=⟨ZQ T,T.g_Way,T.mk_Way,T.b_qL⟩
 refine T.F_qJ.ok sc_qJ (fun vs H Q E h=>?_) (fun cdv A outer s H vs Q E hr h=>?_)
 ·obtain⟨p,h,q,d,lb,rs,rb,hs,us,ls,bs,pf,rfl,_⟩:=h
  rfl
 ·obtain⟨p,h,q,d,lb,rs,rb,hs,us,ls,bs,pf,rfl,WP,hh,hq,L,hd,nd,hm,C,hlb,Lb,BL,gg,k⟩:=h
  have hu:=yQ hr
  have un:∀ n:Nat,n≤8→(A.deeper (PyProof.Rows.envOfC "_law_right" (defScope YF) s.heap.objs.size a.f_qJ cdv)).units+n+2<cLine:=fun n hn=>by
   have:=hr.units
   omega
  have wh:=WP.wh
  have wl:=WP.wl
  have g:=gg.g
  have U:=UpP.of C g.en
  have ndh:=vd wh
  have us12:us.length≤12:=Nat.le_trans (yX nd fun x hx=>(hm x).mp hx) wh.l12
  have inl:∀ b∈bs,b∈ls:=fun b hb=>BL.inl wl hb (g.gd.1 b hb).1
  have l63:bs.length≤63:=Nat.le_trans (xO g.gd.2 inl) WP.l63
  have Bb:Bd bs:=fun b hb=>(wl.bd wh) b (inl b hb)
  have bin:∀ b∈bs,b.1∈us∧b.2∈us:=fun b hb=>⟨(hm _).mpr (wl.ok b (inl b hb)).1,(hm _).mpr (wl.ok b (inl b hb)).2.1⟩
  have din:∀ b∈dbl (srt bs),b.1∈us∧b.2∈us:=fun b hb=>by
   rcases mem_dbl.mp (mem_ds.mp hb) with z | z
   ·exact bin b z
   ·exact⟨(bin _ z).2,(bin _ z).1⟩
  have hE:∀ z,z∈us→z∈us∧En pf z (paO pf z):=fun z hz=>⟨hz,U.en hz⟩
  have cov:∀ b∈dbl ls,rfs (paO pf) (dbl (srt bs)) b.1 b.2≠[]:=fun b hb=>Xw fun hne=>by
   rcases mem_dbl.mp hb with z | z
   ·exact gg.cov b z hne
   ·obtain⟨c,hc,e⟩:=gg.cov _ z fun zz=>hne zz.symm
    refine⟨c,hc,e.trans ?_⟩
    unfold jk
    rw[Int.min_comm,Int.max_comm]
  refine zM (w_pss_cons (w_ps_set (i:=5) sc_qJ.nd rfl (Or.inl rfl) yk)
   (w_pss_cons (zE PassesOwn.never rfl (zw (zf 1)) (zh (i:=6) sc_qJ.nd rfl (Or.inl rfl))
    (zb (zE PassesOwn.never rfl (zw (zm c_qD hr.m (zd (zf 2) (zd (zf 6) za)))) (zh (i:=7) sc_qJ.nd rfl (Or.inl rfl))
     (zb (yr hu (zf 5) (zP (zd (zf 6) (zd (zf 7) za))) (zr zN (zm c_qH hr.m (zd (zf 3) (zd (zf 4) (zd (zf 6) (zd (zf 7) za))))) ze (fun _ _=>rfl)) rfl)))))
   (w_pss_cons (zE PassesOwn.never rfl (yB rfl T.n_range (zX ze za)) (zh (i:=8) sc_qJ.nd rfl (Or.inl rfl))
    (w_pss_cons (w_ps_set (i:=9) sc_qJ.nd rfl (Or.inl rfl) (zm c_qs hr.m (zd (zf 0) (zI (vj m_Way hr.m (zd (zf 3) (zd (zf 4) za))) za))))
    (w_pss_cons (zu (we (yg (zG (zy (zi zS (by rfl) T.n_isinstance zo (zd (zf 9) (zd (zR T.n_dict wB) za))))) (yb (zl Va (zf 9) (zf 5) (zC _)))))
     (zb (zg zF))
     zk)
    (w_pss_cons (uR (zE PassesOwn.never rfl (vR (zf 9)) (zh (i:=10) sc_qJ.nd rfl (Or.inl rfl))
     (w_pss_cons (zu (we (yg (zG (zy (zi zS (by rfl) T.n_isinstance zo (zd (zf 10) (zd (zR T.n_list bt_list) za))))) (yb (zl (vD uC uD) (yt rfl (N':=["_law_hand"]) (t:=1) (caps:=[]) ⟨rfl,rfl,rfl⟩ (zw (zf 10)) (fun _=>(zh (i:=0) (show(["_law_hand"]:List Str).Nodup by decide +kernel) rfl (Or.inl rfl))) (fun _=>(yT (zy (zi zS (by rfl) T.n_isinstance zo (zd (zf 0) (zd (zR T.n_bool uf) za)))))) (fun _=>(zf 0))) (zA za) (zC _)))))
      (zb (zg zF))
      zk)
     (zb (zH (ya PySem.F.plainAttrs_list PySem.F.slot_list_append PySem.F.type_list_append zL (zf 10) (zX ze za)))))))
    (zb (zH (uV (zf 9))))))))
   (zb (zg zF))))) ?_
  refine fun pd hpd=>?_
  have n0:=Same.new (o:=HO.dT []) hpd
  have h0:=upd_same (H:=H) (a:=pd) (o:=HO.dT [])
  generalize upd H pd (HO.dT [])=G5 at *
  have SX:∀ {G':Hp},Ext pd G5 G'→Same H G':=fun {G'} xx c o hc=>xx _ _ (n0 _ _ hc) fun z=>by rw[z,hpd] at hc;cases hc
  refine⟨_,rfl,h,rfl,⟨_,SqL.of (n0 _ _ hh)⟩,?_⟩
  refine for_list (xs:=hs.map V.int) (fun i σ H'=>∃ (js:List ((Int×Int)×Addr×LI)) (o6 o7:Option V),σ=[some (.ref p),some (.ref h),some (.ref q),some (.ref d),some (.ref lb),some (.ref pd),o6,o7,none,none,none]∧Pp H' pd js∧js.map (·.1)=vQ hs ls (hs.take i)∧(∀ j∈js,(rfs (paO pf) (dbl (srt bs)) j.1.1 j.1.2).head?=some j.2.2)∧Ext pd G5 H') ?_ ?_ ?_ ?_
  ·exact⟨[],_,_,rfl,⟨h0,List.nodup_nil,(fun j hj=>(nomatch hj)),by simp⟩,rfl,(fun j hj=>(nomatch hj)),Ext.refl⟩
  ·rintro i σ H' hi ⟨js,o6,o7,_,_,_,_,xx⟩
   exact SqL.of ((SX xx) _ _ hh)
  ·rintro i v σ G6 hi ⟨js,o6,o7,rfl,pp,ek,tb,x6⟩
   rw[List.getElem?_map] at hi
   obtain⟨u,hu',rfl⟩:=Option.map_eq_some_iff.mp hi
   have huh:=List.mem_of_getElem? hu'
   have etk:hs.take (i+1)=hs.take i++[u]:=by rw[List.take_add_one,hu'];rfl
   have S6:=SX x6
   refine⟨_,rfl,_,rfl,q,u,rs,hs,ls,rfl,S6 _ _ hq,L.same S6,wh,wl,fun pn G7 hpn s7 hpn7=>?_⟩
   have npd:pn≠pd:=fun z=>by rw[z,pp.dd] at hpn;cases hpn
   refine⟨pn,rfl,⟨_,SqL.of hpn7⟩,?_⟩
   have x7:=x6.trans (Ext.same s7)
   refine for_list (xs:=(hs.filter (adB ls u)).map V.int) (fun j σ H'=>∃ (js:List ((Int×Int)×Addr×LI)) (o7:Option V),σ=[some (.ref p),some (.ref h),some (.ref q),some (.ref d),some (.ref lb),some (.ref pd),some (.int u),o7,none,none,none]∧Pp H' pd js∧js.map (·.1)=vQ hs ls (hs.take i)++((hs.filter (adB ls u)).take j).map (fun y=>(u,y))∧(∀ j∈js,(rfs (paO pf) (dbl (srt bs)) j.1.1 j.1.2).head?=some j.2.2)∧Ext pd G7 H') ?_ ?_ ?_ ?_
   ·exact⟨js,_,rfl,pp.same s7,by simp[ek],tb,Ext.refl⟩
   ·rintro j σ H' hj ⟨js,o7,_,_,_,_,xx⟩
    exact SqL.of (xx _ _ hpn7 npd)
   ·rintro j v σ G8 hj ⟨js,o7,rfl,pp,ek,tb,x8⟩
    rw[List.getElem?_map] at hj
    obtain⟨v,hv',rfl⟩:=Option.map_eq_some_iff.mp hj
    have hvm:=List.mem_filter.mp (List.mem_of_getElem? hv')
    have etj:(hs.filter (adB ls u)).take (j+1)=(hs.filter (adB ls u)).take j++[v]:=by rw[List.take_add_one,hv'];rfl
    have S8:=SX (x7.trans x8)
    have hne:=cov (u,v) (mem_adB.mpr hvm.2)
    dsimp only at hne
    have ndk:(vQ hs ls (hs.take i)++((hs.filter (adB ls u)).take (j+1)).map (fun y=>(u,y))).Nodup:=by
     have h1:=prsO_nd (ls:=ls) ndh (ndh.sublist (List.take_sublist (i+1) hs))
     rw[etk,prsO_snoc] at h1
     exact h1.sublist ((List.Sublist.refl _).append ((List.take_sublist _ _).map _))
    have ljs:js.length≤131:=by
     have h1:=congrArg List.length ek
     rw[List.length_map] at h1
     have h2:=xO ndk (bs:=vQ hs ls hs) fun z hz=>by
      rcases List.mem_append.mp hz with e | e
      ·have:=prsO_mem.mp e
       exact prsO_mem.mpr ⟨List.mem_of_mem_take this.1,this.2⟩
      ·obtain⟨y',hy',rfl⟩:=List.mem_map.mp e
       have:=List.mem_filter.mp (List.mem_of_mem_take hy')
       exact prsO_mem.mpr ⟨huh,this⟩
     have h3:=YM wh wl (i:=hs.length)
     rw[List.take_length] at h3
     rw[etj,List.map_append,← List.append_assoc,← ek,List.length_append,List.length_map] at h2
     simp at h2
     omega
    refine⟨_,rfl,_,rfl,_,rfl,_,rfl,d,lb,pf,paO pf,us,rb,bs,u,v,(fun z=>z∈us),rfl,S8 _ _ hd,us12,C,hE,S8 _ _ hlb,Lb.same S8,Bb,l63,bin,(hm u).mpr huh,(hm v).mpr hvm.1,fun lr G9 hlr llf s9=>?_⟩
    obtain⟨ps,e1,e2,e3⟩:=llf
    cases hps:ps with
    |nil=>rw[hps] at e3;exact absurd e3.symm hne
    |cons r0 ps' =>
    rw[hps] at e1 e2 e3
    refine⟨lr,_,0,V.ref r0.1,rfl,rfl,SqL.of e1,zY (j:=0) rfl,?_⟩
    have hr0:=(e2 r0 List.mem_cons_self).1
    have ehd:(rfs (paO pf) (dbl (srt bs)) u v).head?=some r0.2:=by rw[← e3];rfl
    refine⟨_,rfl,_,rfl,_,rfl,(by show 2≤sizeLine;decide),fun kt hkt=>?_⟩
    have n10:=Same.new (o:=HO.tup [V.int u,V.int v]) hkt
    have hk10:=upd_same (H:=G9) (a:=kt) (o:=HO.tup [V.int u,V.int v])
    generalize upd G9 kt (HO.tup [V.int u,V.int v])=G10 at *
    have s10:=s9.trans n10
    have pp10:=pp.same s10
    have e4:(js++[((u,v),r0.1,r0.2)]).map (·.1)=vQ hs ls (hs.take i)++((hs.filter (adB ls u)).take (j+1)).map (fun y=>(u,y)):=by
     rw[List.map_append,ek,etj,List.map_append,List.append_assoc]
     rfl
    have hnew:yw (u,v)∉(kvP js).map (·.1):=by
     rw[uI]
     intro z
     obtain⟨w',hw',e⟩:=List.mem_map.mp z
     rw[yP e] at hw'
     rw[← e4,List.map_append,List.nodup_append] at ndk
     exact ndk.2.2 _ hw' _ (by simp) rfl
    refine⟨pd,_,rfl,DPut.t (k:=yw (u,v)) pp10.dd hk10 (by unfold kvP;rw[List.length_map];exact zj (by omega)),?_⟩
    have hrow:∀ {b:Addr}{ns:LI},G10 b=some (.lst (ns.map V.int))→(upd G10 pd (.dT (putK (kvP js) (yw (u,v)) (V.ref r0.1)))) b=some (.lst (ns.map V.int)):=fun {b ns} e=>by
     rw[upd_ne (fun z=>by rw[z,pp10.dd] at e;cases e)]
     exact e
    refine⟨js++[((u,v),r0.1,r0.2)],_,rfl,⟨?_,by rw[e4];exact ndk,fun j' hj'=>?_,by rw[List.length_append,List.length_singleton];omega⟩,e4,fun j' hj'=>?_,(x8.trans (Ext.same s10)).trans Ext.at⟩
    ·rw[upd_same,putK_new hnew]
     unfold kvP
     rw[List.map_append]
     rfl
    ·rcases List.mem_append.mp hj' with z | z
     ·exact hrow (pp10.row j' z)
     ·rw[List.mem_singleton.mp z]
      exact hrow (n10 _ _ hr0)
    ·rcases List.mem_append.mp hj' with z | z
     ·exact tb j' z
     ·rw[List.mem_singleton.mp z]
      exact ehd
   ·rintro σ G8 ⟨js,o7,rfl,pp,ek,tb,x8⟩
    refine⟨js,_,_,rfl,pp,?_,tb,x7.trans x8⟩
    rw[etk,prsO_snoc,ek,List.length_map,List.take_length]
  ·rintro σ G6 ⟨js,o6,o7,rfl,pp,ek,tb,x6⟩
   rw[List.length_map,List.take_length] at ek
   have S6:=SX x6
   refine⟨2,rfl,by decide,by decide,?_⟩
   refine for_range (lo:=0) (n:=2) (fun i σ H'=>∃ (o8 o9 o10:Option V),σ=[some (.ref p),some (.ref h),some (.ref q),some (.ref d),some (.ref lb),some (.ref pd),o6,o7,o8,o9,o10]∧Same G6 H') ?_ ?_ ?_
   ·exact⟨_,_,_,rfl,Same.refl _⟩
   ·rintro j σ G hj ⟨o8,o9,o10,rfl,sm⟩
    have SG:=S6.trans sm
    refine⟨_,rfl,_,rfl,_,rfl,fun y dx ny ndx ney=>?_⟩
    have m1:Same G (upd (upd G dx (.own y)) y (.ins a.c_Way dx [])):=(Same.new ndx).updF ny
    have SG1:=SG.trans m1
    refine⟨y,dx,d,lb,pf,us,rb,bs,rfl,upd_same,SG1 _ _ hd,nd,us12,SG1 _ _ hlb,Lb.same SG1,by omega,fun dp ob G7 fdp fob x7' W7=>⟨rfl,?_⟩⟩
    have s7:Same G G7:=fun b o e=>x7' b o (m1 b o e) (ne_of_none e ny)
    refine⟨p,y,dx,dp,ob,hs,us,ls,bs,pf,rfl,(WP.same SG).same s7,W7,hm,C,BL,fun _ fd fjs G8 hfd fpp fpb ffr s8=>?_,fun ng=>absurd gg ng⟩
    have s78:=s7.trans s8
    have ffr:∀ j∈fjs,G j.2.1=none:=fun j hj=>s7.free (ffr j hj)
    have ffd:G fd=none:=s7.free hfd
    refine⟨_,rfl,_,_,_,_,_,rfl,rfl,.dT fpp.dd,T.k_tdict_tdict,_,rfl,iteN rfl ?_⟩
    have pp8:=(pp.same sm).same s78
    have fkl:fjs.length=js.length:=by
     have h1:=congrArg List.length fpb.ks
     have h2:=congrArg List.length ek
     rw[List.length_map] at h1 h2
     rw[h1,h2,uz wh wl]
    refine⟨_,rfl,_,rfl,fd,pd,kvP fjs,kvP js,2,rfl,rfl,fpp.dd,pp8.dd,by unfold kvP;rw[List.length_map,List.length_map,fkl],un 2 (by omega),fun z hz=>?_,_,rfl,iteN rfl ?_⟩
    ·obtain⟨j1,hj1,rfl⟩:=List.mem_map.mp hz
     have hk1:j1.1∈js.map (·.1):=by
      rw[ek,wY wl,← mem_ds,← fpb.ks]
      exact List.mem_map.mpr ⟨j1,hj1,rfl⟩
     obtain⟨j2,hj2,e⟩:=List.mem_map.mp hk1
     refine⟨V.ref j2.2.1,List.mem_map.mpr ⟨j2,hj2,by rw[e]⟩,?_⟩
     have r1:=fpp.row j1 hj1
     have r2:=pp8.row j2 hj2
     have e1:=fpb.hd j1 hj1
     have e2:=tb j2 hj2
     rw[e,e1] at e2
     injection e2 with e2
     rw[← e2] at r2
     exact Vr r1 r2
    have flen:∀ j∈fjs,j.2.2.length≤48:=fun j hj=>by
     have hk1:j.1∈dbl ls:=by
      rw[← mem_ds,← fpb.ks]
      exact List.mem_map.mpr ⟨j,hj,rfl⟩
     have hju:j.1.1∈us∧j.1.2∈us:=by
      rcases mem_dbl.mp hk1 with z | z
      ·exact⟨(hm _).mpr (wl.ok _ z).1,(hm _).mpr (wl.ok _ z).2.1⟩
      ·exact⟨(hm _).mpr (wl.ok _ z).2.1,(hm _).mpr (wl.ok _ z).1⟩
     have:=WR U din hju.1 hju.2 _ (List.mem_of_head? (fpb.hd j hj))
     omega
    refine⟨_,rfl,fd,kvP fjs,rfl,fpp.dd,fun od S=>?_⟩
    have hz9:=upd_same (H:=G8) (a:=fd) (o:=HO.frz od (HO.dT (kvP fjs)))
    have rw9:∀ j∈fjs,∃ ns:LI,(upd G8 fd (HO.frz od (HO.dT (kvP fjs)))) j.2.1=some (.lst (ns.map V.int))∧ns.length≤48:=fun j hj=>⟨j.2.2,by
     have h1:=fpp.row j hj
     rw[upd_ne (fun z=>by rw[z,fpp.dd] at h1;cases h1)]
     exact h1,flen j hj⟩
    have s9:Same G (upd G8 fd (HO.frz od (HO.dT (kvP fjs)))):=s78.updF ffd
    generalize upd G8 fd (HO.frz od (HO.dT (kvP fjs)))=G9 at *
    have lfj:=fpp.len
    refine Yd (d:=fd) (od:=od) (kvs:=kvP fjs) (fun i σ H'=>∃ (o10:Option V),σ=[some (.ref p),some (.ref h),some (.ref q),some (.ref d),some (.ref lb),some (.ref pd),o6,o7,some (.int (0+(j:Int))),some (.ref fd),o10]∧H' fd=some (.frz od (.dT (kvP fjs)))∧(∀ j∈fjs,∃ ns:LI,H' j.2.1=some (.lst (ns.map V.int))∧ns.length≤48+i)∧Same G H') ?_ ?_ ?_ ?_
    ·exact⟨_,rfl,hz9,rw9,s9⟩
    ·rintro i σ H' ⟨o10,_,hz,_⟩
     exact hz
    ·rintro i kv σ K1 hkv ⟨o10,rfl,hz,rws,sK⟩
     have hil:i<fjs.length:=by
      have:=(List.getElem?_eq_some_iff.mp hkv).1
      unfold kvP at this
      rw[List.length_map] at this
      exact this
     unfold kvP at hkv
     rw[List.getElem?_map] at hkv
     obtain⟨jx,hjx,e⟩:=Option.map_eq_some_iff.mp hkv
     subst e
     have hjm:=List.mem_of_getElem? hjx
     obtain⟨ns,hrow,hlen⟩:=rws jx hjm
     refine⟨_,rfl,_,_,_,_,_,rfl,rfl,.lst hrow,T.k_tlist_tlist,_,rfl,iteN rfl ?_⟩
     refine⟨_,rfl,jx.2.1,rfl,⟨_,SqL.of hrow⟩,fun D hD _=>?_⟩
     refine yh (K:=K) (a:=jx.2.1) (xs:=ns.map V.int) (fun i zs τ H'=>∃ (o:Option V),τ=[o]∧zs=[]∧H'=upd K1 D (.lst [])) ?_ ?_ ?_ ?_
     ·exact⟨none,rfl,rfl,rfl⟩
     ·rintro i zs τ H' ⟨o,_,_,rfl⟩
      exact SqL.of ((Same.new hD) _ _ hrow)
     ·rintro i v zs τ H' hi ⟨o,rfl,rfl,rfl⟩
      rw[List.getElem?_map] at hi
      obtain⟨x,hx,rfl⟩:=Option.map_eq_some_iff.mp hi
      exact⟨_,rfl,_,_,_,_,_,rfl,rfl,.int x,T.k_tint_tbool,_,rfl,iteN rfl ⟨_,rfl,rfl,rfl⟩⟩
     ·rintro zs τ H' ⟨o,rfl,rfl,rfl⟩
      have n1:=Same.new (o:=HO.lst []) hD
      refine⟨(by show 0≤sizeLine;decide),fun pe hpe=>?_⟩
      have n2:=n1.trans (Same.new (o:=HO.lst []) hpe)
      refine neZ (zs:=[]) (SqL.of ((Same.new hpe) _ _ upd_same)) (SqL.of upd_same) (un 0 (by omega)) ⟨_,rfl,iteN rfl ?_⟩
      generalize upd (upd K1 D (HO.lst [])) pe (HO.lst [])=K2 at *
      have hrow2:=n2 _ _ hrow
      refine⟨_,rfl,.inl ⟨rfl,_,SqL.of hrow2⟩,jx.2.1,_,_,rfl,rfl,hrow2,by rw[List.length_map];exact zj (by omega),?_⟩
      refine⟨_,rfl,?_,fun j' hj'=>?_,(sK.trans n2).updF (ffr jx hjm)⟩
      ·have:=n2 _ _ hz
       rw[upd_ne (fun z=>by rw[z,hrow2] at this;cases this)]
       exact this
      ·obtain⟨ns',h1,h2⟩:=rws j' hj'
       by_cases c:j'.2.1=jx.2.1
       ·refine⟨ns++[0],?_,by rw[List.length_append,List.length_singleton];omega⟩
        rw[c,upd_same,List.map_append]
        rfl
       ·exact⟨ns',by rw[upd_ne c];exact n2 _ _ h1,by omega⟩
    ·rintro σ K1 ⟨o10,rfl,hz,rws,sK⟩
     refine .inr ⟨fd,od,_,S,hz,?_⟩
     refine⟨_,rfl,fd,_,rfl,upd_same,?_⟩
     refine⟨_,_,_,rfl,sm.trans ?_⟩
     exact(sK.updF ffd).updF ffd
   ·rintro σ G ⟨o8,o9,o10,rfl,sm⟩
    exact k G (S6.trans sm)
theorem zmr {K:PySem.W.Frag}{H H':Hp}{a:Addr}{xs:List V}(h:SqL K H a xs) (s:Same H H'):SqL K H' a xs:=by
 rcases h with(h | ⟨o,h⟩) | h
 ·exact .inl (.inl (s _ _ h))
 ·exact .inl (.inr ⟨o,s _ _ h⟩)
 ·exact .inr h
theorem Near.extX {H H':Hp}{l d:Addr}{hs:LI}{ls:LP}{ad:Int→Addr}(n:Near H d hs ls ad) (y:Ext l H H') (n1:d≠l) (n2:∀ x∈hs,ad x≠l):Near H' d hs ls ad:=⟨y _ _ n.d n1,fun h m=>y _ _ (n.nb h m) (n2 h m)⟩
theorem WebAt.extX {a:Ad}{H H':Hp}{l p dx oh ol d:Addr}{hs:LI}{ls:LP}{ad:Int→Addr}(w:WebAt a H p hs ls dx oh ol d ad) (x:XsAt H l) (y:Ext l H H') (n1:oh≠l) (n2:ol≠l) (n4:∀ x∈hs,ad x≠l):WebAt a H' p hs ls dx oh ol d ad:=by
 obtain⟨ms,e',_⟩:=x
 refine⟨y _ _ w.p fun z=>?_,y _ _ w.oh n1,w.nr.extX y (fun z=>?_) n4,by obtain⟨zs,e1,e2⟩:=w.ol;exact⟨zs,y _ _ e1 n2,e2.extX ⟨ms,e',by assumption⟩ y⟩⟩
 ·have:=w.p;rw[z,e'] at this;cases this
 ·have:=w.nr.d;rw[z,e'] at this;cases this
theorem Gd.pa {hs:LI}{ls:LP}{pf:Int→Option Int}{pa:Int→LI}{us:LI}{bs:LP}(D:Gd hs ls pf pa us bs){x:Int}(hx:x∈us):paO pf x=pa x:=wo (D.U.en hx)
theorem za7 {pa pb:Int→LI}{x:Int}(h:pa x=pb x):ldr pa x=ldr pb x:=by unfold ldr;rw[h]
theorem Gd.gg {hs:LI}{ls:LP}{pf:Int→Option Int}{pa:Int→LI}{us:LI}{bs:LP}(D:Gd hs ls pf pa us bs) (wl:Ls hs ls):GG us ls pf bs:=by
 have el:∀ {x},x∈us→ldr (paO pf) x=ldr pa x:=fun {x} hx=>za7 (D.pa hx)
 have bu:∀ {b},b∈bs→b.1∈us∧b.2∈us:=fun {b} hb=>⟨(D.m _).mpr (D.B.ok b hb).1,(D.m _).mpr (D.B.ok b hb).2.1⟩
 refine⟨⟨D.ad,fun x hx=>⟨_,D.U.en hx⟩,fun b hb=>⟨Int.le_of_lt (D.B.ok b hb).2.2,?_⟩,D.B.nd⟩,fun p hp hne=>?_⟩
 ·rw[el (bu hb).1,el (bu hb).2]
  exact D.df b hb
 ·have hpu:p.1∈us∧p.2∈us:=⟨(D.m _).mpr (wl.ok p hp).1,(D.m _).mpr (wl.ok p hp).2.1⟩
  rw[el hpu.1,el hpu.2] at hne
  obtain⟨b,hb,e⟩:=D.cov p hp hne
  refine⟨b,hb,?_⟩
  unfold jk at e ⊢
  rw[el hpu.1,el hpu.2,el (bu hb).1,el (bu hb).2]
  exact e
theorem Gd.brl {hs:LI}{ls:LP}{pf:Int→Option Int}{pa:Int→LI}{us:LI}{bs:LP}(D:Gd hs ls pf pa us bs):BrL ls bs:=fun b hb=>mem_adB.mp (mem_dbl.mpr (.inl (D.inl b hb)))
theorem LnAt.drop {H:Hp}{rs:List V}{ls:LP}{n:Nat}(h:LnAt H rs ls):LnAt H (rs.drop n) (ls.drop n):=by
 refine⟨by rw[List.length_drop,List.length_drop,h.1],fun i r p a1 a2=>?_⟩
 rw[List.getElem?_drop] at a1 a2
 exact h.2 _ r p a1 a2
theorem Vg {hs:LI}{ls rest:LP}{l0:Int×Int}(wl:Ls hs ls) (e:ls=l0::rest):¬GG hs ls (fun _=>none) (ls.drop 1):=fun g=>by
 have hl:∀ x,ldr (paO (fun _=>none)) x=x:=fun x=>by
  unfold ldr
  rw[wo (.z rfl:En (fun _=>none) x [x])]
  rfl
 have h0:l0∈ls:=by rw[e];exact List.mem_cons_self
 have o0:=(wl.ok l0 h0).2.2
 obtain⟨b,hb,ej⟩:=g.cov l0 h0 (by rw[hl,hl];omega)
 have hbl:b∈ls:=List.mem_of_mem_drop hb
 have ob:=(wl.ok b hbl).2.2
 unfold jk at ej
 rw[hl,hl,hl,hl] at ej
 injection ej with e1 e2
 have eb:b=l0:=Prod.ext (by omega) (by omega)
 have nd:=wl.nd
 rw[e,List.nodup_cons] at nd
 rw[e] at hb
 have hb:b∈rest:=hb
 rw[eb] at hb
 exact nd.1 hb
def spLaw (K:PySem.W.Frag):Sp:=fun vs H Q _=>∃ (a:Addr) (ns:LI),vs=[.ref a]∧SqL K H a (ns.map V.int)∧ns.length≤63∧∀ H',Q (.bl true) H'
theorem sp_law_of {K:PySem.W.Frag}{H:Hp}{a:Addr}{ns:LI}(hl:ns.length≤63) (hO:zbq H) (hS:SqL K H a (ns.map V.int)):spLaw K [.ref a] H (fun v _=>v=.bl true) fun _ _ _=>False:=⟨a,ns,rfl,hS,hl,fun _=>rfl⟩
theorem ok_law (T:Txt w K mg a):FnOk P w K mg base CX0 26 a.f_qK a.d_qK ["_law_script"] (spLaw K):=by
 have c_qx:Callee P w K mg base "_law_cell_at" a.f_qx a.d_qx ["_law_script", "_law_k"] 1 (Xv K):=⟨Vd T,T.g_qx,T.F_qx.kp,T.b_qx⟩
 have c_qy:Callee P w K mg base "_law_draws" a.f_qy a.d_qy ["_law_cell", "_law_many"] 1 ZB:=⟨YU T,T.g_qy,T.F_qy.kp,T.b_qy⟩
 have c_qz:Callee P w K mg base "_law_take" a.f_qz a.d_qz ["_law_xs", "_law_size"] 1 wL:=⟨wq T,T.g_qz,T.F_qz.kp,T.b_qz⟩
 have c_qC:Callee P w K mg base "_law_web_drawn" a.f_qC a.d_qC ["_law_xs"] 3 zjX:=⟨zdv T,T.g_qC,T.F_qC.kp,T.b_qC⟩
 have c_qG:Callee P w K mg base "_law_drawn_way" a.f_qG a.d_qG ["_law_xs", "_law_hands_here", "_law_lines_here"] 3 zkc:=⟨zdN T,T.g_qG,T.F_qG.kp,T.b_qG⟩
 have c_qm:Callee P w K mg base "by_clusters" a.f_qm a.d_qm ["web", "reach"] 8 (zkg a):=⟨zdR T,T.g_qm,T.F_qm.kp,T.b_qm⟩
 have c_qJ:Callee P w K mg base "_law_right" a.f_qJ a.d_qJ ["_law_web", "_law_hands_here", "_law_lines_here", "_law_parents", "_law_bridges"] 13 (spRt a):=⟨zdy T,T.g_qJ,T.F_qJ.kp,T.b_qJ⟩
 have c_qI:Callee P w K mg base "_law_refused" a.f_qI a.d_qI ["_law_web", "_law_way"] 12 (zj2 a):=⟨zdB T,T.g_qI,T.F_qI.kp,T.b_qI⟩
 have m_Way:Maker P w K mg base "Way" a.c_Way a.f_qL a.d_qL ["self", "parents", "bridges"] 6 (YH a):=⟨ZQ T,T.g_Way,T.mk_Way,T.b_qL⟩
 have m_Web:Maker P w K mg base "Web" a.c_Web a.f_qR a.d_qR ["self", "hands", "lines"] 4 (Um a):=⟨UC T,T.g_Web,T.mk_Web,T.b_qR⟩
 refine T.F_qK.ok sc_qK (fun vs H Q E h=>?_) (fun cdv A outer s H vs Q E hr h=>?_)
 ·obtain⟨x,ns,rfl,_⟩:=h
  rfl
 ·obtain⟨sc,ns,rfl,hS,hlen,k⟩:=h
  have un:∀ n:Nat,n≤8→(A.deeper (PyProof.Rows.envOfC "law" (defScope YE) s.heap.objs.size a.f_qK cdv)).units+n+2<cLine:=fun n hn=>by
   have:=hr.units
   omega
  refine zM (w_pss_cons (zE PassesOwn.never rfl (zw (zq xk (zA (zI (zm c_qx hr.m (zd (zf 0) (zX ze za))) za)) (zV yC (zf 0) (w_po_some ze) (w_po_some ze)))) (zh (i:=1) sc_qK.nd rfl (Or.inl rfl))
    (w_pss_cons (w_ps_set (i:=2) sc_qK.nd rfl (Or.inl rfl) (zm c_qy hr.m (zd (zf 1) (zX ze za))))
    (w_pss_cons (ui (zm c_qC hr.m (zd (zf 2) za)) (zZ rfl (zp (zh (i:=3) sc_qK.nd rfl (Or.inl rfl)) (zp (zh (i:=4) sc_qK.nd rfl (Or.inl rfl)) zQ))))
    (w_pss_cons (w_ps_set (i:=5) sc_qK.nd rfl (Or.inl rfl) (vj m_Web hr.m (zd (zf 3) (zd (zf 4) za))))
    (w_pss_cons (ui (zm c_qG hr.m (zd (zf 2) (zd (zf 3) (zd (zf 4) za)))) (zZ rfl (zp (zh (i:=6) sc_qK.nd rfl (Or.inl rfl)) (zp (zh (i:=7) sc_qK.nd rfl (Or.inl rfl)) zQ))))
    (w_pss_cons (w_ps_set (i:=8) sc_qK.nd rfl (Or.inl rfl) (zm c_qm hr.m (zd (zf 5) (zI (zm c_qz hr.m (zd (zf 2) (zX ze za))) za))))
    (w_pss_cons (zu (zG (zy (zm c_qJ hr.m (zd (zf 5) (zd (zf 3) (zd (zf 4) (zd (zf 6) (zd (zf 7) za))))))))
     (zb (zg zF))
     zk)
    (w_pss_cons (zu (zG (zy (zm c_qJ hr.m (zd (zf 5) (zd (zf 3) (zd (zf 4) (zI (zK (zf 8)) (zI (zK (zf 8)) za))))))))
     (zb (zg zF))
     zk)
    (w_pss_cons (w_ps_set (i:=9) sc_qK.nd rfl (Or.inl rfl) (zT (wS rfl) (by rfl) T.n_dict wB (zn (yt rfl (N':=["_law_hand"]) (t:=1) (caps:=[]) ⟨rfl,rfl,rfl⟩ (zw (zf 3)) (fun _=>(zh (i:=0) (show(["_law_hand"]:List Str).Nodup by decide +kernel) rfl (Or.inl rfl))) (fun _=>yG) (fun _=>(zP (zd (zf 0) (zX yx za))))) za)))
    (zb (zu (we (yo (zl (vD uC uD) (zf 4) (zA za) (zC _)) (yd (zG (zy (zm c_qI hr.m (zd (zf 5) (zI (vj m_Way hr.m (zd (zf 9) (zn (zV yC (zf 4) (w_po_some ze) yf) za))) za))))))))
     (zb (zg zF))
     zk)))))))))))
   (zb (zg zF))) ?_
  refine⟨_,rfl,sc,ns,0,rfl,hS,by decide,fun c0=>?_⟩
  refine⟨(by show 1≤sizeLine;decide),fun p1 hp1=>?_⟩
  have s1:=Same.new (o:=HO.lst [V.int c0]) hp1
  refine⟨_,rfl,_,rfl,_,rfl,sc,_,rfl,zmr hS s1,fun p2 hp2=>?_⟩
  have s2:=Same.new (o:=HO.lst (xF (ns.map V.int) (some 1) (some 3))) hp2
  have hcl:=yn (ns.map V.int) (some 1) (some 3)
  rw[List.length_map] at hcl
  have hz:[V.int c0].length+(xF (ns.map V.int) (some 1) (some 3)).length≤sizeLine:=by
   have:1000≤sizeLine:=by decide
   show 1+_≤_
   omega
  refine⟨p1,p2,_,_,rfl,rfl,s2 _ _ upd_same,upd_same,hz,fun p3 hp3=>?_⟩
  refine⟨p3,rfl,⟨_,SqL.of upd_same⟩,?_⟩
  have hall:∀ (i:Nat) v,([V.int c0]++xF (ns.map V.int) (some 1) (some 3))[i]?=some v→∃ c,v=V.int c:=fun i v hi=>by
   cases i with
   |zero=>exact⟨c0,by cases hi;rfl⟩
   |succ i=>exact Xl (i:=i) (by simpa using hi)
  generalize hxs:[V.int c0]++xF (ns.map V.int) (some 1) (some 3)=xs at *
  refine for_list (K:=K) (a:=p3) (xs:=xs) (fun i σ H'=>∃ (o1 o2 o3 o4 o5 o6 o7 o8 o9:Option V),σ=[some (.ref sc),o1,o2,o3,o4,o5,o6,o7,o8,o9]∧H' p3=some (.lst xs)) ?_ ?_ ?_ ?_
  ·exact⟨none,none,none,none,none,none,none,none,none,rfl,upd_same⟩
  ·rintro i σ H' _ ⟨_,_,_,_,_,_,_,_,_,_,e⟩
   exact SqL.of e
  ·rintro i v σ H0 hi ⟨o1,o2,o3,o4,o5,o6,o7,o8,o9,rfl,h3⟩
   obtain⟨c,rfl⟩:=hall i v hi
   refine⟨_,rfl,c,140,rfl,by decide,fun l H1 hl0 x1 y1=>?_⟩
   have hpl:p3≠l:=fun z=>by rw[z,hl0] at h3;cases h3
   refine⟨_,rfl,l,rfl,x1,fun t h q hs rs ls H2 ht hh hq L wh wl x2 y2 nhl nql l28=>?_⟩
   have h32:=y2 _ _ (y1 _ _ h3) hpl
   refine⟨t,_,rfl,SqT.of ht,rfl,_,_,rfl,_,_,rfl,rfl,?_⟩
   refine⟨_,rfl,_,rfl,fun x wx nx ndx nex=>?_⟩
   have m1:Same H2 (upd (upd H2 wx (.own x)) x (.ins a.c_Web wx [])):=(Same.new ndx).updF nx
   refine⟨x,wx,h,q,rs,hs,ls,rfl,upd_same,m1 _ _ hh,m1 _ _ hq,L.same m1,wh,wl,by omega,fun oh ol wd ad H3 foh fol fd fad x3' Wb3=>⟨rfl,?_⟩⟩
   have s3:Same H2 H3:=fun b o e=>x3' b o (m1 b o e) (ne_of_none e nx)
   have x1m:=x2.same m1
   have noh:oh≠l:=x1m.ne foh
   have nol:ol≠l:=x1m.ne fol
   have nad:∀ z∈hs,ad z≠l:=fun z hz=>x1m.ne (fad z hz)
   have x3:=x2.same s3
   have hh3:=s3 _ _ hh
   have hq3:=s3 _ _ hq
   have L3:=L.same s3
   have h33:=s3 _ _ h32
   clear m1 x3' x1m s3 hh hq L h32 x2 y2 x1 y1 ht
   refine⟨_,rfl,_,rfl,_,rfl,l,h,q,rs,hs,ls,rfl,x3,hh3,nhl,hq3,nql,L3,wh,wl,fun t4 d lb us pf pa bs rb H4 ht4 hd hlb Lb nd D x4 y4 nbl=>?_⟩
   refine⟨t4,_,rfl,SqT.of ht4,rfl,_,_,rfl,_,_,rfl,rfl,?_⟩
   refine⟨_,rfl,_,rfl,l,4,rfl,x4,by decide,fun rr H5 r0 r1 x5 y5=>?_⟩
   have y35:=y4.trans y5
   have ndl:d≠l:=fun z=>by obtain⟨ms,e',_⟩:=x4;rw[z,e'] at hd;cases hd
   have WP5:WbP a H5 x hs ls:=⟨wh,wl,by omega,wx,oh,ol,wd,ad,Wb3.extX x3 y35 noh nol nad⟩
   have hh5:=y35 _ _ hh3 nhl
   have hq5:=y35 _ _ hq3 nql
   have L5:=L3.extX x3 y35
   have h35:=y35 _ _ h33 hpl
   have hd5:=y5 _ _ hd ndl
   have hlb5:=y5 _ _ hlb nbl
   have Lb5:=Lb.extX x4 y5
   clear Wb3 y35 y4 y5 hh3 hq3 L3 h33 x3 x4 x5 hd hlb Lb ht4
   refine⟨x,hs,ls,rr,rfl,WP5,fun y dx dp ob us2 pf2 bs2 H6 W6 hm2 C2 BL2 gg2 s6=>?_⟩
   refine⟨_,rfl,_,rfl,_,rfl,_,rfl,_,rfl,x,h,q,d,lb,rs,rb,hs,us,ls,bs,pf,rfl,WP5.same s6,s6 _ _ hh5,s6 _ _ hq5,L5.same s6,s6 _ _ hd5,nd,D.m,D.U.cl,s6 _ _ hlb5,Lb5.same s6,D.brl,D.gg wl,fun H7 s7=>⟨_,rfl,iteN rfl ?_⟩⟩
   have s57:=s6.trans s7
   have Y:=W6.same s7
   refine⟨_,rfl,_,rfl,_,rfl,_,rfl,y,_,dx,_,_,_,_,_,_,rfl,Y.p,rfl,T.cl_Way,T.mt_qN,UK (P:=P) (w:=w) T,hr.m,T.b_qN,y,dx,dp,ob,pf2,us2,bs2,rfl,Y,fun d8 H8 hd8 hd88 s8=>?_⟩
   have Y8:=Y.same s8
   refine⟨_,rfl,y,_,dx,_,_,_,_,_,_,rfl,Y8.p,rfl,T.cl_Way,T.mt_qO,ok_ab (P:=P) (w:=w) T,hr.m,T.b_qO,y,dx,dp,ob,pf2,us2,bs2,rfl,Y8,fun l9 rs9 H9 hl9 hl99 L9 s9=>?_⟩
   have s59:=s57.trans (s8.trans s9)
   refine⟨x,h,q,d8,l9,rs,rs9,hs,us2,ls,bs2,pf2,rfl,WP5.same s59,s59 _ _ hh5,s59 _ _ hq5,L5.same s59,s9 _ _ hd88,Y.nd,hm2,C2,hl99,L9,BL2,gg2,fun H10 s10=>⟨_,rfl,iteN rfl ?_⟩⟩
   have s510:=s59.trans s10
   have hh10:=s510 _ _ hh5
   have ndh:=vd wh
   refine⟨_,rfl,h,rfl,⟨_,SqL.of hh10⟩,fun D1 hD1 _=>?_⟩
   have l12:=wh.l12
   refine yh (K:=K) (a:=h) (xs:=hs.map V.int) (fun i zs τ G=>∃ (o:Option V) (qs:List Addr),τ=[o]∧zs=qs.map V.ref∧qs.length=i∧(∀ (j:Nat) (p:Addr) (z:Int),qs[j]?=some p→hs[j]?=some z→G p=some (.tup [.int z,.non]))∧G D1=some (.lst zs)∧Same H10 G) ?_ ?_ ?_ ?_
   ·exact⟨none,[],rfl,rfl,rfl,(fun j p z h=>by simp at h),upd_same,Same.new hD1⟩
   ·rintro i zs τ G ⟨o,qs,_,_,_,_,_,sm⟩
    exact SqL.of (sm _ _ hh10)
   ·rintro i v zs τ G hi ⟨o,qs,rfl,rfl,lq,hqs,hDG,sm⟩
    rw[List.getElem?_map] at hi
    obtain⟨z,hz,rfl⟩:=Option.map_eq_some_iff.mp hi
    have hil:=(List.getElem?_eq_some_iff.mp hz).1
    refine Yc ?_
    refine⟨_,rfl,(by show 2≤sizeLine;decide),fun pt hpt=>?_⟩
    have n1:=Same.new (o:=HO.tup [V.int z,V.non]) hpt
    have e1:=upd_same (H:=G) (a:=pt) (o:=HO.tup [V.int z,V.non])
    generalize upd G pt (HO.tup [V.int z,V.non])=G2 at *
    have hDG2:=n1 _ _ hDG
    have tne:∀ {b:Addr}{xs:List V},G2 b=some (.tup xs)→b≠D1:=fun {b xs} e zz=>by rw[zz,hDG2] at e;cases e
    refine⟨hDG2,by rw[List.length_map,lq];exact zj (by omega),_,qs++[pt],rfl,by simp,by simp[lq],fun j p z' hj hz'=>?_,upd_same,Same.updF (sm.trans n1) hD1⟩
    by_cases c:j<i
    ·rw[List.getElem?_append_left (by omega)] at hj
     have h1:=n1 _ _ (hqs j p z' hj hz')
     rw[upd_ne (tne h1)]
     exact h1
    ·rw[List.getElem?_append_right (by omega)] at hj
     have:j=i:=by
      have:=(List.getElem?_eq_some_iff.mp hj).1
      simp at this
      omega
     subst this
     rw[lq,Nat.sub_self] at hj
     cases hj
     rw[hz] at hz'
     cases hz'
     rw[upd_ne (tne e1)]
     exact e1
   ·rintro zs τ G ⟨o,qs,rfl,rfl,lq,hqs,hDG,sm⟩
    rw[List.length_map] at lq
    refine⟨D1,qs,tabV (fun x=>opV ((fun _=>none:Int→Option Int) x)) hs,rfl,hDG,by rw[tabV_len];exact lq,by rw[tabV_len];omega,fun j p kv h1 h2=>?_,fun dn hdn=>?_⟩
    ·unfold tabV at h2
     rw[List.getElem?_map] at h2
     obtain⟨z,h3,h4⟩:=Option.map_eq_some_iff.mp h2
     subst h4
     exact hqs j p z h1 h3
    rw[w8 (by rw[tabV_keys];exact Z7 ndh)]
    have n11:=Same.new (o:=HO.dK (tabV (fun x=>opV ((fun _=>none:Int→Option Int) x)) hs)) hdn
    have hn11:=upd_same (H:=G) (a:=dn) (o:=HO.dK (tabV (fun x=>opV ((fun _=>none:Int→Option Int) x)) hs))
    generalize upd G dn (HO.dK (tabV (fun x=>opV ((fun _=>none:Int→Option Int) x)) hs))=H11 at *
    have s511:=s510.trans (sm.trans n11)
    have fin:∀ {G':Hp},Same H11 G'→∃ (o1 o2 o3 o4 o5 o6 o7 o8 o9:Option V),([some (.ref sc),some (.int c),some (.ref l),some (.ref h),some (.ref q),some (.ref x),some (.ref d),some (.ref lb),some (.ref y),some (.ref dn)]:St)=[some (.ref sc),o1,o2,o3,o4,o5,o6,o7,o8,o9]∧G' p3=some (.lst xs):=fun {G'} sg=>⟨_,_,_,_,_,_,_,_,_,rfl,sg _ _ (s511 _ _ h35)⟩
    refine⟨_,rfl,(by show 0≤sizeLine;decide),fun pe hpe=>?_⟩
    have n12:=Same.new (o:=HO.lst []) hpe
    have hq12:=n12 _ _ (s511 _ _ hq5)
    have L12:=(L5.same s511).same n12
    refine neZ (SqL.of hq12) (SqL.of upd_same) (un 0 (by omega)) ⟨_,rfl,?_⟩
    have hn12:=n12 _ _ hn11
    generalize upd H11 pe (HO.lst [])=H12 at *
    cases hrs:rs with
    |nil=>exact iteN rfl (iteN rfl (fin n12))
    |cons r0 rt =>
    refine xH ?_
    have lL:=L12.1
    obtain⟨l0,lr0,els⟩:∃ l0 lr0,ls=l0::lr0:=by
     cases hls:ls with
     |nil=>rw[hrs,hls] at lL;simp at lL
     |cons l0 lr0=>exact⟨l0,lr0,rfl⟩
    refine⟨_,rfl,_,rfl,_,rfl,_,rfl,q,_,rfl,SqL.of hq12,fun sl hsl=>?_⟩
    rw[zbm (by rw[hrs];simp)]
    have n13:=Same.new (o:=HO.lst (rs.drop 1)) hsl
    have hs13:=upd_same (H:=H12) (a:=sl) (o:=HO.lst (rs.drop 1))
    have L13:=(L12.drop (n:=1)).same n13
    generalize upd H12 sl (HO.lst (rs.drop 1))=H13 at *
    refine fun y2 dx2 ny2 ndx2 ney2=>?_
    have m1:Same H13 (upd (upd H13 dx2 (.own y2)) y2 (.ins a.c_Way dx2 [])):=(Same.new ndx2).updF ny2
    refine⟨y2,dx2,dn,sl,(fun _=>none),hs,rs.drop 1,ls.drop 1,rfl,upd_same,m1 _ _ (n13 _ _ hn12),ndh,l12,m1 _ _ hs13,L13.same m1,by rw[List.length_drop];omega,fun dp2 ob2 H14 fdp2 fob2 x14' W14=>⟨rfl,?_⟩⟩
    have s14:Same H13 H14:=fun b o e=>x14' b o (m1 b o e) (ne_of_none e ny2)
    have s1114:=n12.trans (n13.trans s14)
    refine⟨x,y2,dx2,dp2,ob2,hs,hs,ls,ls.drop 1,(fun _=>none),rfl,WP5.same (s511.trans s1114),W14,(fun x=>Iff.rfl),(fun x _ y hy=>by cases hy),(fun b hb=>mem_adB.mp (mem_dbl.mpr (.inl (List.mem_of_mem_drop hb)))),Vg wl els,fun H15 s15=>⟨_,rfl,iteN rfl ?_⟩⟩
    exact fin (s1114.trans s15)
  ·rintro σ H0 ⟨o1,o2,o3,o4,o5,o6,o7,o8,o9,rfl,h3⟩
   exact k H0
end
end K04
noncomputable section
def PySem.W.Fast.tw2004107867638182795:=0
def PySem.W.Fast.tw14633931826345236324:=0
def PySem.W.Fast.tw8856144728478018897:=0
def PySem.W.Fast.tw17062198468877432609:=0
def PySem.W.Fast.tw10598372733321371305:=0
def PySem.W.Fast.tw11616086253799572649:=0
def PySem.W.Fast.tw17758467707605542250:=0
def PySem.W.Fast.tw14338876466950056905:=0
def PySem.W.Fast.tw6496138341281078435:=0
def PySem.W.Fast.tw6216741656489410486:=0
def PySem.W.Fast.tw6123116592370679677:=0
def PySem.W.Fast.tw16627384631628985244:=0
def PySem.W.Fast.tw1688954305291010661:=0
def PySem.W.Fast.tw8697170791317315040:=0
def PySem.W.Fast.tw10579265108948214604:=0
def PySem.W.Fast.tw9532633636177338432:=0
def PySem.W.Fast.tw3299963512692046226:=0
def PySem.W.Fast.tw9316987155075272405:=0
def PySem.W.Fast.tw5518260327533038333:=0
def PySem.W.Fast.tw13793158388811680729:=0
def PySem.W.Fast.tw10330366778594210143:=0
def PySem.W.Fast.tw2679819212127310782:=0
def PySem.W.Fast.tw1689613642844212636:=0
def PySem.W.Fast.tw9031915412781655692:=0
def PySem.W.Fast.tw3858109914732617049:=0
namespace Hd
open PySem PySem.W PySem.Calls PyProof.Rows
abbrev pw:=PySem.Challenge.pw_beatless_k31_roads_told
variable (P:Params)
def tt {α:Type}(_:α):Bool:=true
def S (i:Nat):Stmt:=pw.main.body.getD i (.Pass ⟨0,0,0,0⟩)
def fd (n q:Str) (s:Stmt) (g:Addr) (cl:List (Str×Addr)) (d k c m:Value) (an:Option Addr) (cd ct:Value) (b:Addr):FuncData :=
 ⟨n,q,L2.defArgs s,.stmts (L2.defBody s),L2.defScope s,g,cl,d,k,c,m,an,cd,ct,b⟩
abbrev an:Option Value:=(Option.some (.ref 6))
def env:Env:={ scope:=pw.main.scope,locals:=mainNs,globals:=mainNs,cells:=[],code:=(.ref 13),frame:=some 14 }
abbrev bE:List Stmt:=behindTheImports pw
abbrev cE:Code:=.body bE env
abbrev qE:Pos:=(Pos.mk 0 0 0 0)
abbrev B:List Frame:=[topFrame qE]
def s0 (w:World) (os:OsState):Shared:=⟨boot_heap w.params,⟨[]⟩,boot_drawn,boot_toks,os⟩
def zs:List Str:=List.map Str.ofString ["/claim/cut.py", "<module>", "__main__", "__name__", "beatless.errors", "__doc__", "__package__", "__loader__", "__spec__", "__annotations__", "__builtins__", "__file__", "__cached__", "_wall", "BeatlessError", "NoWeb", "k", "__module__", "__qualname__", "__firstlineno__", "__static_attributes__", "__weakref__", "NoHand", "NoProgram", "beatless.ways", "NoWay", "is_whole", "copied", "value", "beatless.wholes", "Way", "are_parents", "come_to_leaders", "__init__", "parent_of", "all_parents", "all_bridges", "path_up", "leader", "depth_of", "depth", "children", "bridges_at", "self", "parents", "bridges", "Way.__init__", "hand", "each", "parent", "Way.parent_of", "Way.all_parents", "Way.all_bridges", "path", "above", "Way.path_up", "Way.leader", "Way.depth_of", "Way.depth", "Way.children", "Way.bridges_at", "own_bridges", "own_parents", "__dict__", "web", "way", "beatless.webs", "is_bridge", "are_bridges", "is_grounded", "first_joins", "lets", "refuse_unlet", "next_ring", "parents_in_cluster", "by_clusters", "road_within", "road_over", "bridges_by_leaders", "roads_for", "pairs_of", "roads", "MOST_HANDS", "LAST_HAND", "are_hands", "is_line", "bridge", "seen", "lines", "found", "one", "other", "leaders", "bridged", "left", "ring", "reach", "steps", "neighbour", "down", "beatless.roads", "pairs", "paper", "hands", "ahead", "line", "law_beatless_k31_roads_told", "are_lines", "near_by_hand", "Web", "_law_cell_at", "_law_draws", "near", "has_hand", "has_line", "neighbours", "groups", "group_of", "Web.__init__", "Web.hands", "Web.lines", "Web.has_hand", "Web.has_line", "Web.neighbours", "Web.groups", "Web.group_of", "own_hands", "own_lines", "_law_script", "_law_k", "_law_cell", "_law_many", "_law_found", "_law_rest", "_law_number", "_law_mixed", "_law_take", "_law_hands", "_law_lines", "_law_web_drawn", "_law_near", "_law_up", "_law_both", "_law_drawn_way", "_law_roads", "_law_refused", "_law_right", "law", "_law_xs", "_law_size", "_law_hands_here", "_law_way", "_law_j", "_law_near_here", "_law_draw", "_law_at", "_law_most", "_law_lines_here", "_law_parents", "_law_hand", "_law_one", "_law_other", "_law_bridges", "_law_up_here", "_law_down", "_law_two", "_law_far", "_law_web", "_law_word", "e", "_law_others"]
def s (n:Nat):Str:=zs.getD n ⟨#[]⟩
def k0:Value:=.type "tuple"
def k1:Value:=.type "code"
def k2:Value:=.type "function"
def k3:Value:=.type "frame"
def k4:Value:=.type "dict"
def k5:Value:=.builtin "__main__.__loader__#opaque"
def k6:Value:=.type "ValueError"
def k7:Value:=.type "builtin_function_or_method"
def k8:Value:=.builtin "type.__prepare__"
def k9:Value:=.type "type"
def k10:Value:=.type "Exception"
def k11:Value:=.type "BaseException"
def k12:Value:=.type "object"
def k13:Value:=.builtin "ValueError.__new__"
def k14:Value:=.type "getset_descriptor"
def k15:Value:=.builtin "ExceptionGroup.__weakref__"
def k16:Value:=.type "super"
def k17:Value:=.builtin "object.__init_subclass__"
def k18:Value:=.builtin "object.__new__"
def k19:Value:=.builtin "function.__dict__"
def k20:Value:=.builtin "function.__dict__#set"
instance (n:Nat):OfNat Value n:=⟨.ref n⟩
def iv (n:Int):Value:=.int n 0
def sv (n:Nat) (t:Tok):Value:=.str (s n) t
def en (P:Params) (x:Nat) (t:Tok) (v:Value):DictEntry:=⟨PyData.keyHash P (s x),sv x t,v⟩
def tO (l:Array Value):Obj:=Obj.mk k0 .none (Data.seq l 0) #[]
def vO (l:Array Value):Obj:=Obj.mk .none .none (Data.fields l) #[]
def cO (n q:Nat) (a b c:Tok) (l m:Int) (k:Int) (r1 r2 r3 r4 r5:Addr) (x:Int) (y:Tok):Obj:=Obj.mk k1 .none (Data.fields #[(sv n a),(sv q b),(.str (s 0) c),(.int l 0),(.int m 0),(.int 0 0),(.int 0 0),(.int k 0),(.ref r1),(.bool true),(.int 181 0),(.ref r2),.none,(.ref r3),(.ref r4),(.ref r5),(.int x 0),(.int l 0),(.str (s 0) y)]) #[]
def uO (n q:Nat) (z:Stmt) (m:Nat) (t:Tok) (r:Addr):Obj:=Obj.mk k2 .none (Data.func (fd (s n) (s q) z 3 [] .none .none .none (sv m t) .none (.ref r) .none 0)) #[]
def gO (n q:Nat) (z:Stmt):Obj:=Obj.mk .none .none (Data.func (fd (s n) (s q) z 0 [] .none .none .none .none .none .none .none 0)) #[]
def o0:=tO #[]
def o1:=vO #[]
def o2:=Obj.mk k1 .none (Data.fields #[(sv 1 182),(sv 1 183),(sv 0 184),(iv 1),(iv 0),(iv 0),(iv 0),(iv 0),11,(.bool false),(iv 181),12,.none,.none,.none,.none,(iv 185),(iv 1),(sv 0 186)]) #[]
def o3:=Obj.mk k3 .none Data.plain #[(some 13),(some 3),(some 3),.none,(some (sv 2 164)),.none,(some 0)]
abbrev N:=@BT.node
def t14:=N (boot_o_0 P) (N (boot_o_1 P) (N (boot_o_3 P) (N (boot_o_7 P) .nil .nil) (N o0 .nil .nil)) (N (boot_o_5 P) (N (boot_o_9 P) .nil .nil) (N o2 .nil .nil))) (N (boot_o_2 P) (N (boot_o_4 P) (N (boot_o_8 P) .nil .nil) (N o1 .nil .nil)) (N (boot_o_6 P) (N (boot_o_10 P) .nil .nil) (N o3 .nil .nil)))
def sa (w:World) (os:OsState):SharedT:=⟨(t14 w.params),15,(Life.mk [] [] [] 0 [] [] false #[] [] 0 false false false 0 [2000,10,10] false 0 true [] [] 0 false),⟨[]⟩,(Drawn.mk 0 0 0 0),187,os⟩
def La (w:World) (os:OsState):Option (Shared×Thread):=topGo treeTable pw w 11 an 12 (s0 w os) (topStub pw)
def Ra (w:World) (os:OsState):Option (Shared×Thread):=some ((sa w os).abs,⟨denote treeTable cE,cE,(Pos.mk 0 0 0 0),B⟩)
theorem qa:tt (Hd.La,Hd.Ra)=true:=by k_qdec
theorem ra:∀ w,Fast.tw11367235000924431832 w=Fast.tw15912052731592885781 w:=fun w=>by kernel_rfl
theorem ea (w:World) (os:OsState):Hd.La w os=Hd.Ra w os:=((congrFun (congrFun Fast.te11367235000924431832 w) os).trans (congrFun (ra w) os)).trans (congrFun (congrFun Fast.te15912052731592885781 w) os).symm
def sb0 (w:World) (os:OsState):SharedT:=⟨(t14 w.params),15,(Life.mk [] [] [] 0 [] [] false #[] [] 0 false false false 0 [2000,10,10] false 0 true [] [] 0 false),⟨[]⟩,(Drawn.mk 0 0 0 0),187,os⟩
def Lb (w:World) (os:OsState):Option (Flow×SharedT×Code×Pos):=segRunT treeTable pw w 11 an 1 1 (sa w os) (blockOf bE env cE (Pos.mk 0 0 0 0) B)
def Rb (w:World) (os:OsState):Option (Flow×SharedT×Code×Pos):=some (.next,sb0 w os,cE,(Pos.mk 0 0 0 0))
theorem qb:tt (Hd.Lb,Hd.Rb)=true:=by k_qdec
theorem rb:∀ w,Fast.tw16430817790641568776 w=Hd.Rb w:=fun w=>by kernel_rfl
theorem eb (w:World) (os:OsState):Hd.Lb w os=Hd.Rb w os:=(congrFun (congrFun Fast.te16430817790641568776 w) os).trans (congrFun (rb w) os)
def zjW:List Stmt:=[S 0,S 1,S 2,S 3]
def o4:=Obj.mk k4 .none (Data.dict #[en P 3 165 (sv 4 194),en P 5 166 .none,en P 6 167 .none,en P 7 168 k5,en P 8 169 .none,en P 9 170 6,en P 10 171 4,en P 11 173 (sv 0 172),en P 12 174 .none,en P 13 193 21,en P 14 213 31,en P 15 229 44] 12) #[]
def o5:=vO #[(iv 1),(iv 0),20,(iv 5),(iv 0),27,(iv 7),(iv 0),40]
def o6:=tO #[]
def o7:=vO #[]
def o8:=tO #[(sv 16 190)]
def o9:=tO #[]
def o10:=gO 13 13 (S 0)
def o11:=cO 13 13 187 188 189 1 1 3 15 16 17 18 19 191 192
def o12:=uO 13 13 (S 0) 2 164 20
def o13:=tO #[k6]
def o14:=Obj.mk k7 .none (Data.fields #[k8,k9]) #[]
def o15:=Obj.mk k4 .none (Data.dict #[en P 17 203 (sv 4 194),en P 18 205 (sv 14 204),en P 19 207 (.int 5 206),en P 20 208 29] 4) #[]
def o16:=tO #[]
def o17:=vO #[]
def o18:=Obj.mk k1 .none (Data.fields #[(sv 14 198),(sv 14 199),(sv 0 200),(iv 5),(iv 0),(iv 0),(iv 0),(iv 0),25,(.bool false),(iv 181),26,.none,.none,.none,.none,(iv 201),(iv 5),(sv 0 202)]) #[]
def o19:=Obj.mk k3 .none Data.plain #[(some 27),(some 3),(some 24),.none,(some (sv 4 194)),.none,(some 0)]
def o20:=tO #[]
def o21:=Obj.mk k4 .none (Data.dict #[en P 17 203 (sv 4 194),en P 19 207 (.int 5 206),en P 20 208 29,en P 21 210 32,en P 5 211 .none] 3) #[]
def o22:=Obj.mk k9 .none (Data.cls (ClassData.mk (s 14) [k6] [31,k6,k10,k11,k12] 30 (s 14) true [] [44] false .none false)) #[(some 22),.none,(some (sv 14 196)),(some (sv 14 204)),(some k13),(some (.bool true))]
def o23:=Obj.mk k14 .none (Data.fields #[(sv 21 209),31,k15,.none]) #[]
def o24:=Obj.mk k16 .none (Data.fields #[31,31,31]) #[]
def o25:=Obj.mk k7 .none (Data.fields #[k17,31]) #[]
def o26:=tO #[31]
def o27:=Obj.mk k7 .none (Data.fields #[k8,k9]) #[]
def o28:=Obj.mk k4 .none (Data.dict #[en P 17 221 (sv 4 194),en P 18 223 (sv 15 222),en P 19 225 (.int 7 224),en P 20 226 42] 4) #[]
def o29:=tO #[]
def o30:=vO #[]
def o31:=Obj.mk k1 .none (Data.fields #[(sv 15 216),(sv 15 217),(sv 0 218),(iv 7),(iv 0),(iv 0),(iv 0),(iv 0),38,(.bool false),(iv 181),39,.none,.none,.none,.none,(iv 219),(iv 7),(sv 0 220)]) #[]
def o32:=Obj.mk k3 .none Data.plain #[(some 40),(some 3),(some 37),.none,(some (sv 4 194)),.none,(some 0)]
def o33:=tO #[]
def o34:=Obj.mk k4 .none (Data.dict #[en P 17 221 (sv 4 194),en P 19 225 (.int 7 224),en P 20 226 42,en P 5 227 .none] 2) #[]
def o35:=Obj.mk k9 .none (Data.cls (ClassData.mk (s 15) [31] [44,31,k6,k10,k11,k12] 43 (s 15) true [] [] false .none false)) #[(some 35),.none,(some (sv 15 214)),(some (sv 15 222)),(some k13),(some (.bool true))]
def o36:=Obj.mk k16 .none (Data.fields #[44,44,44]) #[]
def o37:=Obj.mk k7 .none (Data.fields #[k17,44]) #[]
def t17:=N o30 .nil .nil
def t22:=N (o34 P) .nil .nil
def t28:=N o32 .nil .nil
def t33:=N o36 .nil .nil
def t40:=N o31 .nil .nil
def t45:=N o35 .nil .nil
def t51:=N o33 .nil .nil
def t56:=N o37 .nil .nil
def t60:=N (boot_o_2 P) (N (boot_o_4 P) (N (boot_o_8 P) (N o7 (N o23 .nil .nil) .nil) (N (o15 P) t40 .nil)) (N o5 (N o11 (N o27 .nil .nil) .nil) (N o19 t45 .nil))) (N (boot_o_6 P) (N (boot_o_10 P) (N o9 (N o25 .nil .nil) .nil) (N o17 t51 .nil)) (N o3 (N o13 (N o29 .nil .nil) .nil) (N (o21 P) t56 .nil)))
def t61:=N (boot_o_0 P) (N (boot_o_1 P) (N (o4 P) (N (boot_o_7 P) (N o6 (N o22 .nil .nil) .nil) (N o14 t17 .nil)) (N o0 (N o10 (N o26 .nil .nil) .nil) (N o18 (t22 P) .nil))) (N (boot_o_5 P) (N (boot_o_9 P) (N o8 (N o24 .nil .nil) .nil) (N o16 t28 .nil)) (N o2 (N o12 (N (o28 P) .nil .nil) .nil) (N o20 t33 .nil)))) (t60 P)
def sb1 (w:World) (os:OsState):SharedT:=⟨(t61 w.params),47,(Life.mk [] [] [] 0 [] [] false #[] [] 0 false false false 0 [2000,10,10] false 0 true [] [] 0 false),⟨[]⟩,(Drawn.mk 0 0 0 0),230,os⟩
def L0 (w:World) (os:OsState):Option (Flow×SharedT×Code×Pos):=segRunT treeTable pw w 11 an 1 438 (sb0 w os) (piecesOf zjW env cE (Pos.mk 0 0 0 0) B)
def R0 (w:World) (os:OsState):Option (Flow×SharedT×Code×Pos):=some (.next,sb1 w os,cE,(Pos.mk 7 0 8 8))
theorem q0:tt (Hd.L0,Hd.R0)=true:=by k_qdec
theorem r0:∀ w,Fast.tw4453942571644881324 w=Hd.R0 w:=fun w=>by kernel_rfl
theorem e0 (w:World) (os:OsState):Hd.L0 w os=Hd.R0 w os:=(congrFun (congrFun Fast.te4453942571644881324 w) os).trans (congrFun (r0 w) os)
def zjV:List Stmt:=[S 4,S 5]
def o38:=Obj.mk k4 .none (Data.dict #[en P 3 165 (sv 4 194),en P 5 166 .none,en P 6 167 .none,en P 7 168 k5,en P 8 169 .none,en P 9 170 6,en P 10 171 4,en P 11 173 (sv 0 172),en P 12 174 .none,en P 13 193 21,en P 14 213 31,en P 15 229 44,en P 22 245 56,en P 23 261 68] 14) #[]
def o39:=vO #[(iv 1),(iv 0),20,(iv 5),(iv 0),27,(iv 7),(iv 0),40,(iv 9),(iv 0),52,(iv 11),(iv 0),64]
def o40:=Obj.mk k9 .none (Data.cls (ClassData.mk (s 14) [k6] [31,k6,k10,k11,k12] 30 (s 14) true [] [44,56,68] false .none false)) #[(some 22),.none,(some (sv 14 196)),(some (sv 14 204)),(some k13),(some (.bool true))]
def o41:=tO #[31]
def o42:=Obj.mk k7 .none (Data.fields #[k8,k9]) #[]
def o43:=Obj.mk k4 .none (Data.dict #[en P 17 237 (sv 4 194),en P 18 239 (sv 22 238),en P 19 241 (.int 9 240),en P 20 242 54] 4) #[]
def o44:=tO #[]
def o45:=vO #[]
def o46:=Obj.mk k1 .none (Data.fields #[(sv 22 232),(sv 22 233),(sv 0 234),(iv 9),(iv 0),(iv 0),(iv 0),(iv 0),50,(.bool false),(iv 181),51,.none,.none,.none,.none,(iv 235),(iv 9),(sv 0 236)]) #[]
def o47:=Obj.mk k3 .none Data.plain #[(some 52),(some 3),(some 49),.none,(some (sv 4 194)),.none,(some 0)]
def o48:=tO #[]
def o49:=Obj.mk k4 .none (Data.dict #[en P 17 237 (sv 4 194),en P 19 241 (.int 9 240),en P 20 242 54,en P 5 243 .none] 2) #[]
def o50:=Obj.mk k9 .none (Data.cls (ClassData.mk (s 22) [31] [56,31,k6,k10,k11,k12] 55 (s 22) true [] [] false .none false)) #[(some 47),.none,(some (sv 22 230)),(some (sv 22 238)),(some k13),(some (.bool true))]
def o51:=Obj.mk k16 .none (Data.fields #[56,56,56]) #[]
def o52:=Obj.mk k7 .none (Data.fields #[k17,56]) #[]
def o53:=tO #[31]
def o54:=Obj.mk k7 .none (Data.fields #[k8,k9]) #[]
def o55:=Obj.mk k4 .none (Data.dict #[en P 17 253 (sv 4 194),en P 18 255 (sv 23 254),en P 19 257 (.int 11 256),en P 20 258 66] 4) #[]
def o56:=tO #[]
def o57:=vO #[]
def o58:=Obj.mk k1 .none (Data.fields #[(sv 23 248),(sv 23 249),(sv 0 250),(iv 11),(iv 0),(iv 0),(iv 0),(iv 0),62,(.bool false),(iv 181),63,.none,.none,.none,.none,(iv 251),(iv 11),(sv 0 252)]) #[]
def o59:=Obj.mk k3 .none Data.plain #[(some 64),(some 3),(some 61),.none,(some (sv 4 194)),.none,(some 0)]
def o60:=tO #[]
def o61:=Obj.mk k4 .none (Data.dict #[en P 17 253 (sv 4 194),en P 19 257 (.int 11 256),en P 20 258 66,en P 5 259 .none] 2) #[]
def o62:=Obj.mk k9 .none (Data.cls (ClassData.mk (s 23) [31] [68,31,k6,k10,k11,k12] 67 (s 23) true [] [] false .none false)) #[(some 59),.none,(some (sv 23 246)),(some (sv 23 254)),(some k13),(some (.bool true))]
def o63:=Obj.mk k16 .none (Data.fields #[68,68,68]) #[]
def o64:=Obj.mk k7 .none (Data.fields #[k17,68]) #[]
def t62:=N o57 .nil .nil
def t70:=N o26 (N (o61 P) .nil .nil) .nil
def t78:=N o24 (N o59 .nil .nil) .nil
def t85:=N (o28 P) (N o63 .nil .nil) .nil
def t92:=N (boot_o_1 P) (N (o38 P) (N (boot_o_7 P) (N o6 (N o40 t62 .nil) (N o41 .nil .nil)) (N o14 t17 (N (o49 P) .nil .nil))) (N o0 (N o10 (t70 P) (N o45 .nil .nil)) (N o18 (t22 P) (N o53 .nil .nil)))) (N (boot_o_5 P) (N (boot_o_9 P) (N o8 t78 (N (o43 P) .nil .nil)) (N o16 t28 (N o51 .nil .nil))) (N o2 (N o12 (t85 P) (N o47 .nil .nil)) (N o20 t33 (N (o55 P) .nil .nil))))
def t94:=N o23 (N o58 .nil .nil) .nil
def zjP:=N o27 (N o62 .nil .nil) .nil
def zjO:=N o25 (N o60 .nil .nil) .nil
def zjN:=N o29 (N o64 .nil .nil) .nil
def zmq:=N (boot_o_0 P) (t92 P) (N (boot_o_2 P) (N (boot_o_4 P) (N (boot_o_8 P) (N o7 t94 (N o42 .nil .nil)) (N (o15 P) t40 (N o50 .nil .nil))) (N o39 (N o11 zjP (N o46 .nil .nil)) (N o19 t45 (N o54 .nil .nil)))) (N (boot_o_6 P) (N (boot_o_10 P) (N o9 zjO (N o44 .nil .nil)) (N o17 t51 (N o52 .nil .nil))) (N o3 (N o13 zjN (N o48 .nil .nil)) (N (o21 P) t56 (N o56 .nil .nil)))))
def sb2 (w:World) (os:OsState):SharedT:=⟨(zmq w.params),71,(Life.mk [] [] [] 0 [] [] false #[] [] 0 false false false 0 [2000,10,10] false 0 true [] [] 0 false),⟨[]⟩,(Drawn.mk 0 0 0 0),262,os⟩
def L1 (w:World) (os:OsState):Option (Flow×SharedT×Code×Pos):=segRunT treeTable pw w 11 an 1 427 (sb1 w os) (piecesOf zjV env cE (Pos.mk 7 0 8 8) B)
def R1 (w:World) (os:OsState):Option (Flow×SharedT×Code×Pos):=some (.next,sb2 w os,cE,(Pos.mk 11 0 12 8))
theorem q1:tt (Hd.L1,Hd.R1)=true:=by k_qdec
theorem r1:∀ w,Fast.tw6387051279210280424 w=Hd.R1 w:=fun w=>by kernel_rfl
theorem e1 (w:World) (os:OsState):Hd.L1 w os=Hd.R1 w os:=(congrFun (congrFun Fast.te6387051279210280424 w) os).trans (congrFun (r1 w) os)
def zjU:List Stmt:=[S 6,S 7,S 8,S 9,S 10]
def o65:=Obj.mk k4 .none (Data.dict #[en P 3 165 (sv 24 287),en P 5 166 .none,en P 6 167 .none,en P 7 168 k5,en P 8 169 .none,en P 9 170 6,en P 10 171 4,en P 11 173 (sv 0 172),en P 12 174 .none,en P 13 193 21,en P 14 213 31,en P 15 229 44,en P 22 245 56,en P 23 261 68,en P 25 277 80,en P 26 286 89,en P 27 294 94] 17) #[]
def o66:=vO #[(iv 1),(iv 0),20,(iv 5),(iv 0),27,(iv 7),(iv 0),40,(iv 9),(iv 0),52,(iv 11),(iv 0),64,(iv 13),(iv 0),76,(iv 16),(iv 0),88,(iv 19),(iv 0),93]
def o67:=Obj.mk k9 .none (Data.cls (ClassData.mk (s 14) [k6] [31,k6,k10,k11,k12] 30 (s 14) true [] [44,56,68,80] false .none false)) #[(some 22),.none,(some (sv 14 196)),(some (sv 14 204)),(some k13),(some (.bool true))]
def o68:=tO #[31]
def o69:=Obj.mk k7 .none (Data.fields #[k8,k9]) #[]
def o70:=Obj.mk k4 .none (Data.dict #[en P 17 269 (sv 4 194),en P 18 271 (sv 25 270),en P 19 273 (.int 13 272),en P 20 274 78] 4) #[]
def o71:=tO #[]
def o72:=vO #[]
def o73:=Obj.mk k1 .none (Data.fields #[(sv 25 264),(sv 25 265),(sv 0 266),(iv 13),(iv 0),(iv 0),(iv 0),(iv 0),74,(.bool false),(iv 181),75,.none,.none,.none,.none,(iv 267),(iv 13),(sv 0 268)]) #[]
def o74:=Obj.mk k3 .none Data.plain #[(some 76),(some 3),(some 73),.none,(some (sv 4 194)),.none,(some 0)]
def o75:=tO #[]
def o76:=Obj.mk k4 .none (Data.dict #[en P 17 269 (sv 4 194),en P 19 273 (.int 13 272),en P 20 274 78,en P 5 275 .none] 2) #[]
def o77:=Obj.mk k9 .none (Data.cls (ClassData.mk (s 25) [31] [80,31,k6,k10,k11,k12] 79 (s 25) true [] [] false .none false)) #[(some 71),.none,(some (sv 25 262)),(some (sv 25 270)),(some k13),(some (.bool true))]
def o78:=Obj.mk k16 .none (Data.fields #[80,80,80]) #[]
def o79:=Obj.mk k7 .none (Data.fields #[k17,80]) #[]
def o80:=tO #[]
def o81:=vO #[]
def o82:=tO #[(sv 28 283)]
def o83:=tO #[]
def o84:=gO 26 26 (S 8)
def o85:=cO 26 26 280 281 282 16 1 3 83 84 85 86 87 284 285
def o86:=uO 26 26 (S 8) 29 278 88
def o87:=tO #[]
def o88:=vO #[]
def o89:=gO 27 27 (S 10)
def o90:=Obj.mk k1 .none (Data.fields #[(sv 27 289),(sv 27 290),(sv 0 291),(iv 19),(iv 1),(iv 0),(iv 0),(iv 3),90,(.bool true),(iv 181),91,.none,.none,.none,92,(iv 292),(iv 19),(sv 0 293)]) #[]
def o91:=uO 27 27 (S 10) 24 287 93
def zmp:=N (boot_o_5 P) (N (boot_o_9 P) (N o8 t78 (N (o43 P) (N o78 .nil .nil) .nil)) (N o16 (N o32 (N (o70 P) .nil .nil) .nil) (N o51 (N o86 .nil .nil) .nil))) (N o2 (N o12 (t85 P) (N o47 (N o82 .nil .nil) .nil)) (N o20 (N o36 (N o74 .nil .nil) .nil) (N (o55 P) (N o90 .nil .nil) .nil)))
def zmo:=N (boot_o_6 P) (N (boot_o_10 P) (N o9 zjO (N o44 (N o79 .nil .nil) .nil)) (N o17 (N o33 (N o71 .nil .nil) .nil) (N o52 (N o87 .nil .nil) .nil))) (N o3 (N o13 zjN (N o48 (N o83 .nil .nil) .nil)) (N (o21 P) (N o37 (N o75 .nil .nil) .nil) (N o56 (N o91 .nil .nil) .nil)))
def zmn:=N (boot_o_2 P) (N (boot_o_4 P) (N (boot_o_8 P) (N o7 t94 (N o42 (N o77 .nil .nil) .nil)) (N (o15 P) (N o31 (N o69 .nil .nil) .nil) (N o50 (N o85 .nil .nil) .nil))) (N o66 (N o11 zjP (N o46 (N o81 .nil .nil) .nil)) (N o19 (N o35 (N o73 .nil .nil) .nil) (N o54 (N o89 .nil .nil) .nil)))) (zmo P)
def zmm:=N (boot_o_0 P) (N (boot_o_1 P) (N (o65 P) (N (boot_o_7 P) (N o6 (N o67 t62 .nil) (N o41 (N (o76 P) .nil .nil) .nil)) (N o14 (N o30 (N o68 .nil .nil) .nil) (N (o49 P) (N o84 .nil .nil) .nil))) (N o0 (N o10 (t70 P) (N o45 (N o80 .nil .nil) .nil)) (N o18 (N (o34 P) (N o72 .nil .nil) .nil) (N o53 (N o88 .nil .nil) .nil)))) (zmp P)) (zmn P)
def sb3 (w:World) (os:OsState):SharedT:=⟨(zmm w.params),95,(Life.mk [] [] [] 0 [] [] false #[] [] 0 false false false 0 [2000,10,10] false 0 true [] [] 0 false),⟨[]⟩,(Drawn.mk 0 0 0 0),295,os⟩
def L2 (w:World) (os:OsState):Option (Flow×SharedT×Code×Pos):=segRunT treeTable pw w 11 an 1 287 (sb2 w os) (piecesOf zjU env cE (Pos.mk 11 0 12 8) B)
def R2 (w:World) (os:OsState):Option (Flow×SharedT×Code×Pos):=some (.next,sb3 w os,cE,(Pos.mk 19 0 26 16))
theorem q2:tt (Hd.L2,Hd.R2)=true:=by k_qdec
theorem r2:∀ w,Fast.tw9171306275460833034 w=Hd.R2 w:=fun w=>by kernel_rfl
theorem e2 (w:World) (os:OsState):Hd.L2 w os=Hd.R2 w os:=(congrFun (congrFun Fast.te9171306275460833034 w) os).trans (congrFun (r2 w) os)
def zjT:List Stmt:=[S 11,S 12,S 13]
def o92:=Obj.mk k4 .none (Data.dict #[en P 3 165 (sv 24 287),en P 5 166 .none,en P 6 167 .none,en P 7 168 k5,en P 8 169 .none,en P 9 170 6,en P 10 171 4,en P 11 173 (sv 0 172),en P 12 174 .none,en P 13 193 21,en P 14 213 31,en P 15 229 44,en P 22 245 56,en P 23 261 68,en P 25 277 80,en P 26 286 89,en P 27 294 94,en P 30 398 174,en P 31 408 185,en P 32 417 192] 20) #[]
def o93:=vO #[(iv 1),(iv 0),20,(iv 5),(iv 0),27,(iv 7),(iv 0),40,(iv 9),(iv 0),52,(iv 11),(iv 0),64,(iv 13),(iv 0),76,(iv 16),(iv 0),88,(iv 19),(iv 0),93,(iv 27),(iv 0),100,(iv 67),(iv 0),184,(iv 76),(iv 0),191]
def o94:=tO #[]
def o95:=Obj.mk k7 .none (Data.fields #[k8,k9]) #[]
def o96:=Obj.mk k4 .none (Data.dict #[en P 17 302 (sv 24 287),en P 18 304 (sv 30 303),en P 19 306 (.int 27 305),en P 33 315 108,en P 34 325 115,en P 35 332 122,en P 36 339 129,en P 37 349 136,en P 38 357 143,en P 39 365 150,en P 40 372 157,en P 41 380 164,en P 42 388 171,en P 20 391 172] 14) #[]
def o97:=tO #[]
def o98:=vO #[(iv 29),(iv 4),107,(iv 33),(iv 4),114,(iv 39),(iv 4),121,(iv 42),(iv 4),128,(iv 45),(iv 4),135,(iv 53),(iv 4),142,(iv 56),(iv 4),149,(iv 59),(iv 4),156,(iv 62),(iv 4),163,(iv 65),(iv 4),170]
def o99:=Obj.mk k1 .none (Data.fields #[(sv 30 297),(sv 30 298),(sv 0 299),(iv 27),(iv 0),(iv 0),(iv 0),(iv 0),98,(.bool false),(iv 181),99,.none,.none,.none,.none,(iv 300),(iv 27),(sv 0 301)]) #[]
def za1:=Obj.mk k3 .none Data.plain #[(some 100),(some 3),(some 97),.none,(some (sv 24 287)),.none,(some 0)]
def VR:=tO #[]
def za0:=vO #[]
def VQ:=tO #[(sv 43 310),(sv 44 311),(sv 45 312)]
def VP:=tO #[]
def zaZ:=gO 33 46 (L2.inClass (S 11) 0)
def VO:=cO 33 46 307 308 309 29 3 3 102 103 104 105 106 313 314
def VN:=uO 33 46 (L2.inClass (S 11) 0) 24 287 107
def VM:=tO #[]
def zaY:=vO #[]
def VL:=tO #[(sv 43 319),(sv 47 320),(sv 48 321),(sv 49 322)]
def VJ:=tO #[]
def zaX:=gO 34 50 (L2.inClass (S 11) 1)
def VI:=cO 34 50 316 317 318 33 2 3 109 110 111 112 113 323 324
def VH:=uO 34 50 (L2.inClass (S 11) 1) 24 287 114
def VG:=tO #[]
def zaW:=vO #[]
def VF:=tO #[(sv 43 329)]
def VE:=tO #[]
def zaV:=gO 35 51 (L2.inClass (S 11) 2)
def VD:=cO 35 51 326 327 328 39 1 3 116 117 118 119 120 330 331
def VC:=uO 35 51 (L2.inClass (S 11) 2) 24 287 121
def VB:=tO #[]
def zaU:=vO #[]
def VA:=tO #[(sv 43 336)]
def Vz:=tO #[]
def zcg:=gO 36 52 (L2.inClass (S 11) 3)
def zaT:=cO 36 52 333 334 335 42 1 3 123 124 125 126 127 337 338
def zaS:=uO 36 52 (L2.inClass (S 11) 3) 24 287 128
def zaR:=tO #[]
def zcf:=vO #[]
def zaQ:=tO #[(sv 43 343),(sv 47 344),(sv 53 345),(sv 54 346)]
def zaP:=tO #[]
def zce:=gO 37 55 (L2.inClass (S 11) 4)
def zaO:=cO 37 55 340 341 342 45 2 3 130 131 132 133 134 347 348
def zaN:=uO 37 55 (L2.inClass (S 11) 4) 24 287 135
def zaM:=tO #[]
def zcd:=vO #[]
def zaL:=tO #[(sv 43 353),(sv 47 354)]
def zaK:=tO #[]
def zcc:=gO 38 56 (L2.inClass (S 11) 5)
def zaJ:=cO 38 56 350 351 352 53 2 3 137 138 139 140 141 355 356
def zaI:=uO 38 56 (L2.inClass (S 11) 5) 24 287 142
def zaH:=tO #[]
def zcb:=vO #[]
def zaG:=tO #[(sv 43 361),(sv 47 362)]
def zaF:=tO #[]
def zca:=gO 39 57 (L2.inClass (S 11) 6)
def zaE:=cO 39 57 358 359 360 56 2 3 144 145 146 147 148 363 364
def zaD:=uO 39 57 (L2.inClass (S 11) 6) 24 287 149
def zaC:=tO #[]
def zb9:=vO #[]
def zaB:=tO #[(sv 43 369)]
def zaA:=tO #[]
def zb8:=gO 40 58 (L2.inClass (S 11) 7)
def zaz:=cO 40 58 366 367 368 59 1 3 151 152 153 154 155 370 371
def zay:=uO 40 58 (L2.inClass (S 11) 7) 24 287 156
def zax:=tO #[]
def zb7:=vO #[]
def zaw:=tO #[(sv 43 376),(sv 47 377)]
def zav:=tO #[]
def zb6:=gO 41 59 (L2.inClass (S 11) 8)
def zau:=cO 41 59 373 374 375 62 2 3 158 159 160 161 162 378 379
def zat:=uO 41 59 (L2.inClass (S 11) 8) 24 287 163
def zas:=tO #[]
def zb5:=vO #[]
def zar:=tO #[(sv 43 384),(sv 47 385)]
def zaq:=tO #[]
def zb4:=gO 42 60 (L2.inClass (S 11) 9)
def zap:=cO 42 60 381 382 383 65 2 3 165 166 167 168 169 386 387
def zao:=uO 42 60 (L2.inClass (S 11) 9) 24 287 170
def zan:=tO #[(sv 61 389),(sv 62 390)]
def zam:=Obj.mk k4 .none (Data.dict #[en P 17 302 (sv 24 287),en P 19 306 (.int 27 305),en P 33 315 108,en P 34 325 115,en P 35 332 122,en P 36 339 129,en P 37 349 136,en P 38 357 143,en P 39 365 150,en P 40 372 157,en P 41 380 164,en P 42 388 171,en P 20 391 172,en P 63 393 175,en P 21 395 176,en P 5 396 .none] 4) #[]
def zal:=Obj.mk k9 .none (Data.cls (ClassData.mk (s 30) [k12] [174,k12] 173 (s 30) true [] [] false .none false)) #[.none,.none,(some (sv 30 295)),(some (sv 30 303)),(some k18),(some (.bool true))]
def zak:=Obj.mk k14 .none (Data.fields #[(sv 63 392),174,k19,k20]) #[]
def zaj:=Obj.mk k14 .none (Data.fields #[(sv 21 394),174,k15,.none]) #[]
def zb3:=Obj.mk k16 .none (Data.fields #[174,174,174]) #[]
def zb2:=Obj.mk k7 .none (Data.fields #[k17,174]) #[]
def zai:=tO #[]
def zb1:=vO #[]
def zah:=tO #[(sv 64 402),(sv 44 403),(sv 47 404),(sv 49 405)]
def zag:=tO #[]
def zb0:=gO 31 31 (S 12)
def zaf:=cO 31 31 399 400 401 67 2 3 179 180 181 182 183 406 407
def zae:=uO 31 31 (S 12) 24 287 184
def zad:=tO #[]
def zbZ:=vO #[]
def zac:=tO #[(sv 64 412),(sv 65 413),(sv 47 414)]
def zab:=tO #[]
def zbY:=gO 32 32 (S 13)
def zaa:=cO 32 32 409 410 411 76 2 3 186 187 188 189 190 415 416
def U9:=uO 32 32 (S 13) 24 287 191
def zjM:=N zaa .nil .nil
def zjL:=N zb0 .nil .nil
def zjK:=N zbZ .nil .nil
def zml:=N o0 (N o10 (N o26 (N (o61 P) (N zcf .nil .nil) .nil) (N o98 (N zau .nil .nil) .nil)) (N o45 (N o80 (N zaF .nil .nil) .nil) (N VH (N zai .nil .nil) .nil))) (N o18 (N (o34 P) (N o72 (N zaL .nil .nil) .nil) (N VO (N zao .nil .nil) .nil)) (N o53 (N o88 (N zb8 .nil .nil) .nil) (N VB zjK .nil)))
def zjJ:=N zae .nil .nil
def zjI:=N zah .nil .nil
def zjH:=N zab .nil .nil
def zmk:=N o2 (N o12 (N (o28 P) (N o63 (N zaP .nil .nil) .nil) (N za1 (N zas .nil .nil) .nil)) (N o47 (N o82 (N zaE .nil .nil) .nil) (N zaW zjI .nil))) (N o20 (N o36 (N o74 (N zcc .nil .nil) .nil) (N VM (N (zam P) .nil .nil) .nil)) (N (o55 P) (N o90 (N zay .nil .nil) .nil) (N VA zjH .nil)))
def zmj:=N (boot_o_5 P) (N (boot_o_9 P) (N o8 (N o24 (N o59 (N zaS .nil .nil) .nil) (N (o96 P) (N zav .nil .nil) .nil)) (N (o43 P) (N o78 (N zcb .nil .nil) .nil) (N zaX (N zb3 .nil .nil) .nil))) (N o16 (N o32 (N (o70 P) (N zaM .nil .nil) .nil) (N VP (N zb4 .nil .nil) .nil)) (N o51 (N o86 (N zaB .nil .nil) .nil) (N VD zjJ .nil)))) (zmk P)
def zmi:=N (boot_o_1 P) (N (o92 P) (N (boot_o_7 P) (N o6 (N o67 (N o57 (N zcg .nil .nil) zjM) (N o94 (N zb7 .nil .nil) .nil)) (N o41 (N (o76 P) (N zaI .nil .nil) .nil) (N VL (N zak .nil .nil) .nil))) (N o14 (N o30 (N o68 (N zaO .nil .nil) .nil) (N za0 (N zar .nil .nil) .nil)) (N (o49 P) (N o84 (N zaC .nil .nil) .nil) (N VE zjL .nil)))) (zml P)) (zmj P)
def zjG:=N U9 .nil .nil
def zjF:=N zaf .nil .nil
def zjE:=N zb1 .nil .nil
def zjD:=N zac .nil .nil
def zmh:=N o93 (N o11 (N o27 (N o62 (N zaQ .nil .nil) .nil) (N o99 (N zat .nil .nil) .nil)) (N o46 (N o81 (N zca .nil .nil) .nil) (N VG zjE .nil))) (N o19 (N o35 (N o73 (N zaK .nil .nil) .nil) (N VN (N zan .nil .nil) .nil)) (N o54 (N o89 (N zaz .nil .nil) .nil) (N zaU zjD .nil)))
def zjC:=N zad .nil .nil
def zjB:=N zag .nil .nil
def zjA:=N zbY .nil .nil
def zmg:=N o3 (N o13 (N o29 (N o64 (N zce .nil .nil) .nil) (N VR (N zb5 .nil .nil) .nil)) (N o48 (N o83 (N zaD .nil .nil) .nil) (N VF zjB .nil))) (N (o21 P) (N o37 (N o75 (N zaJ .nil .nil) .nil) (N zaY (N zal .nil .nil) .nil)) (N o56 (N o91 (N zax .nil .nil) .nil) (N Vz zjA .nil)))
def zmf:=N (boot_o_6 P) (N (boot_o_10 P) (N o9 (N o25 (N o60 (N zaR .nil .nil) .nil) (N o97 (N zb6 .nil .nil) .nil)) (N o44 (N o79 (N zaG .nil .nil) .nil) (N VI (N zb2 .nil .nil) .nil))) (N o17 (N o33 (N o71 (N zcd .nil .nil) .nil) (N zaZ (N zap .nil .nil) .nil)) (N o52 (N o87 (N zaA .nil .nil) .nil) (N VC zjC .nil)))) (zmg P)
def zme:=N (boot_o_2 P) (N (boot_o_4 P) (N (boot_o_8 P) (N o7 (N o23 (N o58 (N zaT .nil .nil) zjG) (N o95 (N zaw .nil .nil) .nil)) (N o42 (N o77 (N zaH .nil .nil) .nil) (N VJ (N zaj .nil .nil) .nil))) (N (o15 P) (N o31 (N o69 (N zaN .nil .nil) .nil) (N VQ (N zaq .nil .nil) .nil)) (N o50 (N o85 (N zb9 .nil .nil) .nil) (N zaV zjF .nil)))) zmh) (zmf P)
def zmd:=N (boot_o_0 P) (zmi P) (zme P)
def sb4 (w:World) (os:OsState):SharedT:=⟨(zmd w.params),193,(Life.mk [] [] [] 0 [] [] false #[] [] 0 false false false 0 [2000,10,10] false 0 true [] [] 0 false),⟨[]⟩,(Drawn.mk 0 0 0 0),418,os⟩
def L3 (w:World) (os:OsState):Option (Flow×SharedT×Code×Pos):=segRunT treeTable pw w 11 an 1 577 (sb3 w os) (piecesOf zjT env cE (Pos.mk 19 0 26 16) B)
def R3 (w:World) (os:OsState):Option (Flow×SharedT×Code×Pos):=some (.next,sb4 w os,cE,(Pos.mk 76 0 80 15))
theorem q3:tt (Hd.L3,Hd.R3)=true:=by k_qdec
theorem r3:∀ w,Fast.tw6196771281854559479 w=Hd.R3 w:=fun w=>by kernel_rfl
theorem e3 (w:World) (os:OsState):Hd.L3 w os=Hd.R3 w os:=(congrFun (congrFun Fast.te6196771281854559479 w) os).trans (congrFun (r3 w) os)
def zjS:List Stmt:=[S 14,S 15,S 16,S 17,S 18,S 19,S 20,S 21,S 22,S 23,S 24,S 25,S 26,S 27,S 28,S 29,S 30,S 31,S 32,S 33,S 34]
def zmI:=Obj.mk k4 .none (Data.dict #[en P 3 165 (sv 66 568),en P 5 166 .none,en P 6 167 .none,en P 7 168 k5,en P 8 169 .none,en P 9 170 6,en P 10 171 4,en P 11 173 (sv 0 172),en P 12 174 .none,en P 13 193 21,en P 14 213 31,en P 15 229 44,en P 22 245 56,en P 23 261 68,en P 25 277 80,en P 26 286 89,en P 27 294 94,en P 30 398 174,en P 31 408 185,en P 32 417 192,en P 67 426 199,en P 68 437 206,en P 69 445 213,en P 70 457 220,en P 71 467 227,en P 72 475 234,en P 73 488 241,en P 74 501 248,en P 75 507 253,en P 76 519 260,en P 77 529 267,en P 78 539 274,en P 79 545 279,en P 80 555 286,en P 81 567 293,en P 82 571 (.int 12 570),en P 83 573 (.int 99 572),en P 84 582 300,en P 85 590 307] 39) #[]
def zmH:=vO #[(iv 1),(iv 0),20,(iv 5),(iv 0),27,(iv 7),(iv 0),40,(iv 9),(iv 0),52,(iv 11),(iv 0),64,(iv 13),(iv 0),76,(iv 16),(iv 0),88,(iv 19),(iv 0),93,(iv 27),(iv 0),100,(iv 67),(iv 0),184,(iv 76),(iv 0),191,(iv 81),(iv 0),198,(iv 87),(iv 0),205,(iv 96),(iv 0),212,(iv 100),(iv 0),219,(iv 107),(iv 0),226,(iv 115),(iv 0),233,(iv 118),(iv 0),240,(iv 125),(iv 0),247,(iv 135),(iv 0),252,(iv 144),(iv 0),259,(iv 147),(iv 0),266,(iv 149),(iv 0),273,(iv 155),(iv 0),278,(iv 160),(iv 0),285,(iv 166),(iv 0),292,(iv 176),(iv 0),299,(iv 185),(iv 0),306]
def U8:=tO #[]
def zbX:=vO #[]
def U7:=tO #[(sv 64 421),(sv 65 422),(sv 86 423)]
def U6:=tO #[]
def zbW:=gO 67 67 (S 14)
def U5:=cO 67 67 418 419 420 81 3 3 193 194 195 196 197 424 425
def U4:=uO 67 67 (S 14) 24 287 198
def U3:=tO #[]
def zbV:=vO #[]
def U2:=tO #[(sv 64 430),(sv 65 431),(sv 45 432),(sv 87 433),(sv 86 434)]
def U1:=tO #[]
def zbU:=gO 68 68 (S 15)
def U0:=cO 68 68 427 428 429 87 3 3 200 201 202 203 204 435 436
def UZ:=uO 68 68 (S 15) 24 287 205
def UY:=tO #[]
def zbT:=vO #[]
def UX:=tO #[(sv 64 441),(sv 65 442)]
def UW:=tO #[]
def zbS:=gO 69 69 (S 16)
def UV:=cO 69 69 438 439 440 96 2 3 207 208 209 210 211 443 444
def UU:=uO 69 69 (S 16) 24 287 212
def UT:=tO #[]
def zbR:=vO #[]
def US:=tO #[(sv 65 449),(sv 88 450),(sv 89 451),(sv 90 452),(sv 91 453),(sv 92 454)]
def UR:=tO #[]
def zbQ:=gO 70 70 (S 17)
def UQ:=cO 70 70 446 447 448 100 2 3 214 215 216 217 218 455 456
def UO:=uO 70 70 (S 17) 24 287 219
def UN:=tO #[]
def zbP:=vO #[]
def UM:=tO #[(sv 64 461),(sv 65 462),(sv 93 463),(sv 92 464)]
def zbO:=tO #[]
def zgw:=gO 71 71 (S 18)
def zbN:=cO 71 71 458 459 460 107 2 3 221 222 223 224 225 465 466
def zbM:=uO 71 71 (S 18) 24 287 226
def zbL:=tO #[]
def zgv:=vO #[]
def zbK:=tO #[(sv 64 471),(sv 65 472)]
def zbJ:=tO #[]
def zgu:=gO 72 72 (S 19)
def zbI:=cO 72 72 468 469 470 115 2 3 228 229 230 231 232 473 474
def zbH:=uO 72 72 (S 19) 24 287 233
def zbG:=tO #[]
def zgt:=vO #[]
def zbF:=tO #[(sv 64 479),(sv 94 480),(sv 44 481),(sv 95 482),(sv 89 483),(sv 47 484),(sv 91 485)]
def zbE:=tO #[]
def zgs:=gO 73 73 (S 20)
def zbD:=cO 73 73 476 477 478 118 4 3 235 236 237 238 239 486 487
def zbC:=uO 73 73 (S 20) 24 287 240
def zbB:=tO #[]
def zgr:=vO #[]
def zbA:=tO #[(sv 64 492),(sv 94 493),(sv 96 494),(sv 44 495),(sv 95 496),(sv 97 497),(sv 89 498)]
def zbz:=tO #[]
def zgq:=gO 74 74 (S 21)
def zby:=cO 74 74 489 490 491 125 3 3 242 243 244 245 246 499 500
def zbx:=uO 74 74 (S 21) 24 287 247
def zbw:=tO #[]
def zgp:=vO #[]
def zgo:=gO 75 75 (S 22)
def zbv:=Obj.mk k1 .none (Data.fields #[(sv 75 502),(sv 75 503),(sv 0 504),(iv 135),(iv 2),(iv 0),(iv 0),(iv 3),249,(.bool true),(iv 181),250,.none,.none,.none,251,(iv 505),(iv 135),(sv 0 506)]) #[]
def zbu:=uO 75 75 (S 22) 24 287 252
def zbt:=tO #[]
def zly:=vO #[]
def zgn:=tO #[(sv 65 513),(sv 47 514),(sv 98 515),(sv 99 516)]
def zgm:=tO #[]
def zlx:=gO 76 76 (S 24)
def zgl:=cO 76 76 510 511 512 144 3 3 254 255 256 257 258 517 518
def zgk:=uO 76 76 (S 24) 100 508 259
def zgj:=tO #[]
def zlw:=vO #[]
def zgi:=tO #[(sv 65 523),(sv 47 524),(sv 98 525),(sv 86 526)]
def zgh:=tO #[]
def zlv:=gO 77 77 (S 25)
def zgg:=cO 77 77 520 521 522 147 4 3 261 262 263 264 265 527 528
def zgf:=uO 77 77 (S 25) 100 508 266
def zge:=tO #[]
def zlu:=vO #[]
def zgd:=tO #[(sv 65 533),(sv 89 534),(sv 90 535),(sv 91 536)]
def zgc:=tO #[]
def zlt:=gO 78 78 (S 26)
def zgb:=cO 78 78 530 531 532 149 1 3 268 269 270 271 272 537 538
def zga:=uO 78 78 (S 26) 100 508 273
def zf9:=tO #[]
def zls:=vO #[]
def zlr:=gO 79 79 (S 27)
def zf8:=Obj.mk k1 .none (Data.fields #[(sv 79 540),(sv 79 541),(sv 0 542),(iv 155),(iv 4),(iv 0),(iv 0),(iv 3),275,(.bool true),(iv 181),276,.none,.none,.none,277,(iv 543),(iv 155),(sv 0 544)]) #[]
def zf7:=uO 79 79 (S 27) 100 508 278
def zf6:=tO #[]
def zlq:=vO #[]
def zf5:=tO #[(sv 64 549),(sv 101 550),(sv 90 551),(sv 91 552)]
def zf4:=tO #[]
def zlp:=gO 80 80 (S 28)
def zf3:=cO 80 80 546 547 548 160 1 3 280 281 282 283 284 553 554
def zf2:=uO 80 80 (S 28) 100 508 285
def zf1:=tO #[]
def zlo:=vO #[]
def zf0:=tO #[(sv 64 559),(sv 65 560),(sv 45 561),(sv 102 562),(sv 47 563),(sv 98 564)]
def zfZ:=tO #[]
def zln:=gO 81 81 (S 29)
def zfY:=cO 81 81 556 557 558 166 2 3 287 288 289 290 291 565 566
def zfX:=uO 81 81 (S 29) 100 508 292
def zfW:=tO #[]
def zlm:=vO #[]
def zfV:=tO #[(sv 103 577),(sv 104 578),(sv 47 579)]
def zfU:=tO #[]
def zll:=gO 84 84 (S 33)
def zfT:=cO 84 84 574 575 576 176 1 3 294 295 296 297 298 580 581
def zfS:=uO 84 84 (S 33) 66 568 299
def zfR:=tO #[]
def zlk:=vO #[]
def zfQ:=tO #[(sv 105 586),(sv 103 587)]
def zfP:=tO #[]
def zlj:=gO 85 85 (S 34)
def zfO:=cO 85 85 583 584 585 185 2 3 301 302 303 304 305 588 589
def zfN:=uO 85 85 (S 34) 66 568 306
def zjz:=N zly .nil .nil
def zjy:=N zf1 .nil .nil
def zjx:=N zb7 zjy .nil
def zjw:=N zgc .nil .nil
def zjv:=N zfQ .nil .nil
def zju:=N zak zjv .nil
def zjt:=N zgi .nil .nil
def zjs:=N zlm .nil .nil
def zjr:=N zar zjs .nil
def zjq:=N zf7 .nil .nil
def zjp:=N zaC zjq .nil
def zmc:=N o14 (N o30 (N o68 (N zaO zjt .nil) (N U4 .nil .nil)) (N za0 zjr (N zbJ .nil .nil))) (N (o49 P) (N o84 zjp (N zbR .nil .nil)) (N VE zjL (N zby .nil .nil)))
def zjo:=N zgl .nil .nil
def zjn:=N zln .nil .nil
def zjm:=N zau zjn .nil
def zjl:=N zf9 .nil .nil
def zjk:=N zfN .nil .nil
def zjj:=N zai zjk .nil
def zji:=N zgf .nil .nil
def zjh:=N zfT .nil .nil
def zjg:=N zao zjh .nil
def zjf:=N zf4 .nil .nil
def zje:=N zb8 zjf .nil
def zmb:=N o18 (N (o34 P) (N o72 (N zaL zji .nil) (N U1 .nil .nil)) (N VO zjg (N zbG .nil .nil))) (N o53 (N o88 zje (N UQ .nil .nil)) (N VB zjK (N zgo .nil .nil)))
def zma:=N o0 (N o10 (N o26 (N (o61 P) (N zcf zjo .nil) (N U7 .nil .nil)) (N o98 zjm (N zbM .nil .nil))) (N o45 (N o80 (N zaF zjl .nil) (N zbS .nil .nil)) (N VH zjj (N zgr .nil .nil)))) (zmb P)
def zjd:=N zgm .nil .nil
def zjc:=N zf0 .nil .nil
def zjb:=N zav zjc .nil
def zja:=N zgb .nil .nil
def zi9:=N zlj .nil .nil
def zi8:=N zb3 zi9 .nil
def zi7:=N zlv .nil .nil
def zi6:=N zfU .nil .nil
def zi5:=N zb4 zi6 .nil
def zi4:=N zlq .nil .nil
def zi3:=N zaB zi4 .nil
def zl9:=N o16 (N o32 (N (o70 P) (N zaM zi7 .nil) (N zbV .nil .nil)) (N VP zi5 (N zbI .nil .nil))) (N o51 (N o86 zi3 (N UR .nil .nil)) (N VD zjJ (N zbw .nil .nil)))
def zi2:=N zgj .nil .nil
def zi1:=N zfX .nil .nil
def zi0:=N zas zi1 .nil
def ziZ:=N zlr .nil .nil
def ziY:=N zlu .nil .nil
def ziX:=N zfR .nil .nil
def ziW:=N (zam P) ziX .nil
def ziV:=N zf3 .nil .nil
def ziU:=N zay ziV .nil
def zl8:=N o20 (N o36 (N o74 (N zcc ziY .nil) (N U0 .nil .nil)) (N VM (ziW P) (N zbF .nil .nil))) (N (o55 P) (N o90 ziU (N UN .nil .nil)) (N VA zjH (N zbu .nil .nil)))
def zl7:=N o2 (N o12 (N (o28 P) (N o63 (N zaP zi2 .nil) (N zbW .nil .nil)) (N za1 zi0 (N zgv .nil .nil))) (N o47 (N o82 (N zaE ziZ .nil) (N UU .nil .nil)) (N zaW zjI (N zbz .nil .nil)))) (zl8 P)
def zl6:=N (boot_o_5 P) (N (boot_o_9 P) (N o8 (N o24 (N o59 (N zaS zjd .nil) (N U8 .nil .nil)) (N (o96 P) zjb (N zgw .nil .nil))) (N (o43 P) (N o78 (N zcb zja .nil) (N UX .nil .nil)) (N zaX zi8 (N zbC .nil .nil)))) (zl9 P)) (zl7 P)
def ziT:=N zgn .nil .nil
def ziS:=N zlo .nil .nil
def ziR:=N zaw ziS .nil
def ziQ:=N zlt .nil .nil
def ziP:=N zfP .nil .nil
def ziO:=N zaj ziP .nil
def ziN:=N zgh .nil .nil
def ziM:=N zfV .nil .nil
def ziL:=N zaq ziM .nil
def ziK:=N zf6 .nil .nil
def ziJ:=N zb9 ziK .nil
def zl5:=N (o15 P) (N o31 (N o69 (N zaN ziN .nil) (N U3 .nil .nil)) (N VQ ziL (N zgu .nil .nil))) (N o50 (N o85 ziJ (N US .nil .nil)) (N zaV zjF (N zbx .nil .nil)))
def ziI:=N zgk .nil .nil
def ziH:=N zfY .nil .nil
def ziG:=N zat ziH .nil
def ziF:=N zls .nil .nil
def ziE:=N zge .nil .nil
def ziD:=N zfS .nil .nil
def ziC:=N zan ziD .nil
def ziB:=N zlp .nil .nil
def ziA:=N zaz ziB .nil
def zl4:=N o19 (N o35 (N o73 (N zaK ziE .nil) (N zbU .nil .nil)) (N VN ziC (N zgt .nil .nil))) (N o54 (N o89 ziA (N UO .nil .nil)) (N zaU zjD (N zbv .nil .nil)))
def zl3:=N zmH (N o11 (N o27 (N o62 (N zaQ ziI .nil) (N U6 .nil .nil)) (N o99 ziG (N zbL .nil .nil))) (N o46 (N o81 (N zca ziF .nil) (N UV .nil .nil)) (N VG zjE (N zbA .nil .nil)))) zl4
def ziz:=N zlx .nil .nil
def ziy:=N zfZ .nil .nil
def zix:=N zb6 ziy .nil
def ziw:=N zga .nil .nil
def ziv:=N zfO .nil .nil
def ziu:=N zb2 ziv .nil
def zit:=N zgg .nil .nil
def zis:=N zll .nil .nil
def zir:=N zap zis .nil
def ziq:=N zf5 .nil .nil
def zio:=N zaA ziq .nil
def zl2:=N o17 (N o33 (N o71 (N zcd zit .nil) (N U2 .nil .nil)) (N zaZ zir (N zbH .nil .nil))) (N o52 (N o87 zio (N zbQ .nil .nil)) (N VC zjC (N zgp .nil .nil)))
def zin:=N zlw .nil .nil
def zim:=N zfW .nil .nil
def zil:=N zb5 zim .nil
def zik:=N zf8 .nil .nil
def zij:=N zaD zik .nil
def zii:=N zgd .nil .nil
def zih:=N zlk .nil .nil
def zig:=N zal zih .nil
def zif:=N zf2 .nil .nil
def zie:=N zax zif .nil
def zl1:=N (o21 P) (N o37 (N o75 (N zaJ zii .nil) (N UZ .nil .nil)) (N zaY zig (N zbE .nil .nil))) (N o56 (N o91 zie (N zbP .nil .nil)) (N Vz zjA (N zbt .nil .nil)))
def zl0:=N o3 (N o13 (N o29 (N o64 (N zce zin .nil) (N U5 .nil .nil)) (N VR zil (N zbK .nil .nil))) (N o48 (N o83 zij (N UT .nil .nil)) (N VF zjB (N zgq .nil .nil)))) (zl1 P)
def zlZ:=N (boot_o_6 P) (N (boot_o_10 P) (N o9 (N o25 (N o60 (N zaR ziz .nil) (N zbX .nil .nil)) (N o97 zix (N zbN .nil .nil))) (N o44 (N o79 (N zaG ziw .nil) (N UW .nil .nil)) (N VI ziu (N zbB .nil .nil)))) zl2) (zl0 P)
def zlY:=N (boot_o_2 P) (N (boot_o_4 P) (N (boot_o_8 P) (N o7 (N o23 (N o58 (N zaT ziT .nil) zjG) (N o95 ziR (N zbO .nil .nil))) (N o42 (N o77 (N zaH ziQ .nil) (N zbT .nil .nil)) (N VJ ziO (N zbD .nil .nil)))) (zl5 P)) zl3) (zlZ P)
def zlX:=N (boot_o_0 P) (N (boot_o_1 P) (N (zmI P) (N (boot_o_7 P) (N o6 (N o67 (N o57 (N zcg zjz .nil) zjM) (N o94 zjx (N UM .nil .nil))) (N o41 (N (o76 P) (N zaI zjw .nil) (N UY .nil .nil)) (N VL zju (N zgs .nil .nil)))) (zmc P)) (zma P)) (zl6 P)) (zlY P)
def sb5 (w:World) (os:OsState):SharedT:=⟨(zlX w.params),308,(Life.mk [] [] [] 0 [] [] false #[] [] 0 false false false 0 [2000,10,10] false 0 true [] [] 0 false),⟨[]⟩,(Drawn.mk 0 0 0 0),591,os⟩
def L4 (w:World) (os:OsState):Option (Flow×SharedT×Code×Pos):=segRunT treeTable pw w 11 an 1 572 (sb4 w os) (piecesOf zjS env cE (Pos.mk 76 0 80 15) B)
def R4 (w:World) (os:OsState):Option (Flow×SharedT×Code×Pos):=some (.next,sb5 w os,cE,(Pos.mk 185 0 190 72))
theorem q4:tt (Hd.L4,Hd.R4)=true:=by k_qdec
theorem r4:∀ w,Fast.tw18063231807419426806 w=Hd.R4 w:=fun w=>by kernel_rfl
theorem e4 (w:World) (os:OsState):Hd.L4 w os=Hd.R4 w os:=(congrFun (congrFun Fast.te18063231807419426806 w) os).trans (congrFun (r4 w) os)
def zjR:List Stmt:=[S 35,S 36,S 37,S 38,S 39,S 40]
def zmG:=Obj.mk k4 .none (Data.dict #[en P 3 165 (sv 106 699),en P 5 166 .none,en P 6 167 .none,en P 7 168 k5,en P 8 169 .none,en P 9 170 6,en P 10 171 4,en P 11 173 (sv 0 172),en P 12 174 .none,en P 13 193 21,en P 14 213 31,en P 15 229 44,en P 22 245 56,en P 23 261 68,en P 25 277 80,en P 26 286 89,en P 27 294 94,en P 30 398 174,en P 31 408 185,en P 32 417 192,en P 67 426 199,en P 68 437 206,en P 69 445 213,en P 70 457 220,en P 71 467 227,en P 72 475 234,en P 73 488 241,en P 74 501 248,en P 75 507 253,en P 76 519 260,en P 77 529 267,en P 78 539 274,en P 79 545 279,en P 80 555 286,en P 81 567 293,en P 82 571 (.int 12 570),en P 83 573 (.int 99 572),en P 84 582 300,en P 85 590 307,en P 107 600 314,en P 108 612 321,en P 109 698 387,en P 110 708 398,en P 111 721 405] 44) #[]
def zmF:=vO #[(iv 1),(iv 0),20,(iv 5),(iv 0),27,(iv 7),(iv 0),40,(iv 9),(iv 0),52,(iv 11),(iv 0),64,(iv 13),(iv 0),76,(iv 16),(iv 0),88,(iv 19),(iv 0),93,(iv 27),(iv 0),100,(iv 67),(iv 0),184,(iv 76),(iv 0),191,(iv 81),(iv 0),198,(iv 87),(iv 0),205,(iv 96),(iv 0),212,(iv 100),(iv 0),219,(iv 107),(iv 0),226,(iv 115),(iv 0),233,(iv 118),(iv 0),240,(iv 125),(iv 0),247,(iv 135),(iv 0),252,(iv 144),(iv 0),259,(iv 147),(iv 0),266,(iv 149),(iv 0),273,(iv 155),(iv 0),278,(iv 160),(iv 0),285,(iv 166),(iv 0),292,(iv 176),(iv 0),299,(iv 185),(iv 0),306,(iv 191),(iv 0),313,(iv 200),(iv 0),320,(iv 208),(iv 0),327,(iv 242),(iv 0),397,(iv 246),(iv 0),404]
def zfM:=tO #[]
def zli:=vO #[]
def zfL:=tO #[(sv 88 594),(sv 103 595),(sv 87 596),(sv 105 597)]
def zfK:=tO #[]
def zlh:=gO 107 107 (S 35)
def zfJ:=cO 107 107 591 592 593 191 2 3 308 309 310 311 312 598 599
def zfI:=uO 107 107 (S 35) 66 568 313
def zfH:=tO #[]
def zlg:=vO #[]
def zfG:=tO #[(sv 103 604),(sv 88 605),(sv 112 606),(sv 47 607),(sv 90 608),(sv 91 609)]
def zfF:=tO #[]
def zlf:=gO 108 108 (S 36)
def zfE:=cO 108 108 601 602 603 200 2 3 315 316 317 318 319 610 611
def zfD:=uO 108 108 (S 36) 66 568 320
def zle:=tO #[]
def zld:=Obj.mk k7 .none (Data.fields #[k8,k9]) #[]
def zlc:=Obj.mk k4 .none (Data.dict #[en P 17 620 (sv 66 568),en P 18 622 (sv 109 621),en P 19 624 (.int 208 623),en P 33 633 335,en P 103 640 342,en P 88 647 349,en P 113 655 356,en P 114 664 363,en P 115 672 370,en P 116 679 377,en P 117 687 384,en P 20 691 385] 12) #[]
def zlb:=tO #[]
def zla:=vO #[(iv 210),(iv 4),334,(iv 219),(iv 4),341,(iv 222),(iv 4),348,(iv 225),(iv 4),355,(iv 228),(iv 4),362,(iv 231),(iv 4),369,(iv 236),(iv 4),376,(iv 239),(iv 4),383]
def zk9:=Obj.mk k1 .none (Data.fields #[(sv 109 615),(sv 109 616),(sv 0 617),(iv 208),(iv 0),(iv 0),(iv 0),(iv 0),325,(.bool false),(iv 181),326,.none,.none,.none,.none,(iv 618),(iv 208),(sv 0 619)]) #[]
def zk8:=Obj.mk k3 .none Data.plain #[(some 327),(some 3),(some 324),.none,(some (sv 66 568)),.none,(some 0)]
def zfC:=tO #[]
def zk7:=vO #[]
def zfB:=tO #[(sv 43 628),(sv 103 629),(sv 88 630)]
def zfA:=tO #[]
def zk6:=gO 33 118 (L2.inClass (S 37) 0)
def zfz:=cO 33 118 625 626 627 210 3 3 329 330 331 332 333 631 632
def zfy:=uO 33 118 (L2.inClass (S 37) 0) 66 568 334
def zfx:=tO #[]
def zk5:=vO #[]
def zfw:=tO #[(sv 43 637)]
def zfv:=tO #[]
def zk4:=gO 103 119 (L2.inClass (S 37) 1)
def zfu:=cO 103 119 634 635 636 219 1 3 336 337 338 339 340 638 639
def zft:=uO 103 119 (L2.inClass (S 37) 1) 66 568 341
def zfs:=tO #[]
def zk3:=vO #[]
def zfr:=tO #[(sv 43 644)]
def zfq:=tO #[]
def zk2:=gO 88 120 (L2.inClass (S 37) 2)
def zfp:=cO 88 120 641 642 643 222 1 3 343 344 345 346 347 645 646
def zfo:=uO 88 120 (L2.inClass (S 37) 2) 66 568 348
def zfn:=tO #[]
def zk1:=vO #[]
def zfm:=tO #[(sv 43 651),(sv 47 652)]
def zfl:=tO #[]
def zk0:=gO 113 121 (L2.inClass (S 37) 3)
def zfk:=cO 113 121 648 649 650 225 2 3 350 351 352 353 354 653 654
def zfj:=uO 113 121 (L2.inClass (S 37) 3) 66 568 355
def zfi:=tO #[]
def zkZ:=vO #[]
def zfh:=tO #[(sv 43 659),(sv 90 660),(sv 91 661)]
def zfg:=tO #[]
def zkY:=gO 114 122 (L2.inClass (S 37) 4)
def zff:=cO 114 122 656 657 658 228 3 3 357 358 359 360 361 662 663
def zfe:=uO 114 122 (L2.inClass (S 37) 4) 66 568 362
def zfd:=tO #[]
def zkX:=vO #[]
def zfc:=tO #[(sv 43 668),(sv 47 669)]
def zfb:=tO #[]
def zkW:=gO 115 123 (L2.inClass (S 37) 5)
def zfa:=cO 115 123 665 666 667 231 2 3 364 365 366 367 368 670 671
def ze9:=uO 115 123 (L2.inClass (S 37) 5) 66 568 369
def ze8:=tO #[]
def zkV:=vO #[]
def ze7:=tO #[(sv 43 676)]
def ze6:=tO #[]
def zkU:=gO 116 124 (L2.inClass (S 37) 6)
def ze5:=cO 116 124 673 674 675 236 1 3 371 372 373 374 375 677 678
def ze4:=uO 116 124 (L2.inClass (S 37) 6) 66 568 376
def ze3:=tO #[]
def zkT:=vO #[]
def ze2:=tO #[(sv 43 683),(sv 47 684)]
def ze1:=tO #[]
def zkS:=gO 117 125 (L2.inClass (S 37) 7)
def ze0:=cO 117 125 680 681 682 239 2 3 378 379 380 381 382 685 686
def zeZ:=uO 117 125 (L2.inClass (S 37) 7) 66 568 383
def zeY:=tO #[(sv 112 688),(sv 126 689),(sv 127 690)]
def zeX:=Obj.mk k4 .none (Data.dict #[en P 17 620 (sv 66 568),en P 19 624 (.int 208 623),en P 33 633 335,en P 103 640 342,en P 88 647 349,en P 113 655 356,en P 114 664 363,en P 115 672 370,en P 116 679 377,en P 117 687 384,en P 20 691 385,en P 63 693 388,en P 21 695 389,en P 5 696 .none] 4) #[]
def zeW:=Obj.mk k9 .none (Data.cls (ClassData.mk (s 109) [k12] [387,k12] 386 (s 109) true [] [] false .none false)) #[.none,.none,(some (sv 109 613)),(some (sv 109 621)),(some k18),(some (.bool true))]
def zeV:=Obj.mk k14 .none (Data.fields #[(sv 63 692),387,k19,k20]) #[]
def zeU:=Obj.mk k14 .none (Data.fields #[(sv 21 694),387,k15,.none]) #[]
def zkR:=Obj.mk k16 .none (Data.fields #[387,387,387]) #[]
def zkQ:=Obj.mk k7 .none (Data.fields #[k17,387]) #[]
def zeT:=tO #[]
def zkP:=vO #[]
def zeS:=tO #[(sv 128 704),(sv 129 705)]
def zeR:=tO #[]
def zkO:=gO 110 110 (S 39)
def zeQ:=cO 110 110 701 702 703 242 2 3 392 393 394 395 396 706 707
def zeP:=uO 110 110 (S 39) 106 699 397
def zeO:=tO #[]
def zkN:=vO #[]
def zeN:=tO #[(sv 130 712),(sv 131 713),(sv 132 714),(sv 133 715),(sv 134 716),(sv 129 717),(sv 135 718)]
def zeM:=tO #[]
def zkM:=gO 111 111 (S 40)
def zeL:=cO 111 111 709 710 711 246 2 3 399 400 401 402 403 719 720
def zeK:=uO 111 111 (S 40) 106 699 404
def zid:=N zcg zjz (N ze0 .nil .nil)
def zic:=N zlf .nil .nil
def zib:=N zk1 .nil .nil
def zia:=N zaI zjw (N zeO .nil .nil)
def zh9:=N zfy .nil .nil
def zh8:=N zgs (N zfb .nil .nil) .nil
def zh7:=N zaO zjt (N zkQ .nil .nil)
def zh6:=N zk9 .nil .nil
def zh5:=N zbJ (N zfh .nil .nil) .nil
def zh4:=N zfs .nil .nil
def zh3:=N zfK .nil .nil
def zh2:=N zby (N zkU .nil .nil) .nil
def zh1:=N zcf zjo (N zeW .nil .nil)
def zh0:=N zld .nil .nil
def zhZ:=N zbM (N zfk .nil .nil) .nil
def zhY:=N zaF zjl (N zkM .nil .nil)
def zhX:=N zfv .nil .nil
def zhW:=N zgr (N ze8 .nil .nil) .nil
def zhV:=N zaL zji (N zeR .nil .nil)
def zhU:=N zfB .nil .nil
def zhT:=N zbG (N zfe .nil .nil) .nil
def zhS:=N zk2 .nil .nil
def zhR:=N zfH .nil .nil
def zhQ:=N zgo (N zkT .nil .nil) .nil
def zlW:=N o0 (N o10 (N o26 (N (o61 P) zh1 (N U7 zh0 .nil)) (N o98 zjm zhZ)) (N o45 (N o80 zhY (N zbS zhX .nil)) (N VH zjj zhW))) (N o18 (N (o34 P) (N o72 zhV (N U1 zhU .nil)) (N VO zjg zhT)) (N o53 (N o88 zje (N UQ zhS .nil)) (N VB (N zbZ zhR .nil) zhQ)))
def zhP:=N zaS zjd (N zeY .nil .nil)
def zhO:=N zfD .nil .nil
def zhN:=N zgw (N zfl .nil .nil) .nil
def zhM:=N zcb zja (N zeN .nil .nil)
def zhL:=N zk5 .nil .nil
def zhK:=N zbC (N zfa .nil .nil) .nil
def zhJ:=N zaM zi7 (N zkP .nil .nil)
def zhI:=N zfC .nil .nil
def zhH:=N zbI (N zkY .nil .nil) .nil
def zhG:=N zfr .nil .nil
def zhF:=N zfJ .nil .nil
def zhE:=N zbw (N ze4 .nil .nil) .nil
def zhD:=N zaP zi2 (N zeU .nil .nil)
def zhC:=N zlb .nil .nil
def zhB:=N zgv (N zfi .nil .nil) .nil
def zhA:=N zaE ziZ (N zeK .nil .nil)
def zhz:=N zfu .nil .nil
def zhy:=N zli .nil .nil
def zhx:=N zbz (N ze7 .nil .nil) .nil
def zhw:=N zcc ziY (N zeQ .nil .nil)
def zhv:=N zk6 .nil .nil
def zhu:=N zbF (N zkX .nil .nil) .nil
def zht:=N zfo .nil .nil
def zhs:=N zfG .nil .nil
def zhr:=N zbu (N ze1 .nil .nil) .nil
def zlV:=N o2 (N o12 (N (o28 P) (N o63 zhD (N zbW zhC .nil)) (N za1 zi0 zhB)) (N o47 (N o82 zhA (N UU zhz .nil)) (N zaW (N zah zhy .nil) zhx))) (N o20 (N o36 (N o74 zhw (N U0 zhv .nil)) (N VM (ziW P) zhu)) (N (o55 P) (N o90 ziU (N UN zht .nil)) (N VA (N zab zhs .nil) zhr)))
def zlU:=N (boot_o_5 P) (N (boot_o_9 P) (N o8 (N o24 (N o59 zhP (N U8 zhO .nil)) (N (o96 P) zjb zhN)) (N (o43 P) (N o78 zhM (N UX zhL .nil)) (N zaX zi8 zhK))) (N o16 (N o32 (N (o70 P) zhJ (N zbV zhI .nil)) (N VP zi5 zhH)) (N o51 (N o86 zi3 (N UR zhG .nil)) (N VD (N zae zhF .nil) zhE)))) (zlV P)
def zhq:=N zaT ziT (N zeZ .nil .nil)
def zhp:=N zfE .nil .nil
def zho:=N zbO (N zfm .nil .nil) .nil
def zhn:=N zaH ziQ (N zkN .nil .nil)
def zhm:=N zfx .nil .nil
def zhl:=N zbD (N zkW .nil .nil) .nil
def zhk:=N zaN ziN (N zeT .nil .nil)
def zhj:=N zk8 .nil .nil
def zhi:=N zgu (N zfg .nil .nil) .nil
def zhh:=N zk3 .nil .nil
def zhg:=N zlh .nil .nil
def zhf:=N zbx (N ze5 .nil .nil) .nil
def zhe:=N zaQ ziI (N zeV .nil .nil)
def zhd:=N (zlc P) .nil .nil
def zhc:=N zbL (N zfj .nil .nil) .nil
def zhb:=N zca ziF (N zeL .nil .nil)
def zha:=N zk4 .nil .nil
def zg9:=N zfM .nil .nil
def zg8:=N zbA (N zkV .nil .nil) .nil
def zg7:=N zaK ziE (N zkO .nil .nil)
def zg6:=N zfA .nil .nil
def zg5:=N zgt (N zfd .nil .nil) .nil
def zg4:=N zfp .nil .nil
def zg3:=N zlg .nil .nil
def zg2:=N zbv (N ze2 .nil .nil) .nil
def zlT:=N zmF (N o11 (N o27 (N o62 zhe (N U6 (zhd P) .nil)) (N o99 ziG zhc)) (N o46 (N o81 zhb (N UV zha .nil)) (N VG (N zb1 zg9 .nil) zg8))) (N o19 (N o35 (N o73 zg7 (N zbU zg6 .nil)) (N VN ziC zg5)) (N o54 (N o89 ziA (N UO zg4 .nil)) (N zaU (N zac zg3 .nil) zg2)))
def zg1:=N zaR ziz (N (zeX P) .nil .nil)
def zg0:=N zle .nil .nil
def zgZ:=N zbN (N zk0 .nil .nil) .nil
def zgY:=N zaG ziw (N zeM .nil .nil)
def zgX:=N zfw .nil .nil
def zgW:=N zbB (N ze9 .nil .nil) .nil
def zgV:=N zcd zit (N zeS .nil .nil)
def zgU:=N zk7 .nil .nil
def zgT:=N zbH (N zff .nil .nil) .nil
def zgS:=N zfq .nil .nil
def zgR:=N zfI .nil .nil
def zgQ:=N zgp (N ze3 .nil .nil) .nil
def zgP:=N zce zin (N zkR .nil .nil)
def zgO:=N zla .nil .nil
def zgN:=N zbK (N zkZ .nil .nil) .nil
def zgM:=N zft .nil .nil
def zgL:=N zfL .nil .nil
def zgK:=N zgq (N ze6 .nil .nil) .nil
def zgJ:=N zaJ zii (N zeP .nil .nil)
def zgI:=N zfz .nil .nil
def zgH:=N zbE (N zfc .nil .nil) .nil
def Uj:=N zfn .nil .nil
def Ui:=N zfF .nil .nil
def Uh:=N zbt (N zkS .nil .nil) .nil
def zcQ:=N o3 (N o13 (N o29 (N o64 zgP (N U5 zgO .nil)) (N VR zil zgN)) (N o48 (N o83 zij (N UT zgM .nil)) (N VF (N zag zgL .nil) zgK))) (N (o21 P) (N o37 (N o75 zgJ (N UZ zgI .nil)) (N zaY zig zgH)) (N o56 (N o91 zie (N zbP Uj .nil)) (N Vz (N zbY Ui .nil) Uh)))
def zcP:=N (boot_o_6 P) (N (boot_o_10 P) (N o9 (N o25 (N o60 (zg1 P) (N zbX zg0 .nil)) (N o97 zix zgZ)) (N o44 (N o79 zgY (N UW zgX .nil)) (N VI ziu zgW))) (N o17 (N o33 (N o71 zgV (N U2 zgU .nil)) (N zaZ zir zgT)) (N o52 (N o87 zio (N zbQ zgS .nil)) (N VC (N zad zgR .nil) zgQ)))) (zcQ P)
def zcO:=N (boot_o_2 P) (N (boot_o_4 P) (N (boot_o_8 P) (N o7 (N o23 (N o58 zhq (N U9 zhp .nil)) (N o95 ziR zho)) (N o42 (N o77 zhn (N zbT zhm .nil)) (N VJ ziO zhl))) (N (o15 P) (N o31 (N o69 zhk (N U3 zhj .nil)) (N VQ ziL zhi)) (N o50 (N o85 ziJ (N US zhh .nil)) (N zaV (N zaf zhg .nil) zhf)))) (zlT P)) (zcP P)
def zcN:=N (boot_o_0 P) (N (boot_o_1 P) (N (zmG P) (N (boot_o_7 P) (N o6 (N o67 (N o57 zid (N zaa zic .nil)) (N o94 zjx (N UM zib .nil))) (N o41 (N (o76 P) zia (N UY zh9 .nil)) (N VL zju zh8))) (N o14 (N o30 (N o68 zh7 (N U4 zh6 .nil)) (N za0 zjr zh5)) (N (o49 P) (N o84 zjp (N zbR zh4 .nil)) (N VE (N zb0 zh3 .nil) zh2)))) (zlW P)) (zlU P)) (zcO P)
def sb6 (w:World) (os:OsState):SharedT:=⟨(zcN w.params),406,(Life.mk [] [] [] 0 [] [] false #[] [] 0 false false false 0 [2000,10,10] false 0 true [] [] 0 false),⟨[]⟩,(Drawn.mk 0 0 0 0),722,os⟩
def L5 (w:World) (os:OsState):Option (Flow×SharedT×Code×Pos):=segRunT treeTable pw w 11 an 1 588 (sb5 w os) (piecesOf zjR env cE (Pos.mk 185 0 190 72) B)
def R5 (w:World) (os:OsState):Option (Flow×SharedT×Code×Pos):=some (.next,sb6 w os,cE,(Pos.mk 246 0 259 21))
theorem q5:tt (Hd.L5,Hd.R5)=true:=by k_qdec
theorem r5:∀ w,Fast.tw7289443652863241282 w=Hd.R5 w:=fun w=>by kernel_rfl
theorem e5 (w:World) (os:OsState):Hd.L5 w os=Hd.R5 w os:=(congrFun (congrFun Fast.te7289443652863241282 w) os).trans (congrFun (r5 w) os)
def zjQ:List Stmt:=[S 41,S 42,S 43,S 44,S 45,S 46,S 47,S 48,S 49,S 50,S 51,S 52]
def zeJ:=Obj.mk k4 .none (Data.dict #[en P 3 165 (sv 106 699),en P 5 166 .none,en P 6 167 .none,en P 7 168 k5,en P 8 169 .none,en P 9 170 6,en P 10 171 4,en P 11 173 (sv 0 172),en P 12 174 .none,en P 13 193 21,en P 14 213 31,en P 15 229 44,en P 22 245 56,en P 23 261 68,en P 25 277 80,en P 26 286 89,en P 27 294 94,en P 30 398 174,en P 31 408 185,en P 32 417 192,en P 67 426 199,en P 68 437 206,en P 69 445 213,en P 70 457 220,en P 71 467 227,en P 72 475 234,en P 73 488 241,en P 74 501 248,en P 75 507 253,en P 76 519 260,en P 77 529 267,en P 78 539 274,en P 79 545 279,en P 80 555 286,en P 81 567 293,en P 82 571 (.int 12 570),en P 83 573 (.int 99 572),en P 84 582 300,en P 85 590 307,en P 107 600 314,en P 108 612 321,en P 109 698 387,en P 110 708 398,en P 111 721 405,en P 136 729 412,en P 137 735 417,en P 138 750 424,en P 139 760 431,en P 140 766 436,en P 141 775 443,en P 142 784 450,en P 143 790 455,en P 144 807 462,en P 145 818 469,en P 146 824 474,en P 147 830 479] 56) #[]
def zkL:=vO #[(iv 1),(iv 0),20,(iv 5),(iv 0),27,(iv 7),(iv 0),40,(iv 9),(iv 0),52,(iv 11),(iv 0),64,(iv 13),(iv 0),76,(iv 16),(iv 0),88,(iv 19),(iv 0),93,(iv 27),(iv 0),100,(iv 67),(iv 0),184,(iv 76),(iv 0),191,(iv 81),(iv 0),198,(iv 87),(iv 0),205,(iv 96),(iv 0),212,(iv 100),(iv 0),219,(iv 107),(iv 0),226,(iv 115),(iv 0),233,(iv 118),(iv 0),240,(iv 125),(iv 0),247,(iv 135),(iv 0),252,(iv 144),(iv 0),259,(iv 147),(iv 0),266,(iv 149),(iv 0),273,(iv 155),(iv 0),278,(iv 160),(iv 0),285,(iv 166),(iv 0),292,(iv 176),(iv 0),299,(iv 185),(iv 0),306,(iv 191),(iv 0),313,(iv 200),(iv 0),320,(iv 208),(iv 0),327,(iv 242),(iv 0),397,(iv 246),(iv 0),404,(iv 260),(iv 0),411,(iv 264),(iv 0),416,(iv 273),(iv 0),423,(iv 284),(iv 0),430,(iv 289),(iv 0),435,(iv 292),(iv 0),442,(iv 299),(iv 0),449,(iv 301),(iv 0),454,(iv 319),(iv 0),461,(iv 330),(iv 0),468,(iv 338),(iv 0),473,(iv 353),(iv 0),478]
def zeI:=tO #[]
def zkK:=vO #[]
def zeH:=tO #[(sv 148 725),(sv 149 726)]
def zeG:=tO #[]
def zkJ:=gO 136 136 (S 41)
def zeF:=cO 136 136 722 723 724 260 2 3 406 407 408 409 410 727 728
def zeE:=uO 136 136 (S 41) 106 699 411
def zeD:=tO #[]
def zkI:=vO #[]
def zkH:=gO 137 137 (S 42)
def zeC:=Obj.mk k1 .none (Data.fields #[(sv 137 730),(sv 137 731),(sv 0 732),(iv 264),(iv 2),(iv 0),(iv 0),(iv 3),413,(.bool true),(iv 181),414,.none,.none,.none,415,(iv 733),(iv 264),(sv 0 734)]) #[]
def zeB:=uO 137 137 (S 42) 106 699 416
def zeA:=tO #[]
def zkG:=vO #[]
def zez:=tO #[(sv 148 739),(sv 150 740),(sv 151 741),(sv 132 742),(sv 152 743),(sv 129 744),(sv 153 745),(sv 154 746),(sv 155 747)]
def zey:=tO #[]
def zkF:=gO 138 138 (S 43)
def zex:=cO 138 138 736 737 738 273 2 3 418 419 420 421 422 748 749
def zew:=uO 138 138 (S 43) 106 699 423
def zev:=tO #[]
def zkE:=vO #[]
def zeu:=tO #[(sv 148 754),(sv 156 755),(sv 150 756),(sv 157 757)]
def zet:=tO #[]
def zkD:=gO 139 139 (S 44)
def zes:=cO 139 139 751 752 753 284 1 3 425 426 427 428 429 758 759
def zer:=uO 139 139 (S 44) 106 699 430
def zeq:=tO #[]
def zkC:=vO #[]
def zkB:=gO 140 140 (S 45)
def zep:=Obj.mk k1 .none (Data.fields #[(sv 140 761),(sv 140 762),(sv 0 763),(iv 289),(iv 2),(iv 0),(iv 0),(iv 3),432,(.bool true),(iv 181),433,.none,.none,.none,434,(iv 764),(iv 289),(sv 0 765)]) #[]
def zeo:=uO 140 140 (S 45) 106 699 435
def zen:=tO #[]
def zkA:=vO #[]
def zem:=tO #[(sv 158 770),(sv 159 771),(sv 132 772)]
def zel:=tO #[]
def zkz:=gO 141 141 (S 46)
def zek:=cO 141 141 767 768 769 292 2 3 437 438 439 440 441 773 774
def zej:=uO 141 141 (S 46) 106 699 442
def zei:=tO #[]
def zky:=vO #[]
def zeh:=tO #[(sv 158 779),(sv 160 780),(sv 161 781)]
def zeg:=tO #[]
def zkx:=gO 142 142 (S 47)
def zef:=cO 142 142 776 777 778 299 3 3 444 445 446 447 448 782 783
def zee:=uO 142 142 (S 47) 106 699 449
def zed:=tO #[]
def zkw:=vO #[]
def zkv:=gO 143 143 (S 48)
def zec:=Obj.mk k1 .none (Data.fields #[(sv 143 785),(sv 143 786),(sv 0 787),(iv 301),(iv 3),(iv 0),(iv 0),(iv 3),451,(.bool true),(iv 181),452,.none,.none,.none,453,(iv 788),(iv 301),(sv 0 789)]) #[]
def zeb:=uO 143 143 (S 48) 106 699 454
def zea:=tO #[]
def zku:=vO #[]
def zd9:=tO #[(sv 158 794),(sv 162 795),(sv 159 796),(sv 161 797),(sv 163 798),(sv 164 799),(sv 132 800),(sv 160 801),(sv 165 802),(sv 153 803),(sv 166 804)]
def zd8:=tO #[]
def zkt:=gO 144 144 (S 49)
def zd7:=cO 144 144 791 792 793 319 4 3 456 457 458 459 460 805 806
def zd6:=uO 144 144 (S 49) 106 699 461
def zd5:=tO #[]
def zks:=vO #[]
def zd4:=tO #[(sv 167 811),(sv 151 812),(sv 168 813),(sv 169 814),(sv 170 815)]
def zd3:=tO #[]
def zkr:=gO 145 145 (S 50)
def zd2:=cO 145 145 808 809 810 330 2 3 463 464 465 466 467 816 817
def zd1:=uO 145 145 (S 50) 106 699 468
def zd0:=tO #[]
def zkq:=vO #[]
def zkp:=gO 146 146 (S 51)
def zdZ:=Obj.mk k1 .none (Data.fields #[(sv 146 819),(sv 146 820),(sv 0 821),(iv 338),(iv 5),(iv 0),(iv 0),(iv 3),470,(.bool true),(iv 181),471,.none,.none,.none,472,(iv 822),(iv 338),(sv 0 823)]) #[]
def zdY:=uO 146 146 (S 51) 106 699 473
def zdX:=tO #[]
def zko:=vO #[]
def zkn:=gO 147 147 (S 52)
def zdW:=Obj.mk k1 .none (Data.fields #[(sv 147 825),(sv 147 826),(sv 0 827),(iv 353),(iv 1),(iv 0),(iv 0),(iv 3),475,(.bool true),(iv 181),476,.none,.none,.none,477,(iv 828),(iv 353),(sv 0 829)]) #[]
def zdV:=uO 147 147 (S 52) 106 699 478
def zcM:=N o14 (N o30 (N o68 zh7 (N U4 zh6 (N zeb .nil .nil))) (N za0 (N zar zjs (N zex .nil .nil)) zh5)) (N (o49 P) (N o84 (N zaC zjq (N zkK .nil .nil)) (N zbR zh4 (N zkq .nil .nil))) (N VE (N zb0 zh3 (N zem .nil .nil)) zh2))
def zcL:=N o18 (N (o34 P) (N o72 zhV (N U1 zhU (N zd8 .nil .nil))) (N VO (N zao zjh (N zeu .nil .nil)) zhT)) (N o53 (N o88 (N zb8 zjf (N zeF .nil .nil)) (N UQ zhS (N zdX .nil .nil))) (N VB (N zbZ zhR (N zej .nil .nil)) zhQ))
def zcK:=N o0 (N o10 (N o26 (N (o61 P) zh1 (N U7 zh0 (N zed .nil .nil))) (N o98 (N zau zjn (N zkG .nil .nil)) zhZ)) (N o45 (N o80 zhY (N zbS zhX (N zkr .nil .nil))) (N VH (N zai zjk (N zep .nil .nil)) zhW))) (zcL P)
def zcJ:=N o16 (N o32 (N (o70 P) zhJ (N zbV zhI (N zku .nil .nil))) (N VP (N zb4 zi6 (N zev .nil .nil)) zhH)) (N o51 (N o86 (N zaB zi4 (N zeG .nil .nil)) (N UR zhG (N zdZ .nil .nil))) (N VD (N zae zhF (N zkz .nil .nil)) zhE))
def zcI:=N o20 (N o36 (N o74 zhw (N U0 zhv (N zd7 .nil .nil))) (N VM (N (zam P) ziX (N zkD .nil .nil)) zhu)) (N (o55 P) (N o90 (N zay ziV (N zeD .nil .nil)) (N UN zht (N zkn .nil .nil))) (N VA (N zab zhs (N zky .nil .nil)) zhr))
def zcH:=N o2 (N o12 (N (o28 P) (N o63 zhD (N zbW zhC (N zkv .nil .nil))) (N za1 (N zas zi1 (N zey .nil .nil)) zhB)) (N o47 (N o82 zhA (N UU zhz (N zd1 .nil .nil))) (N zaW (N zah zhy (N zen .nil .nil)) zhx))) (zcI P)
def zcG:=N (boot_o_5 P) (N (boot_o_9 P) (N o8 (N o24 (N o59 zhP (N U8 zhO (N zef .nil .nil))) (N (o96 P) (N zav zjc (N zeB .nil .nil)) zhN)) (N (o43 P) (N o78 zhM (N UX zhL (N zd4 .nil .nil))) (N zaX (N zb3 zi9 (N zkC .nil .nil)) zhK))) (zcJ P)) (zcH P)
def zcF:=N (o15 P) (N o31 (N o69 zhk (N U3 zhj (N zea .nil .nil))) (N VQ (N zaq ziM (N zew .nil .nil)) zhi)) (N o50 (N o85 (N zb9 ziK (N zeH .nil .nil)) (N US zhh (N zkp .nil .nil))) (N zaV (N zaf zhg (N zel .nil .nil)) zhf))
def zcE:=N o19 (N o35 (N o73 zg7 (N zbU zg6 (N zkt .nil .nil))) (N VN (N zan ziD (N zet .nil .nil)) zg5)) (N o54 (N o89 (N zaz ziB (N zeE .nil .nil)) (N UO zg4 (N zko .nil .nil))) (N zaU (N zac zg3 (N zei .nil .nil)) zg2))
def zcD:=N zkL (N o11 (N o27 (N o62 zhe (N U6 (zhd P) (N zkw .nil .nil))) (N o99 (N zat ziH (N zez .nil .nil)) zhc)) (N o46 (N o81 zhb (N UV zha (N zd2 .nil .nil))) (N VG (N zb1 zg9 (N zeo .nil .nil)) zg8))) zcE
def zcC:=N o17 (N o33 (N o71 zgV (N U2 zgU (N zd9 .nil .nil))) (N zaZ (N zap zis (N zkE .nil .nil)) zgT)) (N o52 (N o87 (N zaA ziq (N zkJ .nil .nil)) (N zbQ zgS (N zdY .nil .nil))) (N VC (N zad zgR (N zek .nil .nil)) zgQ))
def zcB:=N (o21 P) (N o37 (N o75 zgJ (N UZ zgI (N zd6 .nil .nil))) (N zaY (N zal zih (N zes .nil .nil)) zgH)) (N o56 (N o91 (N zax zif (N zkI .nil .nil)) (N zbP Uj (N zdW .nil .nil))) (N Vz (N zbY Ui (N zeh .nil .nil)) Uh))
def zcA:=N o3 (N o13 (N o29 (N o64 zgP (N U5 zgO (N zec .nil .nil))) (N VR (N zb5 zim (N zkF .nil .nil)) zgN)) (N o48 (N o83 (N zaD zik (N zeI .nil .nil)) (N UT zgM (N zd0 .nil .nil))) (N VF (N zag zgL (N zkA .nil .nil)) zgK))) (zcB P)
def zcz:=N (boot_o_6 P) (N (boot_o_10 P) (N o9 (N o25 (N o60 (zg1 P) (N zbX zg0 (N zee .nil .nil))) (N o97 (N zb6 ziy (N zeA .nil .nil)) zgZ)) (N o44 (N o79 zgY (N UW zgX (N zd3 .nil .nil))) (N VI (N zb2 ziv (N zkB .nil .nil)) zgW))) zcC) (zcA P)
def zcy:=N (boot_o_2 P) (N (boot_o_4 P) (N (boot_o_8 P) (N o7 (N o23 (N o58 zhq (N U9 zhp (N zkx .nil .nil))) (N o95 (N zaw ziS (N zeC .nil .nil)) zho)) (N o42 (N o77 zhn (N zbT zhm (N zks .nil .nil))) (N VJ (N zaj ziP (N zeq .nil .nil)) zhl))) (zcF P)) (zcD P)) (zcz P)
def zcx:=N (boot_o_0 P) (N (boot_o_1 P) (N (zeJ P) (N (boot_o_7 P) (N o6 (N o67 (N o57 zid (N zaa zic (N zeg .nil .nil))) (N o94 (N zb7 zjy (N zkH .nil .nil)) (N UM zib (N zdV .nil .nil)))) (N o41 (N (o76 P) zia (N UY zh9 (N zd5 .nil .nil))) (N VL (N zak zjv (N zer .nil .nil)) zh8))) (zcM P)) (zcK P)) (zcG P)) (zcy P)
def sb7 (w:World) (os:OsState):SharedT:=⟨(zcx w.params),480,(Life.mk [] [] [] 0 [] [] false #[] [] 0 false false false 0 [2000,10,10] false 0 true [] [] 0 false),⟨[]⟩,(Drawn.mk 0 0 0 0),831,os⟩
def L6 (w:World) (os:OsState):Option (Flow×SharedT×Code×Pos):=segRunT treeTable pw w 11 an 1 364 (sb6 w os) (piecesOf zjQ env cE (Pos.mk 246 0 259 21) B)
def R6 (w:World) (os:OsState):Option (Flow×SharedT×Code×Pos):=some (.next,sb7 w os,cE,(Pos.mk 353 0 367 15))
theorem q6:tt (Hd.L6,Hd.R6)=true:=by k_qdec
theorem r6:∀ w,Fast.tw11518265509499319272 w=Hd.R6 w:=fun w=>by kernel_rfl
theorem e6 (w:World) (os:OsState):Hd.L6 w os=Hd.R6 w os:=(congrFun (congrFun Fast.te11518265509499319272 w) os).trans (congrFun (r6 w) os)
def h39:List Obj:=zd2::zd1::zd0::zkq::zkp::zdZ::zdY::zdX::zko::zkn::zdW::zdV::[]
def h38:List Obj:=zea::zku::zd9::zd8::zkt::zd7::zd6::zd5::zks::zd4::zd3::zkr::h39
def h37:List Obj:=zei::zky::zeh::zeg::zkx::zef::zee::zed::zkw::zkv::zec::zeb::h38
def h36:List Obj:=zeq::zkC::zkB::zep::zeo::zen::zkA::zem::zel::zkz::zek::zej::h37
def h35:List Obj:=zez::zey::zkF::zex::zew::zev::zkE::zeu::zet::zkD::zes::zer::h36
def h34:List Obj:=zeH::zeG::zkJ::zeF::zeE::zeD::zkI::zkH::zeC::zeB::zeA::zkG::h35
def h33:List Obj:=zkO::zeQ::zeP::zeO::zkN::zeN::zeM::zkM::zeL::zeK::zeI::zkK::h34
def h32:List Obj:=zeZ::zeY::zeX P::zeW::zeV::zeU::zkR::zkQ::zeT::zkP::zeS::zeR::h33
def h31:List Obj:=zkV::ze7::ze6::zkU::ze5::ze4::ze3::zkT::ze2::ze1::zkS::ze0::h32 P
def h30:List Obj:=zfg::zkY::zff::zfe::zfd::zkX::zfc::zfb::zkW::zfa::ze9::ze8::h31 P
def h29:List Obj:=zfp::zfo::zfn::zk1::zfm::zfl::zk0::zfk::zfj::zfi::zkZ::zfh::h30 P
def h28:List Obj:=zfx::zk5::zfw::zfv::zk4::zfu::zft::zfs::zk3::zfr::zfq::zk2::h29 P
def h27:List Obj:=zlc P::zlb::zla::zk9::zk8::zfC::zk7::zfB::zfA::zk6::zfz::zfy::h28 P
def h26:List Obj:=zlh::zfJ::zfI::zfH::zlg::zfG::zfF::zlf::zfE::zfD::zle::zld::h27 P
def h25:List Obj:=zfS::zfR::zlk::zfQ::zfP::zlj::zfO::zfN::zfM::zli::zfL::zfK::h26 P
def h24:List Obj:=zlo::zf0::zfZ::zln::zfY::zfX::zfW::zlm::zfV::zfU::zll::zfT::h25 P
def h23:List Obj:=zls::zlr::zf8::zf7::zf6::zlq::zf5::zf4::zlp::zf3::zf2::zf1::h24 P
def h22:List Obj:=zgh::zlv::zgg::zgf::zge::zlu::zgd::zgc::zlt::zgb::zga::zf9::h23 P
def h21:List Obj:=zbv::zbu::zbt::zly::zgn::zgm::zlx::zgl::zgk::zgj::zlw::zgi::h22 P
def h20:List Obj:=zbD::zbC::zbB::zgr::zbA::zbz::zgq::zby::zbx::zbw::zgp::zgo::h21 P
def h19:List Obj:=zbL::zgv::zbK::zbJ::zgu::zbI::zbH::zbG::zgt::zbF::zbE::zgs::h20 P
def h18:List Obj:=US::UR::zbQ::UQ::UO::UN::zbP::UM::zbO::zgw::zbN::zbM::h19 P
def h17:List Obj:=zbU::U0::UZ::UY::zbT::UX::UW::zbS::UV::UU::UT::zbR::h18 P
def h16:List Obj:=U9::U8::zbX::U7::U6::zbW::U5::U4::U3::zbV::U2::U1::h17 P
def h15:List Obj:=zb1::zah::zag::zb0::zaf::zae::zad::zbZ::zac::zab::zbY::zaa::h16 P
def h14:List Obj:=zaq::zb4::zap::zao::zan::zam P::zal::zak::zaj::zb3::zb2::zai::h15 P
def h13:List Obj:=zaz::zay::zax::zb7::zaw::zav::zb6::zau::zat::zas::zb5::zar::h14 P
def h12:List Obj:=zaH::zcb::zaG::zaF::zca::zaE::zaD::zaC::zb9::zaB::zaA::zb8::h13 P
def h11:List Obj:=zaQ::zaP::zce::zaO::zaN::zaM::zcd::zaL::zaK::zcc::zaJ::zaI::h12 P
def h10:List Obj:=zaV::VD::VC::VB::zaU::VA::Vz::zcg::zaT::zaS::zaR::zcf::h11 P
def h9:List Obj:=VN::VM::zaY::VL::VJ::zaX::VI::VH::VG::zaW::VF::VE::h10 P
def h8:List Obj:=o95::o96 P::o97::o98::o99::za1::VR::za0::VQ::VP::zaZ::VO::h9 P
def h7:List Obj:=o81::o82::o83::o84::o85::o86::o87::o88::o89::o90::o91::o94::h8 P
def h6:List Obj:=o69::o70 P::o71::o72::o73::o74::o75::o76 P::o77::o78::o79::o80::h7 P
def h5:List Obj:=o54::o55 P::o56::o57::o58::o59::o60::o61 P::o62::o63::o64::o68::h6 P
def h4:List Obj:=o42::o43 P::o44::o45::o46::o47::o48::o49 P::o50::o51::o52::o53::h5 P
def h3:List Obj:=o27::o28 P::o29::o30::o31::o32::o33::o34 P::o35::o36::o37::o41::h4 P
def h2:List Obj:=o15 P::o16::o17::o18::o19::o20::o21 P::o67::o23::o24::o25::o26::h3 P
def h1:List Obj:=zkL::o2::o3::o6::o7::o8::o9::o10::o11::o12::o13::o14::h2 P
def h0:List Obj:=boot_o_0 P::boot_o_1 P::boot_o_2 P::zeJ P::boot_o_4 P::boot_o_5 P::boot_o_6 P::boot_o_7 P::boot_o_8 P::boot_o_9 P::boot_o_10 P::o0::h1 P
def H1:Heap:=⟨⟨h0 P⟩,(Life.mk [] [] [] 0 [] [] false #[] [] 0 false false false 0 [2000,10,10] false 0 true [] [] 0 false)⟩
def sf (w:World) (os:OsState):Shared:=⟨H1 w.params,⟨[]⟩,(Drawn.mk 0 0 0 0),831,os⟩
def Lf (w:World) (os:OsState):Option Shared:=topRun treeTable pw w 11 an 2 (sb7 w os).abs ⟨doneF .next,cE,(Pos.mk 353 0 367 15),B⟩
def Rf (w:World) (os:OsState):Option Shared:=some (sf w os)
theorem qf:tt (Hd.Lf,Hd.Rf)=true:=by k_qdec
theorem rf:∀ w,Fast.tw2640074843757178226 w=Hd.Rf w:=fun w=>by kernel_rfl
theorem ef (w:World) (os:OsState):Hd.Lf w os=Hd.Rf w os:=(congrFun (congrFun Fast.te2640074843757178226 w) os).trans (congrFun (rf w) os)
theorem cut:bE=zjW++(zjV++(zjU++(zjT++(zjS++(zjR++(zjQ++([]))))))):=by kernel_rfl
theorem run (w:World) (os:OsState):topRun treeTable pw w 11 an (12+(1+(438+(427+(287+(577+(572+(588+(364+2))))))))) (s0 w os) (topStub pw)=some (sf w os):=by
 refine go_top (ea w os) (piece_block (q:=qE) (env:=env) (b:=bE) (segRun_of (eb w os)) ?_)
 rw[show restOf bE env cE (Pos.mk 0 0 0 0) [topFrame qE]=restOf _ env cE _ [topFrame qE] from congrArg (fun l=>restOf l env cE (Pos.mk 0 0 0 0) [topFrame qE]) cut]
 refine piece_app (segRun_of (e0 w os)) ?_
 refine piece_app (segRun_of (e1 w os)) ?_
 refine piece_app (segRun_of (e2 w os)) ?_
 refine piece_app (segRun_of (e3 w os)) ?_
 refine piece_app (segRun_of (e4 w os)) ?_
 refine piece_app (segRun_of (e5 w os)) ?_
 refine piece_app (segRun_of (e6 w os)) ?_
 exact ef w os
def M:Nat:=12+(1+(438+(427+(287+(577+(572+(588+(364+2))))))))
abbrev rW:RowW:=(PySem.Challenge.rw_beatless_k31_roads_told.row).toRowW
def Q:Program:={ pw with main:={ pw.main with body:=[S 0,S 2,S 3,S 4,S 5,S 6,S 8,S 10,S 11,S 12,S 13,S 14,S 15,S 16,S 17,S 18,S 19,S 20,S 21,S 22,S 24,S 25,S 26,S 27,S 28,S 29,S 31,S 32,S 33,S 34,S 35,S 36,S 37,S 39,S 40,S 41,S 42,S 43,S 44,S 45,S 46,S 47,S 48,S 49,S 50,S 51,S 52] } }
def Xt (s:Shared):Bool:=xlAt Q [] s&&recOk (RowW.records rW) s
def K:Frag:=(nat_lit 2,boot_o_2 P)::(nat_lit 3,zeJ P)::(nat_lit 15,o6)::(nat_lit 17,o8)::(nat_lit 18,o9)::(nat_lit 20,o11)::(nat_lit 21,o12)::(nat_lit 22,o13)::(nat_lit 29,o20)::(nat_lit 30,o21 P)::(nat_lit 31,o67)::(nat_lit 32,o23)::(nat_lit 35,o26)::(nat_lit 42,o33)::(nat_lit 43,o34 P)::(nat_lit 44,o35)::(nat_lit 47,o41)::(nat_lit 54,o48)::(nat_lit 55,o49 P)::(nat_lit 56,o50)::(nat_lit 59,o53)::(nat_lit 66,o60)::(nat_lit 67,o61 P)::(nat_lit 68,o62)::(nat_lit 71,o68)::(nat_lit 78,o75)::(nat_lit 79,o76 P)::(nat_lit 80,o77)::(nat_lit 83,o80)::(nat_lit 85,o82)::(nat_lit 86,o83)::(nat_lit 88,o85)::(nat_lit 89,o86)::(nat_lit 90,o87)::(nat_lit 93,o90)::(nat_lit 94,o91)::(nat_lit 102,VR)::(nat_lit 104,VQ)::(nat_lit 105,VP)::(nat_lit 107,VO)::(nat_lit 108,VN)::(nat_lit 109,VM)::(nat_lit 111,VL)::(nat_lit 112,VJ)::(nat_lit 114,VI)::(nat_lit 115,VH)::(nat_lit 116,VG)::(nat_lit 118,VF)::(nat_lit 119,VE)::(nat_lit 121,VD)::(nat_lit 122,VC)::(nat_lit 123,VB)::(nat_lit 125,VA)::(nat_lit 126,Vz)::(nat_lit 128,zaT)::(nat_lit 129,zaS)::(nat_lit 130,zaR)::(nat_lit 132,zaQ)::(nat_lit 133,zaP)::(nat_lit 135,zaO)::(nat_lit 136,zaN)::(nat_lit 137,zaM)::(nat_lit 139,zaL)::(nat_lit 140,zaK)::(nat_lit 142,zaJ)::(nat_lit 143,zaI)::(nat_lit 144,zaH)::(nat_lit 146,zaG)::(nat_lit 147,zaF)::(nat_lit 149,zaE)::(nat_lit 150,zaD)::(nat_lit 151,zaC)::(nat_lit 153,zaB)::(nat_lit 154,zaA)::(nat_lit 156,zaz)::(nat_lit 157,zay)::(nat_lit 158,zax)::(nat_lit 160,zaw)::(nat_lit 161,zav)::(nat_lit 163,zau)::(nat_lit 164,zat)::(nat_lit 165,zas)::(nat_lit 167,zar)::(nat_lit 168,zaq)::(nat_lit 170,zap)::(nat_lit 171,zao)::(nat_lit 172,zan)::(nat_lit 173,zam P)::(nat_lit 174,zal)::(nat_lit 175,zak)::(nat_lit 176,zaj)::(nat_lit 179,zai)::(nat_lit 181,zah)::(nat_lit 182,zag)::(nat_lit 184,zaf)::(nat_lit 185,zae)::(nat_lit 186,zad)::(nat_lit 188,zac)::(nat_lit 189,zab)::(nat_lit 191,zaa)::(nat_lit 192,U9)::(nat_lit 193,U8)::(nat_lit 195,U7)::(nat_lit 196,U6)::(nat_lit 198,U5)::(nat_lit 199,U4)::(nat_lit 200,U3)::(nat_lit 202,U2)::(nat_lit 203,U1)::(nat_lit 205,U0)::(nat_lit 206,UZ)::(nat_lit 207,UY)::(nat_lit 209,UX)::(nat_lit 210,UW)::(nat_lit 212,UV)::(nat_lit 213,UU)::(nat_lit 214,UT)::(nat_lit 216,US)::(nat_lit 217,UR)::(nat_lit 219,UQ)::(nat_lit 220,UO)::(nat_lit 221,UN)::(nat_lit 223,UM)::(nat_lit 224,zbO)::(nat_lit 226,zbN)::(nat_lit 227,zbM)::(nat_lit 228,zbL)::(nat_lit 230,zbK)::(nat_lit 231,zbJ)::(nat_lit 233,zbI)::(nat_lit 234,zbH)::(nat_lit 235,zbG)::(nat_lit 237,zbF)::(nat_lit 238,zbE)::(nat_lit 240,zbD)::(nat_lit 241,zbC)::(nat_lit 242,zbB)::(nat_lit 244,zbA)::(nat_lit 245,zbz)::(nat_lit 247,zby)::(nat_lit 248,zbx)::(nat_lit 249,zbw)::(nat_lit 252,zbv)::(nat_lit 253,zbu)::(nat_lit 254,zbt)::(nat_lit 256,zgn)::(nat_lit 257,zgm)::(nat_lit 259,zgl)::(nat_lit 260,zgk)::(nat_lit 261,zgj)::(nat_lit 263,zgi)::(nat_lit 264,zgh)::(nat_lit 266,zgg)::(nat_lit 267,zgf)::(nat_lit 268,zge)::(nat_lit 270,zgd)::(nat_lit 271,zgc)::(nat_lit 273,zgb)::(nat_lit 274,zga)::(nat_lit 275,zf9)::(nat_lit 278,zf8)::(nat_lit 279,zf7)::(nat_lit 280,zf6)::(nat_lit 282,zf5)::(nat_lit 283,zf4)::(nat_lit 285,zf3)::(nat_lit 286,zf2)::(nat_lit 287,zf1)::(nat_lit 289,zf0)::(nat_lit 290,zfZ)::(nat_lit 292,zfY)::(nat_lit 293,zfX)::(nat_lit 294,zfW)::(nat_lit 296,zfV)::(nat_lit 297,zfU)::(nat_lit 299,zfT)::(nat_lit 300,zfS)::(nat_lit 301,zfR)::(nat_lit 303,zfQ)::(nat_lit 304,zfP)::(nat_lit 306,zfO)::(nat_lit 307,zfN)::(nat_lit 308,zfM)::(nat_lit 310,zfL)::(nat_lit 311,zfK)::(nat_lit 313,zfJ)::(nat_lit 314,zfI)::(nat_lit 315,zfH)::(nat_lit 317,zfG)::(nat_lit 318,zfF)::(nat_lit 320,zfE)::(nat_lit 321,zfD)::(nat_lit 329,zfC)::(nat_lit 331,zfB)::(nat_lit 332,zfA)::(nat_lit 334,zfz)::(nat_lit 335,zfy)::(nat_lit 336,zfx)::(nat_lit 338,zfw)::(nat_lit 339,zfv)::(nat_lit 341,zfu)::(nat_lit 342,zft)::(nat_lit 343,zfs)::(nat_lit 345,zfr)::(nat_lit 346,zfq)::(nat_lit 348,zfp)::(nat_lit 349,zfo)::(nat_lit 350,zfn)::(nat_lit 352,zfm)::(nat_lit 353,zfl)::(nat_lit 355,zfk)::(nat_lit 356,zfj)::(nat_lit 357,zfi)::(nat_lit 359,zfh)::(nat_lit 360,zfg)::(nat_lit 362,zff)::(nat_lit 363,zfe)::(nat_lit 364,zfd)::(nat_lit 366,zfc)::(nat_lit 367,zfb)::(nat_lit 369,zfa)::(nat_lit 370,ze9)::(nat_lit 371,ze8)::(nat_lit 373,ze7)::(nat_lit 374,ze6)::(nat_lit 376,ze5)::(nat_lit 377,ze4)::(nat_lit 378,ze3)::(nat_lit 380,ze2)::(nat_lit 381,ze1)::(nat_lit 383,ze0)::(nat_lit 384,zeZ)::(nat_lit 385,zeY)::(nat_lit 386,zeX P)::(nat_lit 387,zeW)::(nat_lit 388,zeV)::(nat_lit 389,zeU)::(nat_lit 392,zeT)::(nat_lit 394,zeS)::(nat_lit 395,zeR)::(nat_lit 397,zeQ)::(nat_lit 398,zeP)::(nat_lit 399,zeO)::(nat_lit 401,zeN)::(nat_lit 402,zeM)::(nat_lit 404,zeL)::(nat_lit 405,zeK)::(nat_lit 406,zeI)::(nat_lit 408,zeH)::(nat_lit 409,zeG)::(nat_lit 411,zeF)::(nat_lit 412,zeE)::(nat_lit 413,zeD)::(nat_lit 416,zeC)::(nat_lit 417,zeB)::(nat_lit 418,zeA)::(nat_lit 420,zez)::(nat_lit 421,zey)::(nat_lit 423,zex)::(nat_lit 424,zew)::(nat_lit 425,zev)::(nat_lit 427,zeu)::(nat_lit 428,zet)::(nat_lit 430,zes)::(nat_lit 431,zer)::(nat_lit 432,zeq)::(nat_lit 435,zep)::(nat_lit 436,zeo)::(nat_lit 437,zen)::(nat_lit 439,zem)::(nat_lit 440,zel)::(nat_lit 442,zek)::(nat_lit 443,zej)::(nat_lit 444,zei)::(nat_lit 446,zeh)::(nat_lit 447,zeg)::(nat_lit 449,zef)::(nat_lit 450,zee)::(nat_lit 451,zed)::(nat_lit 454,zec)::(nat_lit 455,zeb)::(nat_lit 456,zea)::(nat_lit 458,zd9)::(nat_lit 459,zd8)::(nat_lit 461,zd7)::(nat_lit 462,zd6)::(nat_lit 463,zd5)::(nat_lit 465,zd4)::(nat_lit 466,zd3)::(nat_lit 468,zd2)::(nat_lit 469,zd1)::(nat_lit 470,zd0)::(nat_lit 473,zdZ)::(nat_lit 474,zdY)::(nat_lit 475,zdX)::(nat_lit 478,zdW)::(nat_lit 479,zdV)::[]
def as:List Addr:=[2,3,15,17,18,20,21,22,29,30,31,32,35,42,43,44,47,54,55,56,59,66,67,68,71,78,79,80,83,85,86,88,89,90,93,94,102,104,105,107,108,109,111,112,114,115,116,118,119,121,122,123,125,126,128,129,130,132,133,135,136,137,139,140,142,143,144,146,147,149,150,151,153,154,156,157,158,160,161,163,164,165,167,168,170,171,172,173,174,175,176,179,181,182,184,185,186,188,189,191,192,193,195,196,198,199,200,202,203,205,206,207,209,210,212,213,214,216,217,219,220,221,223,224,226,227,228,230,231,233,234,235,237,238,240,241,242,244,245,247,248,249,252,253,254,256,257,259,260,261,263,264,266,267,268,270,271,273,274,275,278,279,280,282,283,285,286,287,289,290,292,293,294,296,297,299,300,301,303,304,306,307,308,310,311,313,314,315,317,318,320,321,329,331,332,334,335,336,338,339,341,342,343,345,346,348,349,350,352,353,355,356,357,359,360,362,363,364,366,367,369,370,371,373,374,376,377,378,380,381,383,384,385,386,387,388,389,392,394,395,397,398,399,401,402,404,405,406,408,409,411,412,413,416,417,418,420,421,423,424,425,427,428,430,431,432,435,436,437,439,440,442,443,444,446,447,449,450,451,454,455,456,458,459,461,462,463,465,466,468,469,470,473,474,475,478,479]
theorem asK (P:Params):as=(K P).map (·.1):=by kernel_rfl
def Ly (w:World) (os:OsState):List (Option Obj):=as.map (sf w os).heap.get?
def Ry (w:World) (_:OsState):List (Option Obj):=(K w.params).map fun p=>some p.2
theorem qy:tt (Hd.Ly,Hd.Ry)=true:=by k_qdec
theorem ry:∀ w,Fast.tw691215026958702249 w=Hd.Ry w:=fun w=>by kernel_rfl
theorem ey (w:World) (os:OsState):Hd.Ly w os=Hd.Ry w os:=(congrFun (congrFun Fast.te691215026958702249 w) os).trans (congrFun (ry w) os)
abbrev hk:Hook:=kHook K as asK
abbrev zlz:List Str:=importedModules pw.main.body
def A (w:World) (os:OsState):=openSeen Q [] zlz Xt true (sf w os)
def G (_:World) (_:OsState):=openGood Q []
def A0 (w:World) (os:OsState):=(A w os).1
def G0 (w:World) (os:OsState):=(G w os).1
theorem qA0:tt (Hd.A0,Hd.G0)=true:=by k_qdec
theorem rA0:∀ w,Fast.tw6131166808449026830 w=Hd.G0 w:=fun w=>by kernel_rfl
theorem eA0 (w:World) (os:OsState):Hd.A0 w os=Hd.G0 w os:=(congrFun (congrFun Fast.te6131166808449026830 w) os).trans (congrFun (rA0 w) os)
def A1 (w:World) (os:OsState):=(A w os).2.1
def G1 (w:World) (os:OsState):=(G w os).2.1
theorem qA1:tt (Hd.A1,Hd.G1)=true:=by k_qdec
theorem rA1:∀ w,Fast.tw7581016493306269660 w=Hd.G1 w:=fun w=>by kernel_rfl
theorem eA1 (w:World) (os:OsState):Hd.A1 w os=Hd.G1 w os:=(congrFun (congrFun Fast.te7581016493306269660 w) os).trans (congrFun (rA1 w) os)
def A2 (w:World) (os:OsState):=(A w os).2.2.1
def G2 (w:World) (os:OsState):=(G w os).2.2.1
theorem qA2:tt (Hd.A2,Hd.G2)=true:=by k_qdec
theorem rA2:∀ w,Fast.tw2900191123710467766 w=Hd.G2 w:=fun w=>by kernel_rfl
theorem eA2 (w:World) (os:OsState):Hd.A2 w os=Hd.G2 w os:=(congrFun (congrFun Fast.te2900191123710467766 w) os).trans (congrFun (rA2 w) os)
def A3 (w:World) (os:OsState):=(A w os).2.2.2.1
def G3 (w:World) (os:OsState):=(G w os).2.2.2.1
theorem qA3:tt (Hd.A3,Hd.G3)=true:=by k_qdec
theorem rA3:∀ w,Fast.tw447134267514248570 w=Hd.G3 w:=fun w=>by kernel_rfl
theorem eA3 (w:World) (os:OsState):Hd.A3 w os=Hd.G3 w os:=(congrFun (congrFun Fast.te447134267514248570 w) os).trans (congrFun (rA3 w) os)
def A4 (w:World) (os:OsState):=(A w os).2.2.2.2.1
def G4 (w:World) (os:OsState):=(G w os).2.2.2.2.1
theorem qA4:tt (Hd.A4,Hd.G4)=true:=by k_qdec
theorem rA4:∀ w,Fast.tw14409291123802741499 w=Hd.G4 w:=fun w=>by kernel_rfl
theorem eA4 (w:World) (os:OsState):Hd.A4 w os=Hd.G4 w os:=(congrFun (congrFun Fast.te14409291123802741499 w) os).trans (congrFun (rA4 w) os)
def A5 (w:World) (os:OsState):=(A w os).2.2.2.2.2.1
def G5 (w:World) (os:OsState):=(G w os).2.2.2.2.2.1
theorem qA5:tt (Hd.A5,Hd.G5)=true:=by k_qdec
theorem rA5:∀ w,Fast.tw7163156141784225904 w=Hd.G5 w:=fun w=>by kernel_rfl
theorem eA5 (w:World) (os:OsState):Hd.A5 w os=Hd.G5 w os:=(congrFun (congrFun Fast.te7163156141784225904 w) os).trans (congrFun (rA5 w) os)
def A6 (w:World) (os:OsState):=(A w os).2.2.2.2.2.2.1
def G6 (w:World) (os:OsState):=(G w os).2.2.2.2.2.2.1
theorem qA6:tt (Hd.A6,Hd.G6)=true:=by k_qdec
theorem rA6:∀ w,Fast.tw148487786646926683 w=Hd.G6 w:=fun w=>by kernel_rfl
theorem eA6 (w:World) (os:OsState):Hd.A6 w os=Hd.G6 w os:=(congrFun (congrFun Fast.te148487786646926683 w) os).trans (congrFun (rA6 w) os)
def A7 (w:World) (os:OsState):=(A w os).2.2.2.2.2.2.2.1
def G7 (w:World) (os:OsState):=(G w os).2.2.2.2.2.2.2.1
theorem qA7:tt (Hd.A7,Hd.G7)=true:=by k_qdec
theorem rA7:∀ w,Fast.tw17782257788342479682 w=Hd.G7 w:=fun w=>by kernel_rfl
theorem eA7 (w:World) (os:OsState):Hd.A7 w os=Hd.G7 w os:=(congrFun (congrFun Fast.te17782257788342479682 w) os).trans (congrFun (rA7 w) os)
def A8 (w:World) (os:OsState):=(A w os).2.2.2.2.2.2.2.2
def G8 (w:World) (os:OsState):=(G w os).2.2.2.2.2.2.2.2
theorem qA8:tt (Hd.A8,Hd.G8)=true:=by k_qdec
theorem rA8:∀ w,Fast.tw8885869309975874061 w=Hd.G8 w:=fun w=>by kernel_rfl
theorem eA8 (w:World) (os:OsState):Hd.A8 w os=Hd.G8 w os:=(congrFun (congrFun Fast.te8885869309975874061 w) os).trans (congrFun (rA8 w) os)
def Ls (w:World) (os:OsState):Bool:=staticsOk zlz (boot_heap w.params) (H1 w.params)&&namesBound pw (H1 w.params)&&gensDone (sf w os)&&laidKept (boot_heap w.params) (H1 w.params)
def Rs (_:World) (_:OsState):Bool:=true
def Lz (w:World) (_:OsState):=((boot_heap w.params).isNs mainGlobals&&(⟨[]⟩:Array GenState).size == 0,(boot_heap w.params).objs.size,(boot_heap w.params).nsMap mainGlobals "__annotations__")
def Rz (_:World) (_:OsState):Bool×Nat×Option Value:=(true,11,an)
theorem qs:tt Hd.Ls=true:=by k_qdec
theorem rs:∀ w,Fast.tw4959303863618478765 w=Hd.Rs w:=fun w=>by kernel_rfl
theorem es (w:World) (os:OsState):Hd.Ls w os=Hd.Rs w os:=(congrFun (congrFun Fast.te4959303863618478765 w) os).trans (congrFun (rs w) os)
theorem qz:tt Hd.Lz=true:=by k_qdec
theorem rz:∀ w,Fast.tw17831390912981975158 w=Hd.Rz w:=fun w=>by kernel_rfl
theorem ez (w:World) (os:OsState):Hd.Lz w os=Hd.Rz w os:=(congrFun (congrFun Fast.te17831390912981975158 w) os).trans (congrFun (rz w) os)
theorem op:opening pw=plainProg pw.main.scope.names:=by kernel_rfl
theorem fe (s:Shared):fenceModules? pw s=some s:=by kernel_rfl
theorem left:LeftO pw Q [] Xt hk.obs hk.val 6618 :=
 LeftO.of_pieces (M:=M) (m₀:=11) (ann:=an) (H₀:=boot_heap) (H₁:=H1) (boot_open op (by kernel_rfl) fe) (fun w=>ez w (start pw).1.os) run (by kernel_rfl) (fun w=>funext fun os=>looks_pair (es w os) (looks_pair
  (Prod.ext (eA0 w os) (Prod.ext (eA1 w os) (Prod.ext (eA2 w os) (Prod.ext (eA3 w os) (Prod.ext (eA4 w os) (Prod.ext (eA5 w os) (Prod.ext (eA6 w os) (Prod.ext (eA7 w os) (eA8 w os)))))))))
  (ey w os)))
theorem both {a b:Bool}(z:(a&&b)=true):a=true∧b=true:=Bool.and_eq_true_iff.mp z
end Hd
end
namespace K04
open PySem L2
open PySem.W (nsIn findIn isFn codeIn keepIn plainGet hasDictIn plainOver makesIn mroIn specialIn takesIn kitOne mg_of mg_none_of excIn)
theorem txt_mk {w:World}{K:PySem.W.Frag}{h:Heap}{mg:Str→Option Value}(X:K.In h) (G:h.Ns mainGlobals mg)
  {f_qa f_qb f_qc f_qd f_qe f_qf f_qg f_qh f_qi f_qj f_qk f_ql f_qm f_qn f_qo f_qp f_qq f_qr f_qs f_qt f_qu f_qv f_qw f_qx f_qy f_qz f_qA f_qB f_qC f_qD f_qE f_qF f_qG f_qH f_qI f_qJ f_qK f_qL f_qM f_qN f_qO f_qP f_qQ f_qR f_qS f_qT f_qU f_qV f_qW c_Way c_Web c_NoWay c_BeatlessError c_NoHand c_NoProgram c_NoWeb:Addr}{t_MOST_HANDS:Tok}{t_LAST_HAND:Tok}
  (z_len:nsIn K mainGlobals "len" = some none)
  (z_int:nsIn K mainGlobals "int" = some none)
  (z_range:nsIn K mainGlobals "range" = some none)
  (z_isinstance:nsIn K mainGlobals "isinstance" = some none)
  (z_list:nsIn K mainGlobals "list" = some none)
  (z_dict:nsIn K mainGlobals "dict" = some none)
  (z_sorted:nsIn K mainGlobals "sorted" = some none)
  (z_bool:nsIn K mainGlobals "bool" = some none)
  (z_tuple:nsIn K mainGlobals "tuple" = some none)
  (z_reversed:nsIn K mainGlobals "reversed" = some none)
  (z_ValueError:nsIn K mainGlobals "ValueError" = some none)
  (A_Way:nsIn K mainGlobals "Way" = some (some (.ref c_Way)))
  (A_Web:nsIn K mainGlobals "Web" = some (some (.ref c_Web)))
  (a_0:nsIn K mainGlobals "is_whole" = some (some (.ref f_qa)))
  (a_1:nsIn K mainGlobals "copied" = some (some (.ref f_qb)))
  (a_2:nsIn K mainGlobals "are_parents" = some (some (.ref f_qc)))
  (a_3:nsIn K mainGlobals "come_to_leaders" = some (some (.ref f_qd)))
  (a_4:nsIn K mainGlobals "is_bridge" = some (some (.ref f_qe)))
  (a_5:nsIn K mainGlobals "are_bridges" = some (some (.ref f_qf)))
  (a_6:nsIn K mainGlobals "is_grounded" = some (some (.ref f_qg)))
  (a_7:nsIn K mainGlobals "first_joins" = some (some (.ref f_qh)))
  (a_8:nsIn K mainGlobals "lets" = some (some (.ref f_qi)))
  (a_9:nsIn K mainGlobals "refuse_unlet" = some (some (.ref f_qj)))
  (a_10:nsIn K mainGlobals "next_ring" = some (some (.ref f_qk)))
  (a_11:nsIn K mainGlobals "parents_in_cluster" = some (some (.ref f_ql)))
  (a_12:nsIn K mainGlobals "by_clusters" = some (some (.ref f_qm)))
  (a_13:nsIn K mainGlobals "road_within" = some (some (.ref f_qn)))
  (a_14:nsIn K mainGlobals "road_over" = some (some (.ref f_qo)))
  (a_15:nsIn K mainGlobals "bridges_by_leaders" = some (some (.ref f_qp)))
  (a_16:nsIn K mainGlobals "roads_for" = some (some (.ref f_qq)))
  (a_17:nsIn K mainGlobals "pairs_of" = some (some (.ref f_qr)))
  (a_18:nsIn K mainGlobals "roads" = some (some (.ref f_qs)))
  (a_19:nsIn K mainGlobals "are_hands" = some (some (.ref f_qt)))
  (a_20:nsIn K mainGlobals "is_line" = some (some (.ref f_qu)))
  (a_21:nsIn K mainGlobals "are_lines" = some (some (.ref f_qv)))
  (a_22:nsIn K mainGlobals "near_by_hand" = some (some (.ref f_qw)))
  (a_23:nsIn K mainGlobals "_law_cell_at" = some (some (.ref f_qx)))
  (a_24:nsIn K mainGlobals "_law_draws" = some (some (.ref f_qy)))
  (a_25:nsIn K mainGlobals "_law_take" = some (some (.ref f_qz)))
  (a_26:nsIn K mainGlobals "_law_hands" = some (some (.ref f_qA)))
  (a_27:nsIn K mainGlobals "_law_lines" = some (some (.ref f_qB)))
  (a_28:nsIn K mainGlobals "_law_web_drawn" = some (some (.ref f_qC)))
  (a_29:nsIn K mainGlobals "_law_near" = some (some (.ref f_qD)))
  (a_30:nsIn K mainGlobals "_law_up" = some (some (.ref f_qE)))
  (a_31:nsIn K mainGlobals "_law_both" = some (some (.ref f_qF)))
  (a_32:nsIn K mainGlobals "_law_drawn_way" = some (some (.ref f_qG)))
  (a_33:nsIn K mainGlobals "_law_roads" = some (some (.ref f_qH)))
  (a_34:nsIn K mainGlobals "_law_refused" = some (some (.ref f_qI)))
  (a_35:nsIn K mainGlobals "_law_right" = some (some (.ref f_qJ)))
  (a_36:nsIn K mainGlobals "law" = some (some (.ref f_qK)))
  (a_37:findIn K (.ref c_Way) "__init__" = some (some (.ref f_qL)))
  (i_37:isFn K (.ref f_qL)=true)
  (a_38:findIn K (.ref c_Way) "parent_of" = some (some (.ref f_qM)))
  (i_38:isFn K (.ref f_qM)=true)
  (a_39:findIn K (.ref c_Way) "all_parents" = some (some (.ref f_qN)))
  (i_39:isFn K (.ref f_qN)=true)
  (a_40:findIn K (.ref c_Way) "all_bridges" = some (some (.ref f_qO)))
  (i_40:isFn K (.ref f_qO)=true)
  (a_41:findIn K (.ref c_Way) "path_up" = some (some (.ref f_qP)))
  (i_41:isFn K (.ref f_qP)=true)
  (a_42:findIn K (.ref c_Way) "leader" = some (some (.ref f_qQ)))
  (i_42:isFn K (.ref f_qQ)=true)
  (a_43:findIn K (.ref c_Web) "__init__" = some (some (.ref f_qR)))
  (i_43:isFn K (.ref f_qR)=true)
  (a_44:findIn K (.ref c_Web) "hands" = some (some (.ref f_qS)))
  (i_44:isFn K (.ref f_qS)=true)
  (a_45:findIn K (.ref c_Web) "lines" = some (some (.ref f_qT)))
  (i_45:isFn K (.ref f_qT)=true)
  (a_46:findIn K (.ref c_Web) "has_hand" = some (some (.ref f_qU)))
  (i_46:isFn K (.ref f_qU)=true)
  (a_47:findIn K (.ref c_Web) "has_line" = some (some (.ref f_qV)))
  (i_47:isFn K (.ref f_qV)=true)
  (a_48:findIn K (.ref c_Web) "neighbours" = some (some (.ref f_qW)))
  (i_48:isFn K (.ref f_qW)=true)
  (F_0:∃ d,Fun K "is_whole" "is_whole" Wq f_qa d)
  (F_1:∃ d,Fun K "copied" "copied" Wp f_qb d)
  (F_2:∃ d,Fun K "are_parents" "are_parents" Wo f_qc d)
  (F_3:∃ d,Fun K "come_to_leaders" "come_to_leaders" Wn f_qd d)
  (F_4:∃ d,Fun K "is_bridge" "is_bridge" Wm f_qe d)
  (F_5:∃ d,Fun K "are_bridges" "are_bridges" Wl f_qf d)
  (F_6:∃ d,Fun K "is_grounded" "is_grounded" Wk f_qg d)
  (F_7:∃ d,Fun K "first_joins" "first_joins" Wj f_qh d)
  (F_8:∃ d,Fun K "lets" "lets" Wi f_qi d)
  (F_9:∃ d,Fun K "refuse_unlet" "refuse_unlet" Wh f_qj d)
  (F_10:∃ d,Fun K "next_ring" "next_ring" Wg f_qk d)
  (F_11:∃ d,Fun K "parents_in_cluster" "parents_in_cluster" Wf f_ql d)
  (F_12:∃ d,Fun K "by_clusters" "by_clusters" We f_qm d)
  (F_13:∃ d,Fun K "road_within" "road_within" Wd f_qn d)
  (F_14:∃ d,Fun K "road_over" "road_over" Wc f_qo d)
  (F_15:∃ d,Fun K "bridges_by_leaders" "bridges_by_leaders" Wb f_qp d)
  (F_16:∃ d,Fun K "roads_for" "roads_for" Wa f_qq d)
  (F_17:∃ d,Fun K "pairs_of" "pairs_of" X9 f_qr d)
  (F_18:∃ d,Fun K "roads" "roads" X8 f_qs d)
  (F_19:∃ d,Fun K "are_hands" "are_hands" X7 f_qt d)
  (F_20:∃ d,Fun K "is_line" "is_line" X6 f_qu d)
  (F_21:∃ d,Fun K "are_lines" "are_lines" X1 f_qv d)
  (F_22:∃ d,Fun K "near_by_hand" "near_by_hand" X0 f_qw d)
  (F_23:∃ d,Fun K "_law_cell_at" "_law_cell_at" XZ f_qx d)
  (F_24:∃ d,Fun K "_law_draws" "_law_draws" XY f_qy d)
  (F_25:∃ d,Fun K "_law_take" "_law_take" YD f_qz d)
  (F_26:∃ d,Fun K "_law_hands" "_law_hands" WK f_qA d)
  (F_27:∃ d,Fun K "_law_lines" "_law_lines" WJ f_qB d)
  (F_28:∃ d,Fun K "_law_web_drawn" "_law_web_drawn" WI f_qC d)
  (F_29:∃ d,Fun K "_law_near" "_law_near" WH f_qD d)
  (F_30:∃ d,Fun K "_law_up" "_law_up" WG f_qE d)
  (F_31:∃ d,Fun K "_law_both" "_law_both" WF f_qF d)
  (F_32:∃ d,Fun K "_law_drawn_way" "_law_drawn_way" YG f_qG d)
  (F_33:∃ d,Fun K "_law_roads" "_law_roads" WE f_qH d)
  (F_34:∃ d,Fun K "_law_refused" "_law_refused" WD f_qI d)
  (F_35:∃ d,Fun K "_law_right" "_law_right" YF f_qJ d)
  (F_36:∃ d,Fun K "law" "law" YE f_qK d)
  (F_37:∃ d,Fun K "__init__" "Way.__init__" WC f_qL d)
  (F_38:∃ d,Fun K "parent_of" "Way.parent_of" WB f_qM d)
  (F_39:∃ d,Fun K "all_parents" "Way.all_parents" WA f_qN d)
  (F_40:∃ d,Fun K "all_bridges" "Way.all_bridges" Wz f_qO d)
  (F_41:∃ d,Fun K "path_up" "Way.path_up" Wy f_qP d)
  (F_42:∃ d,Fun K "leader" "Way.leader" Wx f_qQ d)
  (F_43:∃ d,Fun K "__init__" "Web.__init__" Ww f_qR d)
  (F_44:∃ d,Fun K "hands" "Web.hands" Wv f_qS d)
  (F_45:∃ d,Fun K "lines" "Web.lines" Wu f_qT d)
  (F_46:∃ d,Fun K "has_hand" "Web.has_hand" Wt f_qU d)
  (F_47:∃ d,Fun K "has_line" "Web.has_line" Ws f_qV d)
  (F_48:∃ d,Fun K "neighbours" "Web.neighbours" Wr f_qW d)
  (pg_Way:plainGet K c_Way Str.empty=true)
  (hd_Way:hasDictIn K c_Way=true)
  (po_Way:plainOver K c_Way=true)
  (sa_Way:findIn K (.ref c_Way) "__setattr__" = some (some (.builtin "object.__setattr__")))
  (mk_Way:makesIn K c_Way=true)
  (kc_Way:keepIn K (.ref c_Way)=true)
  (ha_Way:findIn K (.ref c_Way) "__class__" = some (some (.builtin "object.__class__")))
  (hm_Way:mroIn K c_Way (.type "object")=some true)
  (na_Way_own_parents:findIn K (.ref c_Way) "own_parents" = some none)
  (na_Way_own_bridges:findIn K (.ref c_Way) "own_bridges" = some none)
  (pg_Web:plainGet K c_Web Str.empty=true)
  (hd_Web:hasDictIn K c_Web=true)
  (po_Web:plainOver K c_Web=true)
  (sa_Web:findIn K (.ref c_Web) "__setattr__" = some (some (.builtin "object.__setattr__")))
  (mk_Web:makesIn K c_Web=true)
  (kc_Web:keepIn K (.ref c_Web)=true)
  (ha_Web:findIn K (.ref c_Web) "__class__" = some (some (.builtin "object.__class__")))
  (hm_Web:mroIn K c_Web (.type "object")=some true)
  (na_Web_own_hands:findIn K (.ref c_Web) "own_hands" = some none)
  (na_Web_own_lines:findIn K (.ref c_Web) "own_lines" = some none)
  (na_Web_near:findIn K (.ref c_Web) "near" = some none)
  (hn:specialIn K (.builtin "object.__class__") "__get__" = some (some (.builtin "getset_descriptor.__get__")))
  (htk:takesIn K (.builtin "object.__class__")=some true)
  (A_NoHand:nsIn K mainGlobals "NoHand" = some (some (.ref c_NoHand)))
  (A_NoProgram:nsIn K mainGlobals "NoProgram" = some (some (.ref c_NoProgram)))
  (A_NoWeb:nsIn K mainGlobals "NoWeb" = some (some (.ref c_NoWeb)))
  (A_NoWay:nsIn K mainGlobals "NoWay" = some (some (.ref c_NoWay)))
  (X_NoWay:excIn K c_NoWay ug "ValueError.__new__" = true)
  (A_BeatlessError:nsIn K mainGlobals "BeatlessError" = some (some (.ref c_BeatlessError)))
  (X_BeatlessError:excIn K c_BeatlessError ug "ValueError.__new__" = true)
  (xga_NoWay:findIn K (.ref c_NoWay) "__getattribute__" = some (some (.builtin "BaseException.__getattribute__")))
  (xgt_NoWay:findIn K (.ref c_NoWay) "__getattr__" = some none)
  (xha_NoWay:findIn K (.ref c_NoWay) "__class__" = some (some (.builtin "object.__class__")))
  (xhm_NoWay:mroIn K c_NoWay (.type "object")=some true)
  (xhb_NoWay:mroIn K c_NoWay (.type "BaseException")=some true)
  (xhd_NoWay:hasDictIn K c_NoWay=true)
  (Y_NoWay_BeatlessError:VT K c_NoWay c_BeatlessError=some true)
  (k_tint_tint:kitOne K (.type "int") (.type "int")=some true)
  (k_tint_tbool:kitOne K (.type "int") (.type "bool")=some false)
  (k_tlist_tlist:kitOne K (.type "list") (.type "list")=some true)
  (k_ttuple_ttuple:kitOne K (.type "tuple") (.type "tuple")=some true)
  (k_ttuple_tlist:kitOne K (.type "tuple") (.type "list")=some false)
  (k_tdict_tlist:kitOne K (.type "dict") (.type "list")=some false)
  (k_tdict_ttuple:kitOne K (.type "dict") (.type "tuple")=some false)
  (k_tdict_tdict:kitOne K (.type "dict") (.type "dict")=some true)
  (k_tint_tlist:kitOne K (.type "int") (.type "list")=some false)
  (k_tint_ttuple:kitOne K (.type "int") (.type "tuple")=some false)
  (k_tint_tdict:kitOne K (.type "int") (.type "dict")=some false)
  (k_tNoneType_tlist:kitOne K (.type "NoneType") (.type "list")=some false)
  (k_tNoneType_ttuple:kitOne K (.type "NoneType") (.type "tuple")=some false)
  (k_tNoneType_tdict:kitOne K (.type "NoneType") (.type "dict")=some false)
  (k_tNoneType_tint:kitOne K (.type "NoneType") (.type "int")=some false)
  (k_tstr_tint:kitOne K (.type "str") (.type "int")=some false)
  (k_Way_Way:kitOne K (.ref c_Way) (.ref c_Way)=some true)
  (k_tbool_tbool:kitOne K (.type "bool") (.type "bool")=some true)
  (k_NoWay_NoHand:kitOne K (.ref c_NoWay) (.ref c_NoHand)=some false)
  (k_NoWay_NoProgram:kitOne K (.ref c_NoWay) (.ref c_NoProgram)=some false)
  (k_NoWay_NoWeb:kitOne K (.ref c_NoWay) (.ref c_NoWeb)=some false)
  (k_NoWay_tValueError:kitOne K (.ref c_NoWay) (.type "ValueError")=some true)
  (k_NoWay_NoWay:kitOne K (.ref c_NoWay) (.ref c_NoWay)=some true)
  (G_MOST_HANDS:nsIn K mainGlobals "MOST_HANDS" = some (some (.int 12 t_MOST_HANDS)))
  (G_LAST_HAND:nsIn K mainGlobals "LAST_HAND" = some (some (.int 99 t_LAST_HAND))) :
  ∃ a:Ad,Txt w K mg a:=by
 obtain⟨d0,F0⟩:=F_0
 obtain⟨d1,F1⟩:=F_1
 obtain⟨d2,F2⟩:=F_2
 obtain⟨d3,F3⟩:=F_3
 obtain⟨d4,F4⟩:=F_4
 obtain⟨d5,F5⟩:=F_5
 obtain⟨d6,F6⟩:=F_6
 obtain⟨d7,F7⟩:=F_7
 obtain⟨d8,F8⟩:=F_8
 obtain⟨d9,F9⟩:=F_9
 obtain⟨d10,F10⟩:=F_10
 obtain⟨d11,F11⟩:=F_11
 obtain⟨d12,F12⟩:=F_12
 obtain⟨d13,F13⟩:=F_13
 obtain⟨d14,F14⟩:=F_14
 obtain⟨d15,F15⟩:=F_15
 obtain⟨d16,F16⟩:=F_16
 obtain⟨d17,F17⟩:=F_17
 obtain⟨d18,F18⟩:=F_18
 obtain⟨d19,F19⟩:=F_19
 obtain⟨d20,F20⟩:=F_20
 obtain⟨d21,F21⟩:=F_21
 obtain⟨d22,F22⟩:=F_22
 obtain⟨d23,F23⟩:=F_23
 obtain⟨d24,F24⟩:=F_24
 obtain⟨d25,F25⟩:=F_25
 obtain⟨d26,F26⟩:=F_26
 obtain⟨d27,F27⟩:=F_27
 obtain⟨d28,F28⟩:=F_28
 obtain⟨d29,F29⟩:=F_29
 obtain⟨d30,F30⟩:=F_30
 obtain⟨d31,F31⟩:=F_31
 obtain⟨d32,F32⟩:=F_32
 obtain⟨d33,F33⟩:=F_33
 obtain⟨d34,F34⟩:=F_34
 obtain⟨d35,F35⟩:=F_35
 obtain⟨d36,F36⟩:=F_36
 obtain⟨d37,F37⟩:=F_37
 obtain⟨d38,F38⟩:=F_38
 obtain⟨d39,F39⟩:=F_39
 obtain⟨d40,F40⟩:=F_40
 obtain⟨d41,F41⟩:=F_41
 obtain⟨d42,F42⟩:=F_42
 obtain⟨d43,F43⟩:=F_43
 obtain⟨d44,F44⟩:=F_44
 obtain⟨d45,F45⟩:=F_45
 obtain⟨d46,F46⟩:=F_46
 obtain⟨d47,F47⟩:=F_47
 obtain⟨d48,F48⟩:=F_48
 refine⟨⟨f_qa,d0,f_qb,d1,f_qc,d2,f_qd,d3,f_qe,d4,f_qf,d5,f_qg,d6,f_qh,d7,f_qi,d8,f_qj,d9,f_qk,d10,f_ql,d11,f_qm,d12,f_qn,d13,f_qo,d14,f_qp,d15,f_qq,d16,f_qr,d17,f_qs,d18,f_qt,d19,f_qu,d20,f_qv,d21,f_qw,d22,f_qx,d23,f_qy,d24,f_qz,d25,f_qA,d26,f_qB,d27,f_qC,d28,f_qD,d29,f_qE,d30,f_qF,d31,f_qG,d32,f_qH,d33,f_qI,d34,f_qJ,d35,f_qK,d36,f_qL,d37,f_qM,d38,f_qN,d39,f_qO,d40,f_qP,d41,f_qQ,d42,f_qR,d43,f_qS,d44,f_qT,d45,f_qU,d46,f_qV,d47,f_qW,d48,c_Way,c_Web,c_NoWay,c_BeatlessError,c_NoHand,c_NoProgram,c_NoWeb,t_MOST_HANDS,t_LAST_HAND⟩,?_⟩
 exact⟨mg_none_of X G z_len,
  mg_none_of X G z_int,
  mg_none_of X G z_range,
  mg_none_of X G z_isinstance,
  mg_none_of X G z_list,
  mg_none_of X G z_dict,
  mg_none_of X G z_sorted,
  mg_none_of X G z_bool,
  mg_none_of X G z_tuple,
  mg_none_of X G z_reversed,
  mg_none_of X G z_ValueError,
  F0,
  F0.binds fun _ _ _ _ _ _ us hl=>match us,hl with | [_],_=>rfl,
  mg_of X G a_0,
  F1,
  F1.binds fun _ _ _ _ _ _ us hl=>match us,hl with | [_],_=>rfl,
  mg_of X G a_1,
  F2,
  F2.binds fun _ _ _ _ _ _ us hl=>match us,hl with | [_,_],_=>rfl,
  mg_of X G a_2,
  F3,
  F3.binds fun _ _ _ _ _ _ us hl=>match us,hl with | [_,_],_=>rfl,
  mg_of X G a_3,
  F4,
  F4.binds fun _ _ _ _ _ _ us hl=>match us,hl with | [_,_,_],_=>rfl,
  mg_of X G a_4,
  F5,
  F5.binds fun _ _ _ _ _ _ us hl=>match us,hl with | [_,_,_],_=>rfl,
  mg_of X G a_5,
  F6,
  F6.binds fun _ _ _ _ _ _ us hl=>match us,hl with | [_,_],_=>rfl,
  mg_of X G a_6,
  F7,
  F7.binds fun _ _ _ _ _ _ us hl=>match us,hl with | [_,_],_=>rfl,
  mg_of X G a_7,
  F8,
  F8.binds fun _ _ _ _ _ _ us hl=>match us,hl with | [_,_],_=>rfl,
  mg_of X G a_8,
  F9,
  F9.binds fun _ _ _ _ _ _ us hl=>match us,hl with | [_,_],_=>rfl,
  mg_of X G a_9,
  F10,
  F10.binds fun _ _ _ _ _ _ us hl=>match us,hl with | [_,_,_,_],_=>rfl,
  mg_of X G a_10,
  F11,
  F11.binds fun _ _ _ _ _ _ us hl=>match us,hl with | [_,_,_],_=>rfl,
  mg_of X G a_11,
  F12,
  F12.binds fun _ _ _ _ _ _ us hl=>match us,hl with | [_,_],_=>rfl,
  mg_of X G a_12,
  F13,
  F13.binds fun _ _ _ _ _ _ us hl=>match us,hl with | [_,_,_],_=>rfl,
  mg_of X G a_13,
  F14,
  F14.binds fun _ _ _ _ _ _ us hl=>match us,hl with | [_,_,_,_],_=>rfl,
  mg_of X G a_14,
  F15,
  F15.binds fun _ _ _ _ _ _ us hl=>match us,hl with | [_],_=>rfl,
  mg_of X G a_15,
  F16,
  F16.binds fun _ _ _ _ _ _ us hl=>match us,hl with | [_,_,_,_],_=>rfl,
  mg_of X G a_16,
  F17,
  F17.binds fun _ _ _ _ _ _ us hl=>match us,hl with | [_],_=>rfl,
  mg_of X G a_17,
  F18,
  F18.binds fun _ _ _ _ _ _ us hl=>match us,hl with | [_,_],_=>rfl,
  mg_of X G a_18,
  F19,
  F19.binds fun _ _ _ _ _ _ us hl=>match us,hl with | [_],_=>rfl,
  mg_of X G a_19,
  F20,
  F20.binds fun _ _ _ _ _ _ us hl=>match us,hl with | [_,_],_=>rfl,
  mg_of X G a_20,
  F21,
  F21.binds fun _ _ _ _ _ _ us hl=>match us,hl with | [_,_],_=>rfl,
  mg_of X G a_21,
  F22,
  F22.binds fun _ _ _ _ _ _ us hl=>match us,hl with | [_,_],_=>rfl,
  mg_of X G a_22,
  F23,
  F23.binds fun _ _ _ _ _ _ us hl=>match us,hl with | [_,_],_=>rfl,
  mg_of X G a_23,
  F24,
  F24.binds fun _ _ _ _ _ _ us hl=>match us,hl with | [_,_],_=>rfl,
  mg_of X G a_24,
  F25,
  F25.binds fun _ _ _ _ _ _ us hl=>match us,hl with | [_,_],_=>rfl,
  mg_of X G a_25,
  F26,
  F26.binds fun _ _ _ _ _ _ us hl=>match us,hl with | [_,_],_=>rfl,
  mg_of X G a_26,
  F27,
  F27.binds fun _ _ _ _ _ _ us hl=>match us,hl with | [_,_],_=>rfl,
  mg_of X G a_27,
  F28,
  F28.binds fun _ _ _ _ _ _ us hl=>match us,hl with | [_],_=>rfl,
  mg_of X G a_28,
  F29,
  F29.binds fun _ _ _ _ _ _ us hl=>match us,hl with | [_,_],_=>rfl,
  mg_of X G a_29,
  F30,
  F30.binds fun _ _ _ _ _ _ us hl=>match us,hl with | [_,_],_=>rfl,
  mg_of X G a_30,
  F31,
  F31.binds fun _ _ _ _ _ _ us hl=>match us,hl with | [_,_,_],_=>rfl,
  mg_of X G a_31,
  F32,
  F32.binds fun _ _ _ _ _ _ us hl=>match us,hl with | [_,_,_],_=>rfl,
  mg_of X G a_32,
  F33,
  F33.binds fun _ _ _ _ _ _ us hl=>match us,hl with | [_,_,_,_],_=>rfl,
  mg_of X G a_33,
  F34,
  F34.binds fun _ _ _ _ _ _ us hl=>match us,hl with | [_,_],_=>rfl,
  mg_of X G a_34,
  F35,
  F35.binds fun _ _ _ _ _ _ us hl=>match us,hl with | [_,_,_,_,_],_=>rfl,
  mg_of X G a_35,
  F36,
  F36.binds fun _ _ _ _ _ _ us hl=>match us,hl with | [_],_=>rfl,
  by obtain⟨_,_,_,_,_,_,_,_,_,rfl,_,_⟩:=F36.ex;exact fun s v=>.of_eq rfl,
  mg_of X G a_36,
  F37,
  F37.binds fun _ _ _ _ _ _ us hl=>match us,hl with | [_,_,_],_=>rfl,
  F38,
  F38.binds fun _ _ _ _ _ _ us hl=>match us,hl with | [_,_],_=>rfl,
  ⟨a_38,i_38,F38.kp⟩,
  F39,
  F39.binds fun _ _ _ _ _ _ us hl=>match us,hl with | [_],_=>rfl,
  ⟨a_39,i_39,F39.kp⟩,
  F40,
  F40.binds fun _ _ _ _ _ _ us hl=>match us,hl with | [_],_=>rfl,
  ⟨a_40,i_40,F40.kp⟩,
  F41,
  F41.binds fun _ _ _ _ _ _ us hl=>match us,hl with | [_,_],_=>rfl,
  ⟨a_41,i_41,F41.kp⟩,
  F42,
  F42.binds fun _ _ _ _ _ _ us hl=>match us,hl with | [_,_],_=>rfl,
  ⟨a_42,i_42,F42.kp⟩,
  F43,
  F43.binds fun _ _ _ _ _ _ us hl=>match us,hl with | [_,_,_],_=>rfl,
  F44,
  F44.binds fun _ _ _ _ _ _ us hl=>match us,hl with | [_],_=>rfl,
  ⟨a_44,i_44,F44.kp⟩,
  F45,
  F45.binds fun _ _ _ _ _ _ us hl=>match us,hl with | [_],_=>rfl,
  ⟨a_45,i_45,F45.kp⟩,
  F46,
  F46.binds fun _ _ _ _ _ _ us hl=>match us,hl with | [_,_],_=>rfl,
  ⟨a_46,i_46,F46.kp⟩,
  F47,
  F47.binds fun _ _ _ _ _ _ us hl=>match us,hl with | [_,_,_],_=>rfl,
  ⟨a_47,i_47,F47.kp⟩,
  F48,
  F48.binds fun _ _ _ _ _ _ us hl=>match us,hl with | [_,_],_=>rfl,
  ⟨a_48,i_48,F48.kp⟩,
  mg_of X G A_Way,
  ⟨pg_Way,hd_Way,po_Way,sa_Way⟩,
  ⟨mk_Way,a_37,i_37,kc_Way⟩,
  fun H p dx fs e=>.ins e ⟨pg_Way,hd_Way,po_Way,sa_Way⟩ ha_Way hn htk hm_Way,
  na_Way_own_parents,
  na_Way_own_bridges,
  mg_of X G A_Web,
  ⟨pg_Web,hd_Web,po_Web,sa_Web⟩,
  ⟨mk_Web,a_43,i_43,kc_Web⟩,
  fun H p dx fs e=>.ins e ⟨pg_Web,hd_Web,po_Web,sa_Web⟩ ha_Web hn htk hm_Web,
  na_Web_own_hands,
  na_Web_own_lines,
  na_Web_near,
  k_tint_tint,
  k_tint_tbool,
  k_tlist_tlist,
  k_ttuple_ttuple,
  k_ttuple_tlist,
  k_tdict_tlist,
  k_tdict_ttuple,
  k_tdict_tdict,
  k_tint_tlist,
  k_tint_ttuple,
  k_tint_tdict,
  k_tNoneType_tlist,
  k_tNoneType_ttuple,
  k_tNoneType_tdict,
  k_tNoneType_tint,
  k_tstr_tint,
  k_Way_Way,
  k_tbool_tbool,
  k_NoWay_NoHand,
  k_NoWay_NoProgram,
  k_NoWay_NoWeb,
  k_NoWay_tValueError,
  k_NoWay_NoWay,
  mg_of X G G_MOST_HANDS,
  mg_of X G G_LAST_HAND,
  mg_of X G A_NoWay,
  X_NoWay,
  mg_of X G A_BeatlessError,
  X_BeatlessError,
  mg_of X G A_NoHand,
  mg_of X G A_NoProgram,
  mg_of X G A_NoWeb,
  ⟨xga_NoWay,xgt_NoWay,xha_NoWay,hn,htk,xhm_NoWay,xhb_NoWay,xhd_NoWay⟩,
  Y_NoWay_BeatlessError⟩
end K04
open PySem PySem.W PyProof.Rows
set_option maxRecDepth 100000 in
set_option maxHeartbeats 0 in
theorem PySem.Challenge.cw_beatless_k31_roads_told_holds : PySem.Challenge.rw_beatless_k31_roads_told.Holds := by
 w_on;o_law
 refine holds_open (XP:=XL Hd.Q []) (YP:=(kHook Hd.K Hd.as Hd.asK).says) Hd.left Hd.hk.of Hd.hk.keeps
  (fun s z=>xl_of s (Hd.both z).1) XL.keeps (by rfl) (by rfl) (by rfl)
  (fun s z=>recFacts_of (Hd.both z).2) (by rfl) (by assumption) (by decide +kernel)
  ⟨rfl,rfl,rfl,rfl,rfl,by decide +kernel⟩ ?hw ?hc
 case hw=>w_witness2
 k_fill
 refine L2.walk_ofK (l:=PySem.Challenge.rw_beatless_k31_roads_told) (n:=63) (k:=26) (x := "_law_script") (CX:=L2.CX0) (sp:=K04.spLaw) rfl (by decide) rfl ⟨rfl,by decide,by decide⟩ (fun w h Y=>PySem.W.kIn_of Y) ?F ?S ?C
 case F =>
  intro w mg fa h KX G hmg
  have T:∃ a,K04.Txt w (L2.KOf KX) mg a:=by
   dsimp only[L2.KOf]
   refine' K04.txt_mk KX G ?z_len ?z_int ?z_range ?z_isinstance ?z_list ?z_dict ?z_sorted ?z_bool ?z_tuple ?z_reversed ?z_ValueError ?A_Way ?A_Web ?a_0 ?a_1 ?a_2 ?a_3 ?a_4 ?a_5 ?a_6 ?a_7 ?a_8 ?a_9 ?a_10 ?a_11 ?a_12 ?a_13 ?a_14 ?a_15 ?a_16 ?a_17 ?a_18 ?a_19 ?a_20 ?a_21 ?a_22 ?a_23 ?a_24 ?a_25 ?a_26 ?a_27 ?a_28 ?a_29 ?a_30 ?a_31 ?a_32 ?a_33 ?a_34 ?a_35 ?a_36 ?a_37 ?i_37 ?a_38 ?i_38 ?a_39 ?i_39 ?a_40 ?i_40 ?a_41 ?i_41 ?a_42 ?i_42 ?a_43 ?i_43 ?a_44 ?i_44 ?a_45 ?i_45 ?a_46 ?i_46 ?a_47 ?i_47 ?a_48 ?i_48 ?F_0 ?F_1 ?F_2 ?F_3 ?F_4 ?F_5 ?F_6 ?F_7 ?F_8 ?F_9 ?F_10 ?F_11 ?F_12 ?F_13 ?F_14 ?F_15 ?F_16 ?F_17 ?F_18 ?F_19 ?F_20 ?F_21 ?F_22 ?F_23 ?F_24 ?F_25 ?F_26 ?F_27 ?F_28 ?F_29 ?F_30 ?F_31 ?F_32 ?F_33 ?F_34 ?F_35 ?F_36 ?F_37 ?F_38 ?F_39 ?F_40 ?F_41 ?F_42 ?F_43 ?F_44 ?F_45 ?F_46 ?F_47 ?F_48 ?pg_Way ?hd_Way ?po_Way ?sa_Way ?mk_Way ?kc_Way ?ha_Way ?hm_Way ?na_Way_own_parents ?na_Way_own_bridges ?pg_Web ?hd_Web ?po_Web ?sa_Web ?mk_Web ?kc_Web ?ha_Web ?hm_Web ?na_Web_own_hands ?na_Web_own_lines ?na_Web_near ?hn ?htk ?A_NoHand ?A_NoProgram ?A_NoWeb ?A_NoWay ?X_NoWay ?A_BeatlessError ?X_BeatlessError ?xga_NoWay ?xgt_NoWay ?xha_NoWay ?xhm_NoWay ?xhb_NoWay ?xhd_NoWay ?Y_NoWay_BeatlessError ?k_tint_tint ?k_tint_tbool ?k_tlist_tlist ?k_ttuple_ttuple ?k_ttuple_tlist ?k_tdict_tlist ?k_tdict_ttuple ?k_tdict_tdict ?k_tint_tlist ?k_tint_ttuple ?k_tint_tdict ?k_tNoneType_tlist ?k_tNoneType_ttuple ?k_tNoneType_tdict ?k_tNoneType_tint ?k_tstr_tint ?k_Way_Way ?k_tbool_tbool ?k_NoWay_NoHand ?k_NoWay_NoProgram ?k_NoWay_NoWeb ?k_NoWay_tValueError ?k_NoWay_NoWay ?G_MOST_HANDS ?G_LAST_HAND
   (case z_len|z_int|z_range|z_isinstance|z_list|z_dict|z_sorted|z_bool|z_tuple|z_reversed|z_ValueError|A_Way|A_Web|a_0|a_1|a_2|a_3|a_4|a_5|a_6|a_7|a_8|a_9|a_10|a_11|a_12|a_13|a_14|a_15|a_16|a_17|a_18|a_19|a_20|a_21|a_22|a_23|a_24|a_25|a_26|a_27|a_28|a_29|a_30|a_31|a_32|a_33|a_34|a_35|a_36|a_37|i_37|a_38|i_38|a_39|i_39|a_40|i_40|a_41|i_41=>k_is)
   (case a_42|i_42|a_43|i_43|a_44|i_44|a_45|i_45|a_46|i_46|a_47|i_47|a_48|i_48=>k_is)
   (case F_0|F_1|F_2|F_3|F_4|F_5|F_6|F_7|F_8|F_9|F_10|F_11|F_12|F_13|F_14|F_15|F_16|F_17|F_18|F_19|F_20|F_21|F_22|F_23|F_24|F_25|F_26|F_27|F_28|F_29|F_30|F_31|F_32|F_33|F_34|F_35|F_36|F_37|F_38|F_39|F_40|F_41|F_42|F_43|F_44|F_45|F_46|F_47|F_48=>exact⟨_,L2.fun_mk (by k_is) (by k_is) (by k_is)⟩)
   (case pg_Way|hd_Way|po_Way|sa_Way|mk_Way|kc_Way|ha_Way|hm_Way|na_Way_own_parents|na_Way_own_bridges|pg_Web|hd_Web|po_Web|sa_Web|mk_Web|kc_Web|ha_Web|hm_Web|na_Web_own_hands|na_Web_own_lines|na_Web_near|hn|htk|A_NoHand|A_NoProgram|A_NoWeb|A_NoWay=>k_is)
   (case X_NoWay=>k_exc)
   (case A_BeatlessError=>k_is)
   (case X_BeatlessError=>k_exc)
   (case xga_NoWay|xgt_NoWay|xha_NoWay|xhm_NoWay|xhb_NoWay|xhd_NoWay=>k_is)
   (case Y_NoWay_BeatlessError=>kernel_rfl)
   (case k_tint_tint|k_tint_tbool|k_tlist_tlist|k_ttuple_ttuple|k_ttuple_tlist|k_tdict_tlist|k_tdict_ttuple|k_tdict_tdict|k_tint_tlist|k_tint_ttuple|k_tint_tdict|k_tNoneType_tlist|k_tNoneType_ttuple|k_tNoneType_tdict|k_tNoneType_tint|k_tstr_tint|k_Way_Way|k_tbool_tbool|k_NoWay_NoHand|k_NoWay_NoProgram|k_NoWay_NoWeb|k_NoWay_tValueError|k_NoWay_NoWay=>kit_is)
   (case G_MOST_HANDS|G_LAST_HAND=>k_is)
  obtain⟨a,T⟩:=T
  have e0:=hmg.symm.trans T.g_qK
  cases e0
  exact⟨_,T.b0_qK,fun base kb nb=>K04.ok_law T⟩
 case S=>exact fun K H a ns hl hO hS=>K04.sp_law_of hl hO hS
 case C=>exact fun _ _ _ _ z=>z