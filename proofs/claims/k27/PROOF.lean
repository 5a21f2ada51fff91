import PyProof.Rows.All
import Wide.All
import OpenK.AllK
import Wide.FinOn
import PySem.Challenge.RW_beatless_k27_whole_made_ways_are_let_by
import Lean
import PyProof.EqAt
import PyProof.EqKinds
import PyProof.TupleCall
import PyProof.ZipIter
import PyProof.WalksMore
import KE.KRevSl
import KE.KIntText
import KE.KRevIter
import PyProof.Draws
import PyProof.EnumFor
import PyProof.EnumStmt
import PyProof.AttrMissHeap
import PyProof.DictUpdate
import PyProof.DictValues
import KE.KDictList
import PyProof.DictItemsLoops
import PyProof.DictWalks
import PyProof.Rows.SetFrom
import PyProof.DictItems
set_option Elab.async false
set_option compiler.extract_closed false
set_option linter.all false
set_option maxRecDepth 100000
abbrev LI:=List Int
abbrev LP:=List (Int×Int)
noncomputable section
namespace L2
open PySem PySem.Spec PyProof.Rows
structure Bx (p:Prop):Prop where
 of:p
abbrev Key:=Sum Int Str
noncomputable def vz:Key→Value→Bool
 |.inl k,v=>Value.isInt k v
 |.inr x,v=>Value.isStrOf x v
noncomputable def zcn (w:World):Key→Int
 |.inl k=>hashInt k
 |.inr x=>hashStr w x
theorem z5:∀ {k:Key}{v:Value},vz k v=true→(∃ i t,k=Sum.inl i∧v=Value.int i t)∨(∃ x t,k=Sum.inr x∧v=Value.str x t)
 |.inl i,v,h=>by
  obtain⟨t,e⟩:=Value.isInt_shape (k:=i) (v:=v) h
  exact .inl ⟨i,t,rfl,e⟩
 |.inr x,v,h=>by
  obtain⟨t,e⟩:=Value.isStrOf_shape (x:=x) (v:=v) h
  exact .inr ⟨x,t,rfl,e⟩
theorem YJ (i:Int) (t:Tok):vz (.inl i) (.int i t)=true:=by simp[vz,Value.isInt]
theorem YI (x:Str) (t:Tok):vz (.inr x) (.str x t)=true:=by simp[vz,Value.isStrOf]
theorem U5 (a b:Int):decide ((Sum.inl a:Key)=Sum.inl b)=(a == b):=by
 by_cases e:a=b
 ·subst e;simp
 ·have h:¬ (Sum.inl a:Key)=Sum.inl b:=fun q=>e (Sum.inl.inj q)
  rw[decide_eq_false h]
  exact(beq_eq_false_iff_ne.mpr e).symm
theorem U2 (a b:Str):decide ((Sum.inr a:Key)=Sum.inr b)=decide (a=b):=by
 by_cases e:a=b
 ·subst e;simp
 ·have h:¬ (Sum.inr a:Key)=Sum.inr b:=fun q=>e (Sum.inr.inj q)
  rw[decide_eq_false h,decide_eq_false e]
theorem U4 (a:Int) (b:Str):decide ((Sum.inl a:Key)=Sum.inr b)=false:=decide_eq_false (fun q=>nomatch q)
theorem U3 (a:Str) (b:Int):decide ((Sum.inr a:Key)=Sum.inl b)=false:=decide_eq_false (fun q=>nomatch q)
def zI (prog:Program) (w:World):PySem.KeyKind prog w Key where
 is:=vz
 hash:=zcn w
 inj:=fun v a b ha hb=>by
  rcases z5 ha with⟨i,t,rfl,rfl⟩ | ⟨x,t,rfl,rfl⟩
  ·rcases z5 hb with⟨j,u,rfl,e⟩ | ⟨y,u,rfl,e⟩
   ·injection e with e1 _;rw[e1]
   ·exact nomatch e
  ·rcases z5 hb with⟨j,u,rfl,e⟩ | ⟨y,u,rfl,e⟩
   ·exact nomatch e
   ·injection e with e1 _;rw[e1]
 byValue:=fun k v h=>by
  rcases z5 h with⟨i,t,rfl,rfl⟩ | ⟨x,t,rfl,rfl⟩<;>rfl
 pyHash:=fun hv h=>by
  rcases z5 hv with⟨i,t,rfl,rfl⟩ | ⟨x,t,rfl,rfl⟩
  ·exact wpAny_pyHash_int h
  ·exact wpAny_pyHash_str h
 eqBool:=fun hu hv h=>by
  rcases z5 hu with⟨i,t,rfl,rfl⟩ | ⟨x,t,rfl,rfl⟩
  ·rcases z5 hv with⟨j,u,rfl,rfl⟩ | ⟨y,u,rfl,rfl⟩
   ·rw[U5] at h;exact wpAny_eqBool_int h
   ·rw[U4] at h;exact SeqAt.EqAt.int_str i t y u _ _ _ _ h
  ·rcases z5 hv with⟨j,u,rfl,rfl⟩ | ⟨y,u,rfl,rfl⟩
   ·rw[U3] at h;exact SeqAt.EqAt.str_int x t j u _ _ _ _ h
   ·rw[U2] at h;exact wpAny_eqBool_str h
 «strs»:=fun k x t v h=>by
  rcases z5 h with⟨i,u,rfl,e⟩ | ⟨y,u,rfl,e⟩
  ·exact nomatch e
  ·injection e with e1 _
   subst e1
   cases v<;>rfl
theorem ZF (prog:Program) (w:World) (k:Key) (v:Value):(zI prog w).is k v=vz k v:=rfl
theorem uG (prog:Program) (w:World) (i:Int) (t:Tok):(zI prog w).is (.inl i) (.int i t)=true:=YJ i t
theorem uF (prog:Program) (w:World) (x:Str) (t:Tok):(zI prog w).is (.inr x) (.str x t)=true:=YI x t
inductive V where
 |non | bl (b:Bool) | int (i:Int) | str (x:Str) | byt (b:Array UInt8) | flt (b:UInt64) | ref (a:Addr) | ty (n:String)
 deriving DecidableEq
def RelV:V→Value→Prop
 |.non,u=>u=Value.none
 |.bl b,u=>u=Value.bool b
 |.int i,u=>∃ t,u=Value.int i t
 |.str x,u=>∃ t,u=Value.str x t
 |.byt b,u=>∃ t,u=Value.bytes b t
 |.flt b,u=>∃ t,u=Value.float b t
 |.ref a,u=>u=Value.ref a
 |.ty n,u=>u=Value.type n
abbrev Vals:List V→List Value→Prop:=Paired RelV
theorem Vals.length {xs:List V}{us:List Value}(r:Vals xs us):xs.length=us.length:=Paired.length r
theorem Vals.get:∀ {xs:List V}{us:List Value}{i:Nat}{x:V},Vals xs us→xs[i]?=some x→∃ u,us[i]?=some u∧RelV x u
 |_,_,_,_,.nil,e=>by simp at e
 |_,_,0,_,.cons r _,e=>by simp at e;subst e;exact⟨_,rfl,r⟩
 |_,_,i+1,x,.cons _ t,e=>by
  obtain⟨u,h1,h2⟩:=Vals.get (i:=i) (x:=x) t (by simpa using e)
  exact⟨u,by simpa using h1,h2⟩
theorem Vals.set {x:V}{u:Value}(r:RelV x u):∀ {xs:List V}{us:List Value}(i:Nat),Vals xs us→Vals (xs.set i x) (us.set i u)
 |_,_,_,.nil=>.nil
 |_,_,0,.cons _ t=>.cons r t
 |_,_,i+1,.cons q t=>.cons q (Vals.set r i t)
theorem Vals.append:∀ {xs ys:List V}{us ws:List Value},Vals xs us→Vals ys ws→Vals (xs++ys) (us++ws)
 |_,_,_,_,.nil,s=>s
 |_,_,_,_,.cons r t,s=>.cons r (Vals.append t s)
theorem Vals.take:∀ {xs:List V}{us:List Value}(n:Nat),Vals xs us→Vals (xs.take n) (us.take n)
 |_,_,0,_=>.nil
 |_,_,_+1,.nil=>.nil
 |_,_,n+1,.cons r t=>.cons r (Vals.take n t)
theorem Vals.drop:∀ {xs:List V}{us:List Value}(n:Nat),Vals xs us→Vals (xs.drop n) (us.drop n)
 |_,_,0,r=>r
 |_,_,_+1,.nil=>.nil
 |_,_,n+1,.cons _ t=>Vals.drop n t
def RelO:Option V→Option Value→Prop
 |some v,some u=>RelV v u
 |none,none=>True
 |_,_=>False
def KV {κ:Type}:List (κ×V)→List (κ×Value)→Prop:=Paired fun(p:κ×V) (q:κ×Value)=>p.1=q.1∧RelV p.2 q.2
noncomputable def kV:Key→V
 |.inl i=>.int i
 |.inr x=>.str x
inductive HO where
 /-- a list -/
 |lst (xs:List V)
 /-- a tuple (never changes) -/
 |tup (xs:List V)
 /-- a dict whose keys are ints and texts;one whose keys are tuples of ints and texts (the empty one is both) -/
 |dK (kvs:List (Key×V)) | dT (kvs:List (List Key×V))
 /-- a set of ints: its members,its size -/
 |set (S:Int→Bool) (n:Nat)
 /-- an instance of the class at C,its dict at dx,its attributes -/
 |ins (C dx:Addr) (fs:List (Str×V))
 /-- the dict of the instance at x -/
 |own (x:Addr)
 /-- the dict of an exception -/
 |xd (fs:List (Str×V))
 /-- a bound method,f of x -/
 |met (f x:Addr)
 /-- a range object lo,lo+1,.. below hi -/
 |rng (lo hi:Int)
 /-- a thing that is known to the object (the script;a dict while a loop walks it): read,never written while it is so -/
 |frz (o:Obj) (u:HO)
 /-- a code object's table -/
 |tbl (ps:Array Value)
 /-- any other thing,by what is true of its one object (a def of one's own: SetO a S n:=HO.ext fun h=>..) -/
 |ext (φ:Heap→Prop)
abbrev Hp:=Addr→Option HO
noncomputable def upd (H:Hp) (a:Addr) (o:HO):Hp:=fun b=>if b=a then some o else H b
theorem upd_same {H:Hp}{a:Addr}{o:HO}:upd H a o a=some o:=by unfold upd;rw[if_pos rfl]
theorem upd_ne {H:Hp}{a b:Addr}{o:HO}(h:b≠a):upd H a o b=H b:=by unfold upd;rw[if_neg h]
theorem xJ {H:Hp}{a:Addr}{o u:HO}:upd (upd H a o) a u=upd H a u:=by
 funext b;unfold upd;split<;>rfl
theorem VM {H:Hp}{a b:Addr}{o u:HO}(h:H a=some o) (h':H b=some u) (d:o≠u):a≠b:=by
 intro e;subst e;rw[h] at h';exact d (Option.some.inj h')
theorem ne_of_none {H:Hp}{a b:Addr}{o:HO}(h:H a=some o) (h':H b=none):a≠b:=by
 intro e;subst e;rw[h] at h';cases h'
section
variable (P:Program) (w:World)
def ObjOk (H:Hp) (h:Heap) (a:Addr):HO→Prop
 |.lst xs=>xs.length≤sizeLine∧∃ (its:List Value) (n:Nat),Vals xs its∧h.get? a=some { cls:=.type "list",data:=.seq its.toArray n }
 |.tup xs=>xs.length≤sizeLine∧∃ its:List Value,Vals xs its∧IsTup h a its.toArray
 |.dK kvs=>kvs.length≤sizeLine∧(a == sysModules)=false∧∃ vs,KV kvs vs∧h.DictOf (zI P w) a vs
 |.dT kvs=>kvs.length≤sizeLine∧(a == sysModules)=false∧∃ xs:List (List Key×Addr×Value),
   Paired (fun(p:List Key×V) (q:List Key×Addr×Value)=>p.1=q.1∧H q.2.1=some (.tup (p.1.map kV))∧RelV p.2 q.2.2) kvs xs ∧
   ∃ o es ep,h.get? a=some o∧o.ExactDict∧o.data=.dict es ep∧es.toList=xs.map (entryOfKey (tupleKind (zI P w)))∧(xs.map (·.1)).Nodup
 |.set S n=>h.SetOf (intKind P w) a S n
 |.ins C dx fs=>H dx=some (.own a)∧fs.length≤1000∧dx≠a∧h.get? a=some (PySem.W.instObj C dx) ∧
   ∃ mA,h.Ns1 dx mA∧(∀ f,RelO (fs.lookup f) (mA f))∧PySem.Within mA (fs.map (·.1))
 |.own _=>∃ o,h.get? a=some o
 |.xd fs=>∃ mA,h.Ns1 a mA∧∀ f,RelO (fs.lookup f) (mA f)
 |.rng lo hi=>∃ t u v,h.get? a=some { cls:=.type "range",data:=.fields #[.int lo t,.int hi u,.int 1 v] }
 |.frz o u=>h.get? a=some o∧ObjOk H h a u
 |.tbl ps=>h.get? a=some { cls:=.none,data:=.fields ps }
 |.met f x=>h.get? a=some (PySem.W.methodObj (.ref f) (.ref x))
 |.ext φ=>φ h∧(∃ o,h.get? a=some o)∧∀ h1 h2:Heap,φ h1→(∀ o,h1.get? a=some o→h2.get? a=some o)→φ h2
def HOk (H:Hp) (h:Heap):Prop:=∀ a o,H a=some o→ObjOk P w H h a o
end
section
variable {P:Program}{w:World}{H H':Hp}{h h':Heap}{a:Addr}{o:HO}
theorem ObjOk.lt (x:ObjOk P w H h a o):a<h.objs.size:=by
 cases o with
 |lst xs=>obtain⟨_,_,_,_,e⟩:=x;exact Heap.lt_size e
 |tup xs=>obtain⟨_,_,_,p⟩:=x;exact p.lt
 |dK kvs=>obtain⟨_,_,_,_,o,_,_,e,_⟩:=x;exact Heap.lt_size e
 |dT kvs=>obtain⟨_,_,_,_,o,_,_,e,_⟩:=x;exact Heap.lt_size e
 |set S n=>obtain⟨o,_,_,_,e,_⟩:=x;exact Heap.lt_size e
 |ins C dx fs=>obtain⟨_,_,_,e,_⟩:=x;exact Heap.lt_size e
 |own y=>obtain⟨_,e⟩:=x;exact Heap.lt_size e
 |xd fs=>obtain⟨_,⟨_,_,_,e,_⟩,_⟩:=x;exact Heap.lt_size e
 |rng lo hi=>obtain⟨_,_,_,e⟩:=x;exact Heap.lt_size e
 |frz ob u=>obtain⟨e,_⟩:=x;exact Heap.lt_size e
 |tbl ps=>exact Heap.lt_size (show h.get? a=some _ from x)
 |met f y=>exact Heap.lt_size (show h.get? a=some _ from x)
 |ext φ=>obtain⟨_,⟨_,e⟩,_⟩:=x;exact Heap.lt_size e
theorem Paired.mapP {α β:Type}{F G:α→β→Prop}:∀ {l₁:List α}{l₂:List β},Paired F l₁ l₂→(∀ a b,F a b→G a b)→Paired G l₁ l₂
 |_,_,.nil,_=>.nil
 |_,_,.cons r t,f=>.cons (f _ _ r) (Paired.mapP t f)
theorem ObjOk.stay (x:ObjOk P w H h a o) (k:∀ b u,(b=a∨H b=some (.own a))→h.get? b=some u→h'.get? b=some u)
  (ho:∀ b,H b=some (.own a)→H' b=some (.own a)) (ht:∀ b xs,H b=some (.tup xs)→H' b=some (.tup xs)):ObjOk P w H' h' a o:=by
 induction o with
 |lst xs=>obtain⟨z,its,n,r,e⟩:=x;exact⟨z,its,n,r,k _ _ (.inl rfl) e⟩
 |tup xs=>obtain⟨z,its,r,ob,e,c⟩:=x;exact⟨z,its,r,ob,k _ _ (.inl rfl) e,c⟩
 |dK kvs=>obtain⟨z,y,vs,r,ob,es,ep,e,c⟩:=x;exact⟨z,y,vs,r,ob,es,ep,k _ _ (.inl rfl) e,c⟩
 |dT kvs =>
  obtain⟨z,y,xs,r,ob,es,ep,e,c⟩:=x
  exact⟨z,y,xs,Paired.mapP r fun p q z=>⟨z.1,ht _ _ z.2.1,z.2.2⟩,ob,es,ep,k _ _ (.inl rfl) e,c⟩
 |set S n=>obtain⟨ob,es,ep,t,e,c⟩:=x;exact⟨ob,es,ep,t,k _ _ (.inl rfl) e,c⟩
 |ins C dx fs =>
  obtain⟨d,z,ne,e,mA,⟨od,es,ep,e2,c⟩,r⟩:=x
  exact⟨ho _ d,z,ne,k _ _ (.inl rfl) e,mA,⟨od,es,ep,k _ _ (.inr d) e2,c⟩,r⟩
 |own y=>obtain⟨ob,e⟩:=x;exact⟨ob,k _ _ (.inl rfl) e⟩
 |xd fs=>obtain⟨mA,⟨od,es,ep,e,c⟩,r⟩:=x;exact⟨mA,⟨od,es,ep,k _ _ (.inl rfl) e,c⟩,r⟩
 |rng lo hi=>obtain⟨t,u,v,e⟩:=x;exact⟨t,u,v,k _ _ (.inl rfl) e⟩
 |frz ob u ih=>obtain⟨e,q⟩:=x;exact⟨k _ _ (.inl rfl) e,ih q⟩
 |tbl ps =>
  have e:h.get? a=some { cls:=.none,data:=.fields ps }:=x
  show h'.get? a=some { cls:=.none,data:=.fields ps }
  exact k a _ (.inl rfl) e
 |met f y =>
  have e:h.get? a=some (PySem.W.methodObj (.ref f) (.ref y)):=x
  show h'.get? a=some (PySem.W.methodObj (.ref f) (.ref y))
  exact k a _ (.inl rfl) e
 |ext φ=>obtain⟨p,⟨o,e⟩,st⟩:=x;exact⟨st _ _ p fun o q=>k _ _ (.inl rfl) q,⟨o,k _ _ (.inl rfl) e⟩,st⟩
theorem HOk.lt (x:HOk P w H h) (e:H a=some o):a<h.objs.size:=(x a o e).lt
theorem HOk.fresh (x:HOk P w H h) (e:h.objs.size≤a):H a=none:=by
 cases q:H a with
 |none=>rfl
 |some u=>exact absurd (Nat.lt_of_lt_of_le (x.lt q) e) (Nat.lt_irrefl _)
theorem HOk.kept (x:HOk P w H h) (k:∀ b u,h.get? b=some u→h'.get? b=some u):HOk P w H h':=fun a o e =>
 (x a o e).stay (fun b u _ q=>k b u q) (fun _ q=>q) fun _ _ q=>q
theorem HOk.laid (x:HOk P w H h) (k:∀ b u,h.get? b=some u→h'.get? b=some u) (hp:h.objs.size≤a) (new:ObjOk P w (upd H a o) h' a o):HOk P w (upd H a o) h':=fun b u e=>by
 have hn:=x.fresh hp
 by_cases hb:b=a
 ·subst hb;rw[upd_same] at e;cases e;exact new
 ·rw[upd_ne hb] at e
  exact(x b u e).stay (fun c v _ q=>k c v q) (fun c q=>by rw[upd_ne (ne_of_none q hn)];exact q) fun c xs q=>by rw[upd_ne (ne_of_none q hn)];exact q
end
def Rd (H:Hp) (a:Addr) (u:HO):Prop:=H a=some u∨∃ o,H a=some (.frz o u)
theorem Rd.ok {P:Program}{w:World}{H:Hp}{h:Heap}{a:Addr}{u:HO}(r:Rd H a u) (x:HOk P w H h):ObjOk P w H h a u:=by
 rcases r with r | ⟨o,r⟩
 ·exact x a u r
 ·obtain⟨_,q⟩:=x a _ r
  exact q
def Mut:Option HO→Prop
 |some (.lst _)=>True
 |some (.dK _)=>True
 |some (.dT _)=>True
 |some (.set _ _)=>True
 |some (.ins _ _ _)=>True
 |some (.ext _)=>True
 |_=>False
section
variable {P:Program}{w:World}{H:Hp}{h h':Heap}{x e:Addr}{o':HO}
theorem HOk.write (ok:HOk P w H h) (mu:Mut (H x)) (he:e=x∨H e=some (.own x)) (k:∀ b u,b≠e→h.get? b=some u→h'.get? b=some u) (heo:∃ u,h'.get? e=some u)
  (new:ObjOk P w (upd H x o') h' x o'):HOk P w (upd H x o') h':=fun b u q=>by
 have nown:∀ c y,H c=some (.own y)→c≠x:=fun c y r z=>by subst z;rw[r] at mu;exact mu
 have ntup:∀ c xs,H c=some (.tup xs)→c≠x:=fun c xs r z=>by subst z;rw[r] at mu;exact mu
 by_cases hb:b=x
 ·subst hb;rw[upd_same] at q;cases q;exact new
 ·rw[upd_ne hb] at q
  by_cases hbe:b=e
  ·have q':H b=some (.own x):=by
    rcases he with z | z
    ·exact absurd (hbe.trans z) hb
    ·rw[hbe];exact z
   rw[q] at q';cases q'
   obtain⟨v,hv⟩:=heo
   exact⟨v,by rw[hbe];exact hv⟩
  ·refine(ok b u q).stay (fun c v hc r=>k c v ?_ r) (fun c r=>by rw[upd_ne (nown c b r)];exact r) fun c xs r=>by rw[upd_ne (ntup c xs r)];exact r
   rcases hc with rfl | hc
   ·exact hbe
   ·rintro rfl
    rcases he with z | z
    ·exact nown c b hc z
    ·rw[hc] at z;cases z;exact hb rfl
end
structure Un (fs ex:List Addr) (H H':Hp) (h h':Heap):Prop where
 keep:∀ b o,h.get? b=some o→H b=none→b∉fs→b∉ex→h'.get? b=some o
 slot:∀ b o,h.get? b=some o→H b=none→b∈fs→b∉ex→∃ sl,h'.get? b=some { o with slots:=sl }
 free:∀ b o,h.get? b=some o→H b=none→b∉ex→H' b=none
 there:∀ b o,h.get? b=some o→b∉ex→∃ o',h'.get? b=some o'
 tups:∀ b xs,H b=some (.tup xs)→H' b=some (.tup xs)
 frzs:∀ b o u,H b=some (.frz o u)→H' b=some (.frz o u)
 tbls:∀ b ps,H b=some (.tbl ps)→∃ more,H' b=some (.tbl (ps++more))
section
variable {fs fs' ex ex':List Addr}{H H1 H2:Hp}{h h1 h2 h':Heap}{a x e:Addr}{o:HO}
theorem Un.any (u:Un fs ex H H1 h h1){b:Addr}{ob:Obj}(q:h.get? b=some ob) (n:H b=none) (hx:b∉ex):∃ sl,h1.get? b=some { ob with slots:=sl }:=by
 by_cases hb:b∈fs
 ·exact u.slot b ob q n hb hx
 ·exact⟨ob.slots,u.keep b ob q n hb hx⟩
theorem Un.kept (k:∀ b u,h.get? b=some u→h'.get? b=some u):Un fs ex H H h h' :=
 ⟨fun b ob q _ _ _=>k b ob q,fun b ob q _ _ _=>⟨ob.slots,k b ob q⟩,fun _ _ _ n _=>n,fun b ob q _=>⟨ob,k b ob q⟩,fun _ _ q=>q,fun _ _ _ q=>q,fun _ ps q=>⟨#[],by rw[q];simp⟩⟩
theorem Un.refl:Un fs ex H H h h:=Un.kept fun _ _ q=>q
theorem Un.laid (k:∀ b u,h.get? b=some u→h'.get? b=some u) (hp:h.objs.size≤a) (hn:H a=none):Un fs ex H (upd H a o) h h' where
 keep:=fun b u q _ _ _=>k b u q
 slot:=fun b u q _ _ _=>⟨u.slots,k b u q⟩
 free:=fun b u q n _=>by rw[upd_ne (Nat.ne_of_lt (Nat.lt_of_lt_of_le (Heap.lt_size q) hp))];exact n
 there:=fun b u q _=>⟨u,k b u q⟩
 tups:=fun b xs q=>by rw[upd_ne (ne_of_none q hn)];exact q
 frzs:=fun b u xs q=>by rw[upd_ne (ne_of_none q hn)];exact q
 tbls:=fun b ps q=>⟨#[],by rw[upd_ne (ne_of_none q hn),q];simp⟩
theorem Un.write (mu:Mut (H x)) (he:e=x∨H e=some (.own x)) (k:∀ b u,b≠e→h.get? b=some u→h'.get? b=some u) (heo:∃ u,h'.get? e=some u):Un fs ex H (upd H x o) h h':=by
 have hx:∀ b,H b=none→b≠x:=fun b n z=>by subst z;rw[n] at mu;exact mu
 have hb:∀ b,H b=none→b≠e:=fun b n z=>by
  subst z
  rcases he with r | r
  ·exact hx b n r
  ·rw[n] at r;cases r
 have hm:∀ b u,H b=some u→¬ Mut (some u)→b≠x:=fun b u q nm z=>by subst z;rw[q] at mu;exact nm mu
 refine⟨fun b u q n _ _=>k b u (hb b n) q,fun b u q n _ _=>⟨u.slots,k b u (hb b n) q⟩,fun b u q n _=>by rw[upd_ne (hx b n)];exact n,fun b u q _=>?_,
  fun b xs q=>by rw[upd_ne (hm b _ q fun z=>z)];exact q,fun b u xs q=>by rw[upd_ne (hm b _ q fun z=>z)];exact q,fun b ps q=>⟨#[],by rw[upd_ne (hm b _ q fun z=>z),q];simp⟩⟩
 by_cases hbe:b=e
 ·subst hbe;exact heo
 ·exact⟨u,k b u hbe q⟩
end
def trk (h:Heap) (H:Hp):List Addr:=(List.range h.objs.size).filter fun a=>(H a).isSome
def XZ (h:Heap) (H:Hp):Heap:=PySem.W.hideAll h (trk h H)
theorem YT (h:Heap) (H:Hp):(XZ h H).objs.size=h.objs.size:=PySem.W.hideAll_size _ _
theorem XY {h:Heap}{H:Hp}{b:Addr}{o:Obj}(e:h.get? b=some o) (n:H b=none):(XZ h H).get? b=some o :=
 PySem.W.hideAll_get _ e fun hm=>by
  have q:(H b).isSome=true:=(List.mem_filter.mp hm).2
  rw[n] at q;simp at q
theorem VJ {h:Heap}{H:Hp}{b:Addr}{o:Obj}(e:(XZ h H).get? b=some o):h.get? b=some o∧H b=none:=by
 have e':h.get? b=some o:=PySem.W.of_hideAll (trk h H) e
 refine⟨e',?_⟩
 cases q:H b with
 |none=>rfl
 |some x =>
  have hm:b∈trk h H:=List.mem_filter.mpr ⟨List.mem_range.mpr (Heap.lt_size e'),by simp[q]⟩
  have z:(XZ h H).get? b=none:=PySem.W.hideAll_none (trk h H) hm
  rw[z] at e;cases e
structure Mod (K:PySem.W.Frag) (mg:Str→Option Value) (base:Heap):Prop where
 kin:K.In base
 glob:base.Ns mainGlobals mg
 blt:∃ mb,base.Ns builtinsNs mb∧∀ x:Str,x ≠ "__name__" → mb x=bootBuiltins x
 nolimit:base.NoLimit
structure Cx where
 prog:Program
 w:World
 K:PySem.W.Frag
 mg:Str→Option Value
 base:Heap
 A:Around
 N:List Str
 s₀:Shared
 H₀:Hp
 env:Env
 outer:List Env
 stack:List Env
 ex:List Addr
 fn:Str→Bool
 calm:Bool
 pn:List (Addr×Obj)
 xe:Value→Shared→Prop
noncomputable def frs (l:List Env):List Addr:=l.filterMap (·.frame)
abbrev Cx.fs (X:Cx):List Addr:=frs X.outer
def Vis (sc:Scope) (x:Str):Prop:=sc.names.lookup x=some .local∨sc.names.lookup x=some .cell∨sc.names.lookup x=some .free
def Loc (sc:Scope) (x:Str):Prop:=sc.names.lookup x=some .local∨sc.names.lookup x=some .cell
def zcv (env:Env) (h:Heap) (m:Str→Option Value) (x:Str) (u:Value):Prop :=
 (env.kindOf x=some .local∧m x=some u)∨((env.kindOf x=some .cell∨env.kindOf x=some .free)∧∃ c,env.cells.lookup x=some c∧h.IsCell c (some u))
structure Cx.Ok (X:Cx):Prop where
 mod:Mod X.K X.mg X.base
 kind:X.env.scope.kind=.function
 glob:X.env.globals=mainGlobals
 blt:X.env.builtins=builtinsNs
 above:X.s₀.heap.objs.size≤X.env.locals
 inj:∀ x y c,X.env.cells.lookup x=some c→X.env.cells.lookup y=some c→x=y
 has:∀ x,(X.env.kindOf x=some .cell∨X.env.kindOf x=some .free)→∃ c,X.env.cells.lookup x=some c
 cab:∀ x c,X.fn x=true→X.env.cells.lookup x=some c→X.s₀.heap.objs.size≤c
 hd:X.calm=true→X.A.handled=none
 frames:X.A.frames=some X.stack
 stk:X.stack=X.outer∨(X.stack=X.env::X.outer∧X.env.frame=some X.env.locals)
 exf:∀ b∈X.ex,b≠X.env.locals∧∀ x c,X.env.cells.lookup x=some c→c≠b
 bs:∀ b o,X.base.get? b=some o→X.s₀.heap.get? b=some o∧X.H₀ b=none
 bsz:X.base.objs.size≤X.s₀.heap.objs.size
 noex:∀ b o,X.base.get? b=some o→b∉X.ex
 exfs:∀ b∈X.ex,b∉X.fs
 funs:X.s₀.heap.FunFrames X.base X.outer
 frf:∀ b∈X.fs,X.H₀ b=none
structure Inv (X:Cx) (pins:List (Addr×Obj)) (σ:List (Option V)) (H:Hp) (s:Shared):Prop where
 ok:X.Ok
 os:s.os=X.s₀.os
 bare:AllBare s.gens
 base:Un X.fs X.ex X.H₀ H X.s₀.heap s.heap
 loc:∃ m,s.heap.Ns X.env.locals m∧∀ (i:Nat) (x:Str) (v:V),X.N[i]?=some x→σ[i]?=some (some v)→Vis X.env.scope x→∃ u,RelV v u∧zcv X.env s.heap m x u
 cell:∀ x c,X.env.cells.lookup x=some c→∃ v,s.heap.IsCell c v
 free:H X.env.locals=none
 freeC:∀ x c,X.env.cells.lookup x=some c→H c=none
 pin:∀ p∈X.pn++pins,s.heap.get? p.1=some p.2∧H p.1=none∧p.1≠X.env.locals∧p.1∉X.fs∧∀ v,p.2.data≠.cell v
 hok:HOk X.prog X.w H s.heap
 len:σ.length=X.N.length
section
variable {X:Cx}{pins:List (Addr×Obj)}{σ:List (Option V)}{H H':Hp}{s:Shared}{h':Heap}
theorem Cx.Ok.nofr (ok:X.Ok){b:Addr}{o:Obj}(e:X.base.get? b=some o):b∉X.fs:=fun hb=>by
 have:=(ok.funs.mem hb).1
 rw[e] at this;cases this
theorem Inv.bs (I:Inv X pins σ H s):∀ b o,X.base.get? b=some o→s.heap.get? b=some o∧H b=none:=fun b o e =>
 ⟨I.base.keep b o (I.ok.bs b o e).1 (I.ok.bs b o e).2 (I.ok.nofr e) (I.ok.noex b o e),I.base.free b o (I.ok.bs b o e).1 (I.ok.bs b o e).2 (I.ok.noex b o e)⟩
theorem Inv.bk (I:Inv X pins σ H s):∀ b o,X.base.get? b=some o→s.heap.get? b=some o:=fun b o e=>(I.bs b o e).1
theorem Inv.mod (I:Inv X pins σ H s):Mod X.K X.mg X.base:=I.ok.mod
theorem Inv.kIn (I:Inv X pins σ H s):X.K.In s.heap:=I.ok.mod.kin.keeps I.bk
theorem Inv.lt (I:Inv X pins σ H s):X.env.locals<s.heap.objs.size:=let ⟨_,hn,_⟩:=I.loc;hn.lt
theorem Inv.sz (I:Inv X pins σ H s):X.s₀.heap.objs.size≤s.heap.objs.size:=Nat.le_trans I.ok.above (Nat.le_of_lt I.lt)
theorem Inv.nofs (I:Inv X pins σ H s){a:Addr}(h:s.heap.objs.size≤a):a∉X.fs:=fun hb=>by
 obtain⟨_,o,ho,_⟩:=I.ok.funs.mem hb
 exact absurd (Nat.lt_of_lt_of_le (Heap.lt_size ho) (Nat.le_trans I.sz h)) (Nat.lt_irrefl _)
theorem Inv.cne (I:Inv X pins σ H s):∀ x c,X.env.cells.lookup x=some c→c≠X.env.locals:=fun x c e z=>by
 obtain⟨v,o,ho,hd⟩:=I.cell x c e
 obtain⟨m,⟨o',es,ep,ho',hd',_⟩,_⟩:=I.loc
 rw[z,ho'] at ho;cases ho;rw[hd'] at hd;cases hd
theorem Inv.funs (I:Inv X pins σ H s):s.heap.FunFrames X.base X.outer:=by
 have all:∀ (l:List Env),(∀ b∈frs l,b∈X.fs)→X.s₀.heap.FunFrames X.base l→s.heap.FunFrames X.base l:=by
  intro l
  induction l with
  |nil=>intro _ _;trivial
  |cons env r ih =>
   intro hs hl
   obtain⟨hk,⟨L,o,hf,hn,ho,hd⟩,hr⟩:=hl
   have hL:L∈X.fs:=hs L (by unfold frs;rw[List.filterMap_cons,hf];exact List.mem_cons_self)
   obtain⟨sl,e⟩:=I.base.slot L o ho (I.ok.frf L hL) hL fun z=>I.ok.exfs L z hL
   exact⟨hk,⟨L,_,hf,hn,e,hd⟩,ih (fun b hb=>hs b (by unfold frs;rw[List.filterMap_cons,hf];exact List.mem_cons_of_mem _ hb)) hr⟩
 exact all X.outer (fun _ hb=>hb) I.ok.funs
theorem Inv.stack (I:Inv X pins σ H s):s.heap.FunFrames X.base X.stack:=by
 rcases I.ok.stk with e | ⟨e,hf⟩
 ·rw[e];exact I.funs
 ·rw[e]
  obtain⟨m,hn,_⟩:=I.loc
  refine .cons (by rw[I.ok.kind];decide) hf hn ?_ I.funs
  exact Heap.get?_none_of_le (Nat.le_trans I.ok.bsz I.ok.above)
theorem Inv.stkSub (I:Inv X pins σ H s):∀ b∈frs X.stack,b∈X.env.locals::X.fs:=fun b hb=>by
 rcases I.ok.stk with e | ⟨e,hf⟩
 ·rw[e] at hb;exact List.mem_cons_of_mem _ hb
 ·rw[e] at hb
  unfold frs at hb
  rw[List.filterMap_cons,hf] at hb
  exact hb
theorem Inv.stkFree (I:Inv X pins σ H s):∀ b∈frs X.stack,H b=none:=fun b hb=>by
 rcases List.mem_cons.mp (I.stkSub b hb) with e | hb
 ·rw[e];exact I.free
 ·obtain⟨_,o,ho,_⟩:=I.ok.funs.mem hb
  exact I.base.free b o ho (I.ok.frf b hb) fun z=>I.ok.exfs b z hb
theorem Inv.step {g':Array GenState}{t':Nat}{d':Drawn}{ch:List Addr}(I:Inv X pins σ H s)
  (hch:∀ b∈ch,(b∈X.ex∨X.s₀.heap.objs.size≤b)∧b≠X.env.locals∧(∀ x c,X.env.cells.lookup x=some c→c≠b)∧∀ p∈X.pn++pins,p.1≠b)
  (keep:∀ b o,b≠X.env.locals→b∉X.fs→b∉ch→s.heap.get? b=some o→H b=none→h'.get? b=some o)
  (slot:∀ b o,b≠X.env.locals→b∈X.fs→b∉ch→s.heap.get? b=some o→H b=none→∃ sl,h'.get? b=some { o with slots:=sl }) (free:∀ b o,b∉ch→s.heap.get? b=some o→H b=none→H' b=none)
  (there:∀ b o,b∉ch→s.heap.get? b=some o→∃ o',h'.get? b=some o')
  (tups:∀ b xs,H b=some (.tup xs)→H' b=some (.tup xs)) (frzs:∀ b o u,H b=some (.frz o u)→H' b=some (.frz o u)) (tbls:∀ b ps,H b=some (.tbl ps)→∃ more,H' b=some (.tbl (ps++more)))
  (ns:∀ m,s.heap.Ns X.env.locals m→h'.Ns X.env.locals m) (hok:HOk X.prog X.w H' h') (hg:AllBare g') :
  Inv X pins σ H' { s with heap:=h',gens:=g',drawn:=d',toks:=t' }:=by
 have neL:∀ b o,X.s₀.heap.get? b=some o→b≠X.env.locals:=fun b o e=>Nat.ne_of_lt (Nat.lt_of_lt_of_le (Heap.lt_size e) I.ok.above)
 have neC:∀ b o,X.s₀.heap.get? b=some o→b∉X.ex→b∉ch:=fun b o e hx hb=>by
  rcases(hch b hb).1 with z | z
  ·exact hx z
  ·exact absurd (Nat.lt_of_lt_of_le (Heap.lt_size e) z) (Nat.lt_irrefl _)
 have cellK:∀ x c,X.env.cells.lookup x=some c→∀ v,s.heap.IsCell c v→h'.IsCell c v:=fun x c e v ⟨o,ho,hd⟩=>by
  have nch:c∉ch:=fun z=>(hch c z).2.2.1 x c e rfl
  by_cases hc:c∈X.fs
  ·obtain⟨sl,q⟩:=slot c o (I.cne x c e) hc nch ho (I.freeC x c e)
   exact⟨_,q,hd⟩
  ·exact⟨o,keep c o (I.cne x c e) hc nch ho (I.freeC x c e),hd⟩
 refine⟨I.ok,I.os,hg,⟨fun b o e n hb hx=>?_,fun b o e n hb hx=>?_,fun b o e n hx=>?_,fun b o e hx=>?_,fun b xs e=>tups b xs (I.base.tups b xs e),fun b o xs e=>frzs b o xs (I.base.frzs b o xs e),fun b ps e=>?_⟩,?_,fun x c e=>?_,?_,fun x c e=>?_,fun p hp=>?_,hok,I.len⟩
 ·exact keep b o (neL b o e) hb (neC b o e hx) (I.base.keep b o e n hb hx) (I.base.free b o e n hx)
 ·obtain⟨sl,e1⟩:=I.base.slot b o e n hb hx
  obtain⟨sl',e2⟩:=slot b _ (neL b o e) hb (neC b o e hx) e1 (I.base.free b o e n hx)
  exact⟨sl',e2⟩
 ·obtain⟨o',e1⟩:=I.base.there b o e hx
  exact free b o' (neC b o e hx) e1 (I.base.free b o e n hx)
 ·obtain⟨o',e1⟩:=I.base.there b o e hx
  exact there b o' (neC b o e hx) e1
 ·obtain⟨m1,e1⟩:=I.base.tbls b ps e
  obtain⟨m2,e2⟩:=tbls b _ e1
  exact⟨m1++m2,by rw[e2,Array.append_assoc]⟩
 ·obtain⟨m,hn,hl⟩:=I.loc
  refine⟨m,ns m hn,fun i x v e1 e2 e3=>?_⟩
  obtain⟨u,r,l⟩:=hl i x v e1 e2 e3
  refine⟨u,r,?_⟩
  rcases l with l | ⟨k,c,e,z⟩
  ·exact .inl l
  ·exact .inr ⟨k,c,e,cellK x c e _ z⟩
 ·obtain⟨v,z⟩:=I.cell x c e
  exact⟨v,cellK x c e v z⟩
 ·obtain⟨m,⟨o,_,_,ho,_⟩,_⟩:=I.loc
  exact free _ o (fun z=>(hch _ z).2.1 rfl) ho I.free
 ·obtain⟨v,o,ho,hd⟩:=I.cell x c e
  exact free c o (fun z=>(hch c z).2.2.1 x c e rfl) ho (I.freeC x c e)
 ·obtain⟨e,n,ne,nf,d⟩:=I.pin p hp
  have nch:p.1∉ch:=fun z=>(hch p.1 z).2.2.2 p hp rfl
  exact⟨keep p.1 p.2 ne nf nch e n,free p.1 p.2 nch e n,ne,nf,d⟩
theorem Inv.un {t':Nat}(I:Inv X pins σ H s) (u:Un X.fs [] H H' s.heap h') (hok:HOk X.prog X.w H' h'):Inv X pins σ H' { s with heap:=h',toks:=t' }:=by
 obtain⟨m,⟨o,es,ep,ho,r⟩,_⟩:=id I.loc
 obtain⟨sl,hL⟩:=u.any ho I.free (by simp)
 exact I.step (g':=s.gens) (d':=s.drawn) (ch:=[]) (fun _ z=>nomatch z) (fun b o _ hb _ e n=>u.keep b o e n hb (by simp)) (fun b o _ hb _ e n=>u.slot b o e n hb (by simp)) (fun b o _ e n=>u.free b o e n (by simp)) (fun b o _ e=>u.there b o e (by simp)) u.tups u.frzs u.tbls (fun m' hm=>by
  obtain⟨o',es',ep',ho',r'⟩:=hm
  rw[ho] at ho';cases ho'
  exact⟨_,es',ep',hL,r'⟩) hok I.bare
theorem Inv.call {g':Array GenState}{t':Nat}{d':Drawn}{ch:List Addr}(I:Inv X pins σ H s) (u:Un (frs X.stack) ch H H' s.heap h') (hok:HOk X.prog X.w H' h') (hg:AllBare g')
  (hch:∀ b∈ch,(b∈X.ex∨X.s₀.heap.objs.size≤b)∧b≠X.env.locals∧(∀ x c,X.env.cells.lookup x=some c→c≠b)∧∀ p∈X.pn++pins,p.1≠b) :
  Inv X pins σ H' { s with heap:=h',gens:=g',drawn:=d',toks:=t' }:=by
 obtain⟨m,⟨o,es,ep,ho,r⟩,_⟩:=id I.loc
 obtain⟨sl,hL⟩:=u.any ho I.free fun z=>(hch _ z).2.1 rfl
 exact I.step (ch:=ch) hch (fun b o hL hb hc e n=>u.keep b o e n (fun z=>(List.mem_cons.mp (I.stkSub b z)).elim hL hb) hc) (fun b o _ _ hc e n=>u.any e n hc) (fun b o hc e n=>u.free b o e n hc) (fun b o hc e=>u.there b o e hc) u.tups u.frzs u.tbls (fun m' hm=>by
  obtain⟨o',es',ep',ho',r'⟩:=hm
  rw[ho] at ho';cases ho'
  exact⟨_,es',ep',hL,r'⟩) hok hg
theorem Inv.turned {t':Nat}{it:Addr}(I:Inv X pins σ H s) (k:∀ b o,b≠it→s.heap.get? b=some o→h'.get? b=some o) (hn:H it=none) (hL:it≠X.env.locals)
  (h1:it∈X.ex∨X.s₀.heap.objs.size≤it) (h2:∀ x c,X.env.cells.lookup x=some c→c≠it) (h3:∀ p∈X.pn++pins,p.1≠it):Inv X pins σ H { s with heap:=h',toks:=t' }:=by
 have nit:∀ b u,H b=some u→b≠it:=fun b u e z=>by rw[z,hn] at e;cases e
 refine I.step (g':=s.gens) (d':=s.drawn) (ch:=[it]) (fun b hb=>?_) (fun b o _ _ hc e _=>k b o (fun z=>hc (by simp[z])) e) (fun b o _ _ hc e _=>⟨o.slots,k b o (fun z=>hc (by simp[z])) e⟩) (fun _ _ _ _ n=>n)
  (fun b o hc e=>⟨o,k b o (fun z=>hc (by simp[z])) e⟩) (fun _ _ e=>e) (fun _ _ _ e=>e) (fun b ps e=>⟨#[],by rw[e];simp⟩) (fun m hm=>?_) (fun b u e=>?_) I.bare
 ·have e:b=it:=by simpa using hb
  subst e
  exact⟨h1,hL,h2,h3⟩
 ·obtain⟨o,es,ep,ho,r⟩:=hm
  exact⟨o,es,ep,k _ o (Ne.symm hL) ho,r⟩
 ·refine(I.hok b u e).stay (fun c v hc q=>k c v ?_ q) (fun _ q=>q) fun _ _ q=>q
  rcases hc with z | z
  ·rw[z];exact nit b u e
  ·exact nit c _ z
theorem Inv.tok (I:Inv X pins σ H s) (t:Nat):Inv X pins σ H { s with toks:=t }:=I.un (h':=s.heap) (t':=t) Un.refl I.hok
theorem Inv.kept {t':Nat}(I:Inv X pins σ H s) (k:∀ b u,s.heap.get? b=some u→h'.get? b=some u):Inv X pins σ H { s with heap:=h',toks:=t' }:=I.un (Un.kept k) (I.hok.kept k)
theorem Inv.laid {a:Addr}{o:HO}{t':Nat}(I:Inv X pins σ H s) (k:∀ b u,s.heap.get? b=some u→h'.get? b=some u) (hp:s.heap.objs.size≤a) (new:ObjOk X.prog X.w (upd H a o) h' a o) :
  Inv X pins σ (upd H a o) { s with heap:=h',toks:=t' }:=I.un (Un.laid k hp (I.hok.fresh hp)) (I.hok.laid k hp new)
theorem Inv.write {x e:Addr}{o:HO}{t':Nat}(I:Inv X pins σ H s) (mu:Mut (H x)) (he:e=x∨H e=some (.own x)) (k:∀ b u,b≠e→s.heap.get? b=some u→h'.get? b=some u) (heo:∃ u,h'.get? e=some u)
  (new:ObjOk X.prog X.w (upd H x o) h' x o):Inv X pins σ (upd H x o) { s with heap:=h',toks:=t' }:=I.un (Un.write mu he k heo) (I.hok.write mu he k heo new)
theorem Inv.pins_of {pins':List (Addr×Obj)}(I:Inv X pins σ H s) (h:∀ p∈pins',s.heap.get? p.1=some p.2∧H p.1=none∧p.1≠X.env.locals∧p.1∉X.fs∧∀ v,p.2.data≠.cell v):Inv X pins' σ H s :=
 ⟨I.ok,I.os,I.bare,I.base,I.loc,I.cell,I.free,I.freeC,fun p hp=>(List.mem_append.mp hp).elim (fun z=>I.pin p (List.mem_append_left _ z)) (h p),I.hok,I.len⟩
theorem nodup_ix {N:List Str}(hN:N.Nodup){i j:Nat}{x:Str}(a:N[i]?=some x) (b:N[j]?=some x):i=j:=by
 obtain⟨h1,e1⟩:=List.getElem?_eq_some_iff.mp a
 obtain⟨h2,e2⟩:=List.getElem?_eq_some_iff.mp b
 exact(List.getElem_inj hN).mp (e1.trans e2.symm)
theorem vP {M:Model}{A:Around}{E:Value→Shared→Prop}{i:Nat}{x:Str}{v:V}{u:Value}{Q:Unit→Shared→Prop}(I:Inv X pins σ H s) (hN:X.N.Nodup) (hi:X.N[i]?=some x) (hx:Loc X.env.scope x) (r:RelV v u)
  (h:∀ s',Inv X pins (σ.set i (some v)) H s'→(∃ a,Heap.SameBut a s.heap s'.heap∧(a=X.env.locals∨X.env.cells.lookup x=some a))→Q () s') (hf:X.fn x=true∨X.env.scope.names.lookup x=some .local:=by first | exact .inl rfl | exact .inr rfl | assumption):wpAny M A (storeName X.env x u) Q E s:=by
 obtain⟨m,hn,hl⟩:=id I.loc
 have hcls:(X.env.scope.kind == .class||(X.env.scope.kind == .module&&X.env.locals != X.env.globals))=false:=by rw[I.ok.kind];rfl
 have hiσ:i<σ.length:=by rw[I.len];exact(List.getElem?_eq_some_iff.mp hi).1
 have cne:=I.cne
 have tracked:∀ {a:Addr}{h':Heap},(∃ o,s.heap.get? a=some o∧H a=none)→Heap.SameBut a s.heap h'→HOk X.prog X.w H h':=fun {a h'} ha hs b ob e=>by
  obtain⟨_,_,hfree⟩:=ha
  refine(I.hok b ob e).stay (fun c w' hc q=>(hs.2 c ?_).trans q) (fun _ q=>q) fun _ _ q=>q
  rintro rfl
  rcases hc with rfl | hc
  ·rw[hfree] at e;cases e
  ·rw[hfree] at hc;cases hc
 rcases hx with hk | hk
 ·refine wpAny_storeName_local hk hn (fun h' hn' hs=>?_) hcls
  obtain⟨oL,_,_,hoL,_⟩:=id hn
  refine h _ ⟨I.ok,I.os,I.bare,⟨fun b o e n hb hx=>?_,fun b o e n hb hx=>?_,I.base.free,fun b o e hx=>?_,I.base.tups,I.base.frzs,I.base.tbls⟩,⟨_,hn',fun j y v' e1 e2 e3=>?_⟩,fun y c e=>?_,I.free,I.freeC,fun p hp=>?_,tracked ⟨oL,hoL,I.free⟩ hs,by simpa using I.len⟩ ⟨_,hs,.inl rfl⟩
  ·exact(hs.2 b (Nat.ne_of_lt (Nat.lt_of_lt_of_le (Heap.lt_size e) I.ok.above))).trans (I.base.keep b o e n hb hx)
  ·obtain⟨sl,e1⟩:=I.base.slot b o e n hb hx
   exact⟨sl,(hs.2 b (Nat.ne_of_lt (Nat.lt_of_lt_of_le (Heap.lt_size e) I.ok.above))).trans e1⟩
  ·obtain⟨o',e1⟩:=I.base.there b o e hx
   exact⟨o',(hs.2 b (Nat.ne_of_lt (Nat.lt_of_lt_of_le (Heap.lt_size e) I.ok.above))).trans e1⟩
  ·by_cases hj:j=i
   ·subst hj
    rw[hi] at e1;cases e1
    rw[List.getElem?_set_self hiσ] at e2
    cases e2
    exact⟨u,r,.inl ⟨hk,by simp⟩⟩
   ·rw[List.getElem?_set_ne (Ne.symm hj)] at e2
    obtain⟨u',r',q⟩:=hl j y v' e1 e2 e3
    refine⟨u',r',?_⟩
    rcases q with⟨k,e⟩ | ⟨k,c,e,z⟩
    ·refine .inl ⟨k,?_⟩
     have:y≠x:=fun e=>hj (nodup_ix hN e1 (e ▸ hi))
     simp[this,e]
    ·exact .inr ⟨k,c,e,z.sameBut hs (cne y c e)⟩
  ·obtain⟨w',z⟩:=I.cell y c e
   exact⟨w',z.sameBut hs (cne y c e)⟩
  ·obtain⟨e,n,ne,nf,d⟩:=I.pin p hp
   exact⟨(hs.2 p.1 ne).trans e,n,ne,nf,d⟩
 ·have hfn:X.fn x=true:=by
   rcases hf with z | z
   ·exact z
   ·rw[z] at hk;cases hk
  obtain⟨c,hc⟩:=I.ok.has x (.inl hk)
  obtain⟨w',z⟩:=I.cell x c hc
  refine wpAny_storeName_cell I.ok.kind hk hc z (fun h' hc' hs=>?_)
  obtain⟨oc,hoc,hocd⟩:=id z
  refine h { s with heap:=h' } ⟨I.ok,I.os,I.bare,⟨fun b o e n hb hx=>?_,fun b o e n hb hx=>?_,I.base.free,fun b o e hx=>?_,I.base.tups,I.base.frzs,I.base.tbls⟩,⟨m,hn.sameBut hs (Ne.symm (cne x c hc)),fun j y v' e1 e2 e3=>?_⟩,fun y c' e=>?_,I.free,I.freeC,fun p hp=>?_,tracked ⟨oc,hoc,I.freeC x c hc⟩ hs,by simpa using I.len⟩ ⟨c,hs,.inr hc⟩
  ·exact(hs.2 b (Nat.ne_of_lt (Nat.lt_of_lt_of_le (Heap.lt_size e) (I.ok.cab x c hfn hc)))).trans (I.base.keep b o e n hb hx)
  ·obtain⟨sl,e1⟩:=I.base.slot b o e n hb hx
   exact⟨sl,(hs.2 b (Nat.ne_of_lt (Nat.lt_of_lt_of_le (Heap.lt_size e) (I.ok.cab x c hfn hc)))).trans e1⟩
  ·obtain⟨o',e1⟩:=I.base.there b o e hx
   exact⟨o',(hs.2 b (Nat.ne_of_lt (Nat.lt_of_lt_of_le (Heap.lt_size e) (I.ok.cab x c hfn hc)))).trans e1⟩
  ·by_cases hj:j=i
   ·subst hj
    rw[hi] at e1;cases e1
    rw[List.getElem?_set_self hiσ] at e2
    cases e2
    exact⟨u,r,.inr ⟨.inl hk,c,hc,hc'⟩⟩
   ·rw[List.getElem?_set_ne (Ne.symm hj)] at e2
    obtain⟨u',r',q⟩:=hl j y v' e1 e2 e3
    refine⟨u',r',?_⟩
    rcases q with q | ⟨k,c',e,z'⟩
    ·exact .inl q
    ·refine .inr ⟨k,c',e,z'.sameBut hs ?_⟩
     rintro rfl
     exact hj (nodup_ix hN e1 (I.ok.inj _ _ _ e hc ▸ hi))
  ·by_cases hcc:c'=c
   ·subst hcc;exact⟨_,hc'⟩
   ·obtain⟨w2,z2⟩:=I.cell y c' e
    exact⟨w2,z2.sameBut hs hcc⟩
  ·obtain⟨e,n,ne,nf,d⟩:=I.pin p hp
   refine⟨(hs.2 p.1 ?_).trans e,n,ne,nf,d⟩
   intro q
   rw[q,hoc] at e
   have q':oc=p.2:=Option.some.inj e
   exact d w' (by rw[← q'];exact hocd)
theorem store_ok {M:Model}{A:Around}{E:Value→Shared→Prop}{i:Nat}{x:Str}{v:V}{u:Value}{Q:Unit→Shared→Prop}(I:Inv X pins σ H s) (hN:X.N.Nodup) (hi:X.N[i]?=some x) (hx:Loc X.env.scope x) (r:RelV v u)
  (h:∀ s',Inv X pins (σ.set i (some v)) H s'→Q () s') (hf:X.fn x=true∨X.env.scope.names.lookup x=some .local:=by first | exact .inl rfl | exact .inr rfl | assumption):wpAny M A (storeName X.env x u) Q E s :=
 vP I hN hi hx r (fun s' I' _=>h s' I') hf
theorem Inv.call' {s':Shared}{ch:List Addr}(I:Inv X pins σ H s) (ho:s'.os=s.os) (u:Un (frs X.stack) ch H H' s.heap s'.heap) (hok:HOk X.prog X.w H' s'.heap) (hg:AllBare s'.gens)
  (hch:∀ b∈ch,(b∈X.ex∨X.s₀.heap.objs.size≤b)∧b≠X.env.locals∧(∀ x c,X.env.cells.lookup x=some c→c≠b)∧∀ p∈X.pn++pins,p.1≠b):Inv X pins σ H' s':=by
 obtain⟨h',g',d',t',o'⟩:=s'
 have e:o'=s.os:=ho
 subst e
 exact I.call (g':=g') (t':=t') (d':=d') u hok hg hch
end
abbrev XK:=Value→Option Addr→Hp→Prop
abbrev St:=List (Option V)
abbrev VK:=V→Hp→Prop
abbrev TE:=St→Hp→VK→Prop
abbrev TT:=St→Hp→(Bool→Hp→Prop)→Prop
abbrev TA:=St→Hp→(List V→Hp→Prop)→Prop
structure Ends where
 nx:St→Hp→Prop
 rt:VK
 bk:St→Hp→Prop:=fun _ _=>False
 ct:St→Hp→Prop:=fun _ _=>False
abbrev TS:=Ends→St→Hp→Prop
def EP (X:Cx) (pins:List (Addr×Obj)) (σ:St) (Q:VK) (u:Value) (s':Shared):Prop:=∃ v H',Inv X pins σ H' s'∧RelV v u∧Q v H'
def TP (X:Cx) (pins:List (Addr×Obj)) (σ:St) (Q:Bool→Hp→Prop) (b:Bool) (s':Shared):Prop:=∃ H',Inv X pins σ H' s'∧Q b H'
def AP (X:Cx) (pins:List (Addr×Obj)) (σ:St) (Q:List V→Hp→Prop) (us:List Value) (s':Shared):Prop:=∃ vs H',Inv X pins σ H' s'∧Vals vs us∧Q vs H'
def SP (X:Cx) (pins:List (Addr×Obj)) (D:Ends) (f:Flow) (s':Shared):Prop :=
 match f with
 |.next=>∃ σ' H',Inv X pins σ' H' s'∧D.nx σ' H'
 |.brk=>∃ σ' H',Inv X pins σ' H' s'∧D.bk σ' H'
 |.cont=>∃ σ' H',Inv X pins σ' H' s'∧D.ct σ' H'
 |.ret u=>∃ v σ' H',Inv X pins σ' H' s'∧RelV v u∧D.rt v H'
def PE (X:Cx) (e:Expr) (t:TE):Prop :=
 ∀ (pins:List (Addr×Obj)) (s:Shared) (σ:St) (H:Hp) (Q:VK),Inv X pins σ H s→t σ H Q→wpAny (model X.prog X.w) X.A (eval e X.env) (EP X pins σ Q) X.xe s
def PT (X:Cx) (e:Expr) (t:TT):Prop :=
 ∀ (pins:List (Addr×Obj)) (s:Shared) (σ:St) (H:Hp) (Q:Bool→Hp→Prop),Inv X pins σ H s→t σ H Q→wpAny (model X.prog X.w) X.A (isTrue e X.env (eval e X.env)) (TP X pins σ Q) X.xe s
def PW (X:Cx) (e:Expr) (t:TT):Prop :=
 ∀ (whole:Sem Value) (pins:List (Addr×Obj)) (s:Shared) (σ:St) (H:Hp) (Q:Bool→Hp→Prop),Inv X pins σ H s→t σ H Q→wpAny (model X.prog X.w) X.A (isTrue e X.env whole) (TP X pins σ Q) X.xe s
theorem PW.pt {X:Cx}{e:Expr}{t:TT}(h:PW X e t):PT X e t:=h _
def PA (X:Cx) (es:List Expr) (t:TA):Prop :=
 ∀ (pos:Pos) (pins:List (Addr×Obj)) (s:Shared) (σ:St) (H:Hp) (Q:List V→Hp→Prop),Inv X pins σ H s→t σ H Q→wpAny (model X.prog X.w) X.A (spliced (backTo pos (starEach es X.env))) (AP X pins σ Q) X.xe s
def PS (X:Cx) (st:Stmt) (t:TS):Prop :=
 ∀ (pins:List (Addr×Obj)) (s:Shared) (σ:St) (H:Hp) (D:Ends),Inv X pins σ H s→t D σ H→wpAny (model X.prog X.w) X.A (exec st X.env) (SP X pins D) X.xe s
def PSs (X:Cx) (st:List Stmt) (t:TS):Prop :=
 ∀ (pins:List (Addr×Obj)) (s:Shared) (σ:St) (H:Hp) (D:Ends),Inv X pins σ H s→t D σ H→wpAny (model X.prog X.w) X.A (execs st X.env) (SP X pins D) X.xe s
theorem thn {α:Type}{t:Sem α}{Q Q':α→Shared→Prop}{M:Model}{A:Around}{E:Value→Shared→Prop}{s:Shared}(h:wpAny M A t Q E s) (hQ:∀ a s,Q a s→Q' a s):wpAny M A t Q' E s:=wpAny_mono h hQ fun _ _ x=>x
section
variable {X:Cx}
theorem bin {a b:Expr}{ta tb:TE}(ha:PE X a ta) (hb:PE X b tb){pins:List (Addr×Obj)}{s:Shared}{σ:St}{H:Hp}{R:V→V→Hp→Prop}(I:Inv X pins σ H s) (h:ta σ H fun x H1=>tb σ H1 fun y H2=>R x y H2)
  {α:Type}{Q:α→Shared→Prop}{f:Value→Value→Sem α}
  (hf:∀ v u s2 x y H2,Inv X pins σ H2 s2→RelV x v→RelV y u→R x y H2→wpAny (model X.prog X.w) X.A (f v u) Q X.xe s2) :
  wpAny (model X.prog X.w) X.A (eval a X.env) (fun v s₁=>wpAny (model X.prog X.w) X.A (eval b X.env) (fun u s₂=>wpAny (model X.prog X.w) X.A (f v u) Q X.xe s₂) X.xe s₁) X.xe s:=by
 refine thn (ha pins s σ H _ I h) fun v s1 hq0=>?_
 obtain⟨x,H1,I1,r1,q1⟩:=hq0
 refine thn (hb pins s1 σ H1 _ I1 q1) fun u s2 hq0=>?_
 obtain⟨y,H2,I2,r2,q2⟩:=hq0
 exact hf v u s2 x y H2 I2 r1 r2 q2
def Z4 (i:Nat):TE:=fun σ H Q=>∃ v,σ[i]?=some (some v)∧Q v H
def tC (v:V):TE:=fun _ H Q=>Q v H
theorem UG {i:Nat}{x:Str}{pos:Pos}(hN:X.N[i]?=some x) (hv:Vis X.env.scope x) (hd:(x == ("__debug__" : Str))=false:=by decide) (hcd:(x == ("__classdict__" : Str))=false:=by decide):PE X (.Name x pos) (Z4 i):=by
 intro pins s σ H Q I h
 obtain⟨v,e,h⟩:=h
 obtain⟨m,hn,hl⟩:=I.loc
 obtain⟨u,r,l⟩:=hl i x v hN e hv
 have fin:EP X pins σ Q u s:=⟨v,H,I,r,h⟩
 rcases l with⟨hk,hm⟩ | ⟨hk,c,hc,hcell⟩
 ·exact wpAny_Name (wpAny_loadName_local I.ok.kind hk hn hm fin) hd
 ·rcases hk with hk | hk
  ·exact wpAny_Name (wpAny_loadName_cell I.ok.kind hk hc hcell fin) hd
  ·exact wpAny_Name (wpAny_loadName_free I.ok.kind hk hc hcell fin hcd) hd
theorem xg {i j pos}:PE X (.Constant (.int i) j pos) (tC (.int i)):=fun _ _ _ H _ I h=>wpAny_Constant_int ⟨.int i,H,I.tok _,⟨_,rfl⟩,h⟩
theorem wM {b j pos}:PE X (.Constant (.bool b) j pos) (tC (.bl b)):=fun _ _ _ H _ I h=>Constant_bool ⟨.bl b,H,I,rfl,h⟩
theorem yD {j pos}:Bx (PE X (.Constant .none j pos) (tC .non)):=by
 exact⟨fun _ _ _ H _ I h=>Constant_none ⟨.non,H,I,rfl,h⟩⟩
def Gl (X:Cx) (x:Str):Prop:=X.env.kindOf x=some .globalImplicit
theorem ld_glob {E:Value→Shared→Prop}{pins:List (Addr×Obj)}{s:Shared}{σ:St}{H:Hp}{x:Str}{u:Value}{pos:Pos}{Q:Value→Shared→Prop}(I:Inv X pins σ H s) (hg:Gl X x) (hm:X.mg x=some u) (h:Q u s)
  (hd:(x == ("__debug__" : Str))=false:=by decide):wpAny (model X.prog X.w) X.A (eval (.Name x pos) X.env) Q E s :=
 Calls.Name_function_global I.ok.kind hg (Calls.loadGlobal_global (by rw[I.ok.glob];exact I.mod.glob.keeps I.bk) hm h) hd
theorem ld_blt {E:Value→Shared→Prop}{pins:List (Addr×Obj)}{s:Shared}{σ:St}{H:Hp}{x:Str}{u:Value}{pos:Pos}{Q:Value→Shared→Prop}(I:Inv X pins σ H s) (hg:Gl X x) (hm:X.mg x=none) (hv:bootBuiltins x=some u) (h:Q u s)
  (hn:x ≠ "__name__" := by decide) (hd:(x == ("__debug__" : Str))=false:=by decide):wpAny (model X.prog X.w) X.A (eval (.Name x pos) X.env) Q E s:=by
 obtain⟨mb,h1,h2⟩:=I.mod.blt
 exact Calls.Name_function_global I.ok.kind hg (Calls.loadGlobal_builtin (by rw[I.ok.glob];exact I.mod.glob.keeps I.bk) hm (by rw[I.ok.blt];exact h1.keeps I.bk) ((h2 x hn).trans hv) h) hd
theorem uz {x:Str}{v:V}{u:Value}{pos:Pos}(hg:Gl X x) (hm:X.mg x=some u) (r:RelV v u) (hd:(x == ("__debug__" : Str))=false:=by decide):PE X (.Name x pos) (tC v) :=
 fun _ _ _ H _ I h=>ld_glob I hg hm ⟨v,H,I,r,h⟩ hd
theorem Vz {x:Str}{v:V}{u:Value}{pos:Pos}(hg:Gl X x) (hm:X.mg x=none) (hv:bootBuiltins x=some u) (r:RelV v u) (hn:x ≠ "__name__" := by decide) (hd:(x == ("__debug__" : Str))=false:=by decide):PE X (.Name x pos) (tC v) :=
 fun _ _ _ H _ I h=>ld_blt I hg hm hv ⟨v,H,I,r,h⟩ hn hd
variable {a b:Expr}{ta tb:TE}{pos:Pos}
def PC (X:Cx) (op:CmpOp) (a b:Expr) (t:TE):Prop :=
 ∀ (pins:List (Addr×Obj)) (s:Shared) (σ:St) (H:Hp) (Q:VK),Inv X pins σ H s→t σ H Q →
  wpAny (model X.prog X.w) X.A (eval a X.env) (fun v s₁=>wpAny (model X.prog X.w) X.A (eval b X.env) (fun u s₂=>wpAny (model X.prog X.w) X.A (compareOp op v u) (EP X pins σ Q) X.xe s₂) X.xe s₁) X.xe s
def tB (t:TE):TT:=fun σ H Q=>t σ H fun x H1=>∃ c,x=.bl c∧Q c H1
theorem Xl {op:CmpOp}{t:TE}(h:Bx (PC X op a b t)) (h1:behindInMarks op b=false:=by first | exact nobehind _ (by decide) (by decide) | rfl):Bx (PE X (.Compare a [op] [b] pos) t):=by
 have h:=h.of
 exact⟨fun pins s σ H Q I hw=>wpAny_Compare1 (h pins s σ H Q I hw) h1⟩
theorem Wz {op:CmpOp}{t:TE}(h:PC X op a b t) (h1:behindInMarks op b=false:=by first | exact nobehind _ (by decide) (by decide) | rfl):PT X (.Compare a [op] [b] pos) (tB t):=by
 intro pins s σ H Q I hw
 refine wpAny_isTrue_Compare1 (thn (h pins s σ H _ I hw) fun v s1 h1=>thn h1 fun u s2 h2=>thn h2 fun c s3 hq0=>?_) h1
 obtain⟨x,H1,I1,r1,q1⟩:=hq0
 obtain⟨d,rfl,q⟩:=q1
 cases r1
 exact wpAny_truthy_bool ⟨H1,I1,q⟩
theorem xc {e:Expr}{t:TE}(h:PE X e t) (he:∀ whole,isTrue e X.env whole=(do let v ← whole;standAt e.pos;holding [v] (truthy v)):=by intro _;rfl):PT X e (tB t):=by
 intro pins s σ H Q I hw
 refine isTrue_plain (thn (h pins s σ H _ I hw) fun v s1 hq0=>?_) (he _)
 obtain⟨x,H1,I1,r1,q1⟩:=hq0
 obtain⟨d,rfl,q⟩:=q1
 cases r1
 exact wpAny_truthy_bool ⟨H1,I1,q⟩
variable {tA tB':TT}{rest:List Expr}
def zca (t u:TT):TT:=fun σ H Q=>t σ H fun c H1=>if c=true then u σ H1 Q else Q false H1
def tOr (t u:TT):TT:=fun σ H Q=>t σ H fun c H1=>if c=true then Q true H1 else u σ H1 Q
def zbx (t:TT):TT:=fun σ H Q=>t σ H fun c H1=>Q (!c) H1
theorem yr (ha:Bx (PT X a tA)):Bx (PW X (.BoolOp .And [a] pos) tA):=by
 have ha:=ha.of
 refine⟨?_⟩
 intro wh pins s σ H Q I h
 refine isTrue_and (thn (ha pins s σ H Q I h) fun c s1 e=>?_)
 cases c with
 |true=>exact isTrue_and_nil e
 |false=>exact e
theorem wV (ha:PT X a tA):PW X (.BoolOp .Or [a] pos) tA:=by
 intro wh pins s σ H Q I h
 refine isTrue_or (thn (ha pins s σ H Q I h) fun c s1 e=>?_)
 cases c with
 |false=>exact isTrue_or_nil e
 |true=>exact e
theorem yB (ha:Bx (PT X a tA)) (hb:Bx (PW X (.BoolOp .And (b::rest) pos) tB')):Bx (PW X (.BoolOp .And (a::b::rest) pos) (zca tA tB')):=by
 have ha:=ha.of
 have hb:=hb.of
 refine⟨?_⟩
 intro wh pins s σ H Q I h
 refine isTrue_and (thn (ha pins s σ H _ I h) fun c s1 hq0=>?_)
 obtain⟨H1,I1,q1⟩:=hq0
 cases c with
 |true=>exact hb wh pins s1 σ H1 Q I1 q1
 |false=>exact⟨H1,I1,q1⟩
theorem vT (ha:PT X a tA) (hb:PW X (.BoolOp .Or (b::rest) pos) tB'):PW X (.BoolOp .Or (a::b::rest) pos) (tOr tA tB'):=by
 intro wh pins s σ H Q I h
 refine isTrue_or (thn (ha pins s σ H _ I h) fun c s1 hq0=>?_)
 obtain⟨H1,I1,q1⟩:=hq0
 cases c with
 |true=>exact⟨H1,I1,q1⟩
 |false=>exact hb wh pins s1 σ H1 Q I1 q1
theorem xf (ha:PT X a tA):PT X (.UnaryOp .Not a pos) (zbx tA):=by
 intro pins s σ H Q I h
 exact isTrue_not (ha pins s σ H (fun c H1=>Q (!c) H1) I h)
def tAndV (ta tb:TE):TE:=fun σ H Q=>ta σ H fun x H1=>∃ c,x=.bl c∧if c=true then tb σ H1 Q else Q (.bl false) H1
def zaw (ta tb:TE):TE:=fun σ H Q=>ta σ H fun x H1=>∃ c,x=.bl c∧if c=true then Q (.bl true) H1 else tb σ H1 Q
def Uf (ta:TE):TE:=fun σ H Q=>ta σ H fun x H1=>∃ c,x=.bl c∧Q (.bl (!c)) H1
theorem Yq {op}{t:TE}(h:PE X a t):PE X (.BoolOp op [a] pos) t:=fun pins s σ H Q I hw=>BoolOp_one (h pins s σ H Q I hw)
theorem Zh (ha:PE X a ta) (hb:PE X (.BoolOp .And (b::rest) pos) tb):PE X (.BoolOp .And (a::b::rest) pos) (tAndV ta tb):=by
 intro pins s σ H Q I h
 refine BoolOp_and (thn (ha pins s σ H _ I h) fun v s1 hq0=>?_)
 obtain⟨x,H1,I1,r1,q1⟩:=hq0
 obtain⟨c,rfl,q1⟩:=q1
 cases r1
 refine wpAny_truthy_bool ?_
 cases c with
 |true=>exact hb pins s1 σ H1 Q I1 q1
 |false=>exact⟨.bl false,H1,I1,rfl,q1⟩
theorem uo (ha:Bx (PE X a ta)) (hb:Bx (PE X (.BoolOp .Or (b::rest) pos) tb)):Bx (PE X (.BoolOp .Or (a::b::rest) pos) (zaw ta tb)):=by
 have ha:=ha.of
 have hb:=hb.of
 refine⟨?_⟩
 intro pins s σ H Q I h
 refine BoolOp_or (thn (ha pins s σ H _ I h) fun v s1 hq0=>?_)
 obtain⟨x,H1,I1,r1,q1⟩:=hq0
 obtain⟨c,rfl,q1⟩:=q1
 cases r1
 refine wpAny_truthy_bool ?_
 cases c with
 |false=>exact hb pins s1 σ H1 Q I1 q1
 |true=>exact⟨.bl true,H1,I1,rfl,q1⟩
theorem WB (ha:PE X a ta):PE X (.UnaryOp .Not a pos) (Uf ta):=by
 intro pins s σ H Q I h
 refine UnaryOp_ (thn (ha pins s σ H _ I h) fun v s1 hq0=>?_)
 obtain⟨x,H1,I1,r1,q1⟩:=hq0
 obtain⟨c,rfl,q1⟩:=q1
 cases r1
 exact not_of (wpAny_truthy_bool ⟨.bl (!c),H1,I1,rfl,q1⟩)
end
def SqL (K:PySem.W.Frag) (H:Hp) (a:Addr) (xs:List V):Prop :=
 Rd H a (.lst xs) ∨
  ∃ (o:Obj) (its:Array Value) (n:Nat),K.lookup a=some o∧o.cls=.type "list" ∧ o.dict=none∧o.data=.seq its n∧its.size≤sizeLine∧Vals xs its.toList
def SqT (K:PySem.W.Frag) (H:Hp) (a:Addr) (xs:List V):Prop :=
 Rd H a (.tup xs) ∨
  ∃ (o:Obj) (its:Array Value) (n:Nat),K.lookup a=some o∧o.cls=.type "tuple" ∧ o.data=.seq its n∧its.size≤sizeLine∧Vals xs its.toList
noncomputable def zct:Value→Option V
 |.none=>some .non
 |.bool b=>some (.bl b)
 |.int i _=>some (.int i)
 |.str x _=>some (.str x)
 |.bytes b _=>some (.byt b)
 |.float b _=>some (.flt b)
 |.ref a=>some (.ref a)
 |.type n=>some (.ty n)
 |_=>none
theorem RelV.abs {x:V}{u:Value}(r:RelV x u):zct u=some x:=by
 cases x with
 |non=>cases r;rfl
 |bl _=>cases r;rfl
 |int _=>obtain⟨t,rfl⟩:=r;rfl
 |str _=>obtain⟨t,rfl⟩:=r;rfl
 |byt _=>obtain⟨t,rfl⟩:=r;rfl
 |flt _=>obtain⟨t,rfl⟩:=r;rfl
 |ref _=>cases r;rfl
 |ty _=>cases r;rfl
theorem RelV.inj {x y:V}{u:Value}(r:RelV x u) (q:RelV y u):x=y:=Option.some.inj (r.abs.symm.trans q.abs)
theorem Vals.inj:∀ {xs ys:List V}{us:List Value},Vals xs us→Vals ys us→xs=ys
 |_,_,_,.nil,.nil=>rfl
 |_,_,_,.cons r t,.cons r' t'=>by rw[r.inj r',Vals.inj t t']
section
variable {X:Cx}{pins:List (Addr×Obj)}{σ:St}{H:Hp}{s:Shared}{a:Addr}{xs ys:List V}
theorem SqL.of {K:PySem.W.Frag}(h:H a=some (.lst xs)):SqL K H a xs:=.inl (.inl h)
theorem SqT.of {K:PySem.W.Frag}(h:H a=some (.tup xs)):SqT K H a xs:=.inl (.inl h)
theorem Inv.list (I:Inv X pins σ H s) (h:SqL X.K H a xs):∃ its:List Value,Vals xs its∧PlainL s.heap a its.toArray∧xs.length≤sizeLine:=by
 rcases h with h | ⟨o,its,n,hk,hc,hd,hs,hz,r⟩
 ·obtain⟨z,its,n,r,e⟩:=h.ok I.hok
  exact⟨its,r,⟨_,n,e,rfl,rfl,rfl⟩,z⟩
 ·refine⟨its.toList,r,⟨o,n,I.kIn a o hk,hc,hd,by simpa using hs⟩,?_⟩
  have e:=r.length
  simp only[Array.length_toList] at e
  omega
theorem Inv.tuple (I:Inv X pins σ H s) (h:SqT X.K H a xs):∃ its:List Value,Vals xs its∧IsTup s.heap a its.toArray∧xs.length≤sizeLine:=by
 rcases h with h | ⟨o,its,n,hk,hc,hs,hz,r⟩
 ·obtain⟨z,its,r,p⟩:=h.ok I.hok
  exact⟨its,r,p,z⟩
 ·refine⟨its.toList,r,⟨o,I.kIn a o hk,hc,n,by simpa using hs⟩,?_⟩
  have e:=r.length
  simp only[Array.length_toList] at e
  omega
theorem Inv.list_inj (I:Inv X pins σ H s) (h:SqL X.K H a xs) (h':SqL X.K H a ys):xs=ys:=by
 obtain⟨its,r,⟨o,n,e,_,_,d⟩,_⟩:=I.list h
 obtain⟨its',r',⟨o',n',e',_,_,d'⟩,_⟩:=I.list h'
 rw[e] at e';cases e'
 rw[d] at d'
 injection d' with d1 _
 have:its=its':=by simpa using congrArg Array.toList d1
 subst this
 exact r.inj r'
theorem Inv.tuple_inj (I:Inv X pins σ H s) (h:SqT X.K H a xs) (h':SqT X.K H a ys):xs=ys:=by
 obtain⟨its,r,⟨o,e,_,n,d⟩,_⟩:=I.tuple h
 obtain⟨its',r',⟨o',e',_,n',d'⟩,_⟩:=I.tuple h'
 rw[e] at e';cases e'
 rw[d] at d'
 injection d' with d1 _
 have:its=its':=by simpa using congrArg Array.toList d1
 subst this
 exact r.inj r'
end
noncomputable abbrev Cx.wish (X:Cx) (E:Value→Shared→Prop):Cx:={ X with xe:=E }
noncomputable abbrev Cx.nox (X:Cx):Cx:=X.wish fun _ _=>False
theorem Cx.Ok.wish {X:Cx}(ok:X.Ok) (E:Value→Shared→Prop):(X.wish E).Ok :=
 ⟨ok.mod,ok.kind,ok.glob,ok.blt,ok.above,ok.inj,ok.has,ok.cab,ok.hd,ok.frames,ok.stk,ok.exf,ok.bs,ok.bsz,ok.noex,ok.exfs,ok.funs,ok.frf⟩
theorem Cx.Ok.unwish {X:Cx}{E:Value→Shared→Prop}(ok:(X.wish E).Ok):X.Ok :=
 ⟨ok.mod,ok.kind,ok.glob,ok.blt,ok.above,ok.inj,ok.has,ok.cab,ok.hd,ok.frames,ok.stk,ok.exf,ok.bs,ok.bsz,ok.noex,ok.exfs,ok.funs,ok.frf⟩
section
variable {X:Cx}{pins:List (Addr×Obj)}{σ:St}{H:Hp}{s:Shared}{E:Value→Shared→Prop}
theorem Inv.wish (I:Inv X pins σ H s) (E:Value→Shared→Prop):Inv (X.wish E) pins σ H s:=⟨I.ok.wish E,I.os,I.bare,I.base,I.loc,I.cell,I.free,I.freeC,I.pin,I.hok,I.len⟩
theorem Inv.unwish (I:Inv (X.wish E) pins σ H s):Inv X pins σ H s:=⟨I.ok.unwish,I.os,I.bare,I.base,I.loc,I.cell,I.free,I.freeC,I.pin,I.hok,I.len⟩
theorem SP.unwish {D:Ends}{f:Flow}{s':Shared}(h:SP (X.wish E) pins D f s'):SP X pins D f s':=by
 cases f with
 |next=>obtain⟨σ',H',I,q⟩:=h;exact⟨σ',H',I.unwish,q⟩
 |brk=>obtain⟨σ',H',I,q⟩:=h;exact⟨σ',H',I.unwish,q⟩
 |cont=>obtain⟨σ',H',I,q⟩:=h;exact⟨σ',H',I.unwish,q⟩
 |ret u=>obtain⟨v,σ',H',I,r,q⟩:=h;exact⟨v,σ',H',I.unwish,r,q⟩
theorem PSs.nox {st:List Stmt}{t:TS}(h:PSs X.nox st t):PSs X st t:=fun pins s σ H D I hw =>
 wpAny_mono (h pins s σ H D (I.wish _) hw) (fun _ _ q=>q.unwish) fun _ _ z=>False.elim z
end
section
variable {X:Cx}{st:Stmt}{rest:List Stmt}{t u:TS}{e:Expr}{te:TE}{pos:Pos}
def Ug:TS:=fun D σ H=>D.nx σ H
def zbv (t u:TS):TS:=fun D σ H=>t { D with nx:=u D } σ H
theorem yO:PSs X [] Ug:=fun _ _ σ H _ I h=>wpAny_execs_nil ⟨σ,H,I,h⟩
theorem zS (h1:PS X st t) (h2:PSs X rest u):PSs X (st::rest) (zbv t u):=by
 intro pins s σ H D I h
 refine wpAny_execs_cons (thn (h1 pins s σ H { D with nx:=u D } I h) fun f s1 q=>?_)
 cases f with
 |next =>
  obtain⟨σ',H',I',q⟩:=q
  exact h2 pins s1 σ' H' D I' q
 |ret v=>exact q
 |brk=>exact q
 |cont=>exact q
theorem yb (h1:PS X st t):PSs X [st] t:=by
 intro pins s σ H D I h
 refine wpAny_execs_cons (thn (h1 pins s σ H D I h) fun f s1 q=>?_)
 cases f with
 |next=>exact wpAny_execs_nil q
 |ret v=>exact q
 |brk=>exact q
 |cont=>exact q
theorem Inv.quiet {pins:List (Addr×Obj)}{σ:St}{H:Hp}{s:Shared}(I:Inv X pins σ H s):interactive X.env=false:=by simp[interactive,I.ok.kind]
def Uj (te:TE):TS:=fun D σ H=>te σ H fun _ H1=>D.nx σ H1
theorem uv (he:PE X e te) (hs:swapsWith e none pos.line X.env=pure false:=by rfl):PS X (.Expr e pos) (Uj te):=by
 intro pins s σ H D I h
 exact wpAny_Expr_any (thn (he pins s σ H _ I h) fun v s1 ⟨x,H1,I1,r1,q1⟩=>⟨σ,H1,I1,q1⟩) I.quiet hs
def zbw (te:TE):TS:=fun D σ H=>te σ H D.rt
theorem yQ (he:PE X e te):PS X (.Return (some e) pos) (zbw te):=by
 intro pins s σ H D I h
 exact wpAny_Return_some (thn (he pins s σ H _ I h) fun v s1 ⟨x,H1,I1,r1,q1⟩=>⟨x,σ,H1,I1,r1,q1⟩)
def zbz (c:TT) (t u:TS):TS:=fun D σ H=>c σ H fun b H1=>if b=true then t D σ H1 else u D σ H1
theorem vo {c:Expr}{a b:List Stmt}{tc:TT}(hc:PT X c tc) (ha:PSs X a t) (hb:PSs X b u):PS X (.If c a b pos) (zbz tc t u):=by
 intro pins s σ H D I h
 refine wpAny_If (thn (hc pins s σ H _ I h) fun d s1 hq0=>?_)
 obtain⟨H1,I1,q1⟩:=hq0
 cases d with
 |true=>exact ha pins s1 σ H1 D I1 q1
 |false=>exact hb pins s1 σ H1 D I1 q1
def Wp:TS:=fun _ _ _=>False
theorem vn:PS X st Wp:=fun _ _ _ _ _ _ h=>h.elim
end
abbrev TG:=V→St→Hp→(St→Hp→Prop)→Prop
abbrev TGs:=List V→St→Hp→(St→Hp→Prop)→Prop
def PG (X:Cx) (target:Expr) (t:TG):Prop :=
 ∀ (pins:List (Addr×Obj)) (s:Shared) (σ:St) (H:Hp) (v:V) (u:Value) (Q:St→Hp→Prop),Inv X pins σ H s→RelV v u→t v σ H Q →
  wpAny (model X.prog X.w) X.A (assign target X.env u) (fun _ s'=>∃ σ' H',Inv X pins σ' H' s'∧Q σ' H') X.xe s
def PGs (X:Cx) (ts:List Expr) (t:TGs):Prop :=
 ∀ (pins:List (Addr×Obj)) (s:Shared) (σ:St) (H:Hp) (vs:List V) (us:List Value) (Q:St→Hp→Prop),Inv X pins σ H s→Vals vs us→t vs σ H Q →
  wpAny (model X.prog X.w) X.A (assignInOrder ((assignEach ts X.env).map (·.2)) us) (fun _ s'=>∃ σ' H',Inv X pins σ' H' s'∧Q σ' H') X.xe s
abbrev TIp:=V→V→Hp→VK→Prop
def PIp (X:Cx) (op:Operator) (t:TIp):Prop :=
 ∀ (pins:List (Addr×Obj)) (s:Shared) (σ:St) (H:Hp) (x y:V) (v u:Value) (Q:VK),Inv X pins σ H s→RelV x v→RelV y u→t x y H Q →
  wpAny (model X.prog X.w) X.A (inplaceOp op v u) (EP X pins σ Q) X.xe s
section
variable {X:Cx}{pos:Pos}
def v9 (i:Nat):TG:=fun v σ H Q=>Q (σ.set i (some v)) H
theorem xQ {i:Nat}{x:Str}(hN:X.N.Nodup) (hi:X.N[i]?=some x) (hx:Loc X.env.scope x) (hf:X.fn x=true∨X.env.scope.names.lookup x=some .local:=by first | exact .inl rfl | exact .inr rfl | assumption):PG X (.Name x pos) (v9 i):=by
 intro pins s σ H v u Q I r h
 exact wpAny_assign_Name (store_ok I hN hi hx r (fun s' I'=>⟨_,H,I',h⟩) hf)
def gNil:TGs:=fun vs σ H Q=>vs=[]∧Q σ H
def zab (t:TG) (u:TGs):TGs:=fun vs σ H Q=>∃ v r,vs=v::r∧t v σ H fun σ' H'=>u r σ' H' Q
theorem Yo:PGs X [] gNil:=by
 intro pins s σ H vs us Q I r h
 obtain⟨e,h⟩:=h
 subst e
 cases r
 exact assignInOrder_nil ⟨σ,H,I,h⟩
theorem vp {e:Expr}{es:List Expr}{t:TG}{u:TGs}(h1:PG X e t) (h2:PGs X es u)
  (hs:(assignEach (e::es) X.env).map (·.2)=assign e X.env::(assignEach es X.env).map (·.2):=by rfl):PGs X (e::es) (zab t u):=by
 intro pins s σ H vs us Q I r h
 obtain⟨v,vr,e1,h⟩:=h
 subst e1
 cases r with
 |cons r rr =>
  rw[hs]
  refine assignInOrder_cons (thn (h1 pins s σ H _ _ _ I r h) fun _ s1 hq0=>?_)
  obtain⟨σ1,H1,I1,q1⟩:=hq0
  exact h2 pins s1 σ1 H1 _ _ Q I1 rr q1
def zb2 (K:PySem.W.Frag) (n:Nat) (t:TGs):TG:=fun v σ H Q=>∃ a xs,v=.ref a∧SqT K H a xs∧xs.length=n∧t xs σ H Q
theorem WA {es:List Expr}{k:Nat}{t:TGs}{n:Nat}(hc:X.calm=true) (h:PGs X es t)
  (hn:(assignEach es X.env).length=n:=by rfl) (hst:(assignEach es X.env).findIdx? (·.1)=none:=by rfl):PG X (.Tuple es k pos) (zb2 X.K n t):=by
 intro pins s σ H v u Q I r hw
 obtain⟨a,xs,e1,hq,hl,hw⟩:=hw
 subst e1
 cases r
 obtain⟨its,rv,ht,hz⟩:=I.tuple hq
 refine assign_Tuple_tuple (I.ok.hd hc) ht (by simp[hn,← hl,rv.length]) hst fun h' hx=>?_
 have I1:Inv X pins σ H { s with heap:=h' }:=I.kept (t':=s.toks) fun b o e=>hx b o (Nat.ne_of_lt (Heap.lt_size e)) e
 exact h pins _ σ H xs _ Q I1 (by simpa using rv) hw
def zaB (te:TE) (g:TG):TS:=fun D σ H=>te σ H fun x H1=>g x σ H1 D.nx
theorem vU {i:Nat}{x:Str}{e:Expr}{te:TE}{pos':Pos}(hN:X.N.Nodup) (hi:X.N[i]?=some x) (hx:Loc X.env.scope x) (he:PE X e te) (hs:swapsWith e (some (.Name x pos')) pos.line X.env=pure false:=by rfl) (hf:X.fn x=true∨X.env.scope.names.lookup x=some .local:=by first | exact .inl rfl | exact .inr rfl | assumption) :
  PS X (.Assign [.Name x pos'] e pos) (zaB te (v9 i)):=by
 intro pins s σ H D I h
 refine wpAny_Assign_Name (thn (he pins s σ H _ I h) fun v s1 hq0=>?_) hs
 obtain⟨y,H1,I1,r1,q1⟩:=hq0
 exact store_ok I1 hN hi hx r1 (fun s2 I2=>⟨_,H1,I2,q1⟩) hf
def zb9 (i:Nat) (te:TE) (ti:TIp):TS:=fun D σ H=>∃ x,σ[i]?=some (some x)∧te σ H fun y H1=>ti x y H1 fun z H2=>D.nx (σ.set i (some z)) H2
theorem Xi {i:Nat}{x:Str}{e:Expr}{te:TE}{op:Operator}{ti:TIp}{pos':Pos}(hN:X.N.Nodup) (hi:X.N[i]?=some x) (hx:Loc X.env.scope x) (he:Bx (PE X e te)) (ho:PIp X op ti) (hf:X.fn x=true∨X.env.scope.names.lookup x=some .local:=by first | exact .inl rfl | exact .inr rfl | assumption):Bx (PS X (.AugAssign (.Name x pos') op e pos) (zb9 i te ti)):=by
 have he:=he.of
 refine⟨?_⟩
 intro pins s σ H D I h
 obtain⟨v,e1,h⟩:=h
 obtain⟨m,hn,hl⟩:=I.loc
 have vis:Vis X.env.scope x:=by rcases hx with k | k;exact .inl k;exact .inr (.inl k)
 obtain⟨u,r,l⟩:=hl i x v hi e1 vis
 refine wpAny_AugAssign_Name ?_
 have go:wpAny (model X.prog X.w) X.A (eval e X.env) (fun w s₂=>wpAny (model X.prog X.w) X.A (inplaceOp op u w) (fun r s₃=>wpAny (model X.prog X.w) X.A (storeName X.env x r) (fun _=>SP X pins D .next) X.xe s₃) X.xe s₂) X.xe s:=by
  refine thn (he pins s σ H _ I h) fun w s1 hq0=>?_
  obtain⟨y,H1,I1,r1,q1⟩:=hq0
  refine thn (ho pins s1 σ H1 v y u w _ I1 r r1 q1) fun z s2 hq0=>?_
  obtain⟨zv,H2,I2,r2,q2⟩:=hq0
  exact store_ok I2 hN hi hx r2 (fun s3 I3=>⟨_,H2,I3,q2⟩) hf
 rcases l with⟨hk,hm⟩ | ⟨hk,c,hc,hcell⟩
 ·exact wpAny_loadName_local I.ok.kind hk hn hm go
 ·rcases hk with hk | hk
  ·exact wpAny_loadName_cell I.ok.kind hk hc hcell go
  ·rcases hx with k | k
   ·have:X.env.scope.names.lookup x=some .free:=hk
    rw[k] at this;cases this
   ·have:X.env.scope.names.lookup x=some .free:=hk
    rw[k] at this;cases this
def ipI (f:Int→Int→Int):TIp:=fun x y H Q=>∃ i j,x=.int i∧y=.int j∧Q (.int (f i j)) H
theorem U8:PIp X .Add (ipI fun i j=>i+j):=by
 intro pins s σ H x y v u Q I r1 r2 h
 obtain⟨i,j,e1,e2,q⟩:=h
 subst e1;subst e2
 obtain⟨t,rfl⟩:=r1
 obtain⟨t',rfl⟩:=r2
 exact iadd_int ⟨.int _,H,I.tok _,⟨_,rfl⟩,q⟩
def Ud (c:TT) (tb:TS):TS:=fun D σ H=>∃ W:Nat→St→Hp→Prop,(∃ m,W m σ H)∧∀ m σ H,W m σ H →
 c σ H fun b H1=>if b=true then ∃ N:St→Hp→Prop,(∀ σ' H',N σ' H'→∃ m',m'<m∧W m' σ' H')∧tb { D with nx:=N,ct:=N,bk:=D.nx } σ H1 else D.nx σ H1
theorem yG {c:Expr}{body:List Stmt}{tc:TT}{tb:TS}(hp:PassesOwn (model X.prog X.w) X.A X.env X.xe) (hc:Bx (PT X c tc)) (hb:Bx (PSs X body tb)):Bx (PS X (.While c body [] pos) (Ud tc tb)):=by
 have hc:=hc.of
 have hb:=hb.of
 refine⟨?_⟩
 intro pins s σ H D I h
 obtain⟨W,⟨m0,w0⟩,turn⟩:=h
 refine wpAny_While (codeAny_whileLoop (fun n s'=>∃ σ' H',Inv X pins σ' H' s'∧W n σ' H') ?_ m0 ⟨σ,H,I,w0⟩)
 rintro n s1 ⟨σ1,H1,I1,w1⟩
 refine wpAny_passesOwn hp (thn (hc pins s1 σ1 H1 _ I1 (turn n σ1 H1 w1)) fun b s2 hq0=>?_)
 obtain⟨H2,I2,q2⟩:=hq0
 cases b with
 |true =>
  obtain⟨N,hN,q2⟩:=q2
  rw[if_pos rfl]
  refine wpAny_passesOwn hp (thn (hb pins s2 σ1 H2 _ I2 q2) fun f s3 q3=>?_)
  cases f with
  |next =>
   obtain⟨σ3,H3,I3,n3⟩:=q3
   obtain⟨m',hm,w3⟩:=hN σ3 H3 n3
   exact⟨m',hm,σ3,H3,I3,w3⟩
  |cont =>
   obtain⟨σ3,H3,I3,n3⟩:=q3
   obtain⟨m',hm,w3⟩:=hN σ3 H3 n3
   exact⟨m',hm,σ3,H3,I3,w3⟩
  |brk=>exact q3
  |ret v=>exact q3
 |false =>
  rw[if_neg Bool.false_ne_true]
  exact wpAny_execs_nil ⟨σ1,H2,I2,q2⟩
end
structure It where
 go:Nat→Hp→Prop
 yld:Nat→Hp→V→Hp→Prop
 stop:Nat→Hp→Prop
def FpOk (X:Cx) (pins:List (Addr×Obj)) (H:Hp) (b:Addr):Prop :=
 H b=none∧b≠X.env.locals∧b∉X.fs∧(b∈X.ex∨X.s₀.heap.objs.size≤b)∧(∀ x c,X.env.cells.lookup x=some c→c≠b)∧∀ p∈X.pn++pins,p.1≠b
theorem Inv.fpOk {X:Cx}{pins:List (Addr×Obj)}{σ:St}{H H':Hp}{s:Shared}{b:Addr}(I:Inv X pins σ H s) (hb:s.heap.objs.size≤b) (hn:H' b=none):FpOk X pins H' b:=by
 refine⟨hn,Nat.ne_of_gt (Nat.lt_of_lt_of_le I.lt hb),I.nofs hb,.inr (Nat.le_trans I.sz hb),fun x c e z=>?_,fun p hp z=>?_⟩
 ·obtain⟨v,q⟩:=I.cell x c e
  exact absurd (Nat.lt_of_lt_of_le q.lt (by rw[z];exact hb)) (Nat.lt_irrefl _)
 ·exact absurd (Nat.lt_of_lt_of_le (Heap.lt_size (I.pin p hp).1) (by rw[z];exact hb)) (Nat.lt_irrefl _)
structure Turn (P:Program) (w:World) (K:PySem.W.Frag) (tg:Expr) (J:It) (fp:List Addr) (it:Addr) (tn:Nat→Heap→Prop):Prop where
 mem:it∈fp
 obj:∀ i h,tn i h→∀ b∈fp,∃ o,h.get? b=some o∧∀ v,o.data≠.cell v
 keep:∀ i h h',tn i h→(∀ b∈fp,∀ o,h.get? b=some o→h'.get? b=some o)→tn i h'
 item:∀ (X:Cx),X.prog=P→X.w=w→X.K=K→X.calm=true→∀ (i:Nat) (pins:List (Addr×Obj)) (s:Shared) (σ:St) (H:Hp) (E:Value→Shared→Prop),Inv X pins σ H s→(∀ b∈fp,FpOk X pins H b)→tn i s.heap→J.go i H →
  wpAny (model P w) X.A (pyNext (.ref it)) (fun r s1=>∃ u,r=some u ∧
   wpAny (model P w) X.A (letOwnedTupleGo tg (.ref it) u) (fun _ s2=>∃ x H',Inv X pins σ H' s2∧RelV x u∧J.yld i H x H'∧tn (i+1) s2.heap∧∀ b∈fp,H' b=none) E s1) E s
 done:∀ (X:Cx),X.prog=P→X.w=w→X.K=K→X.calm=true→∀ (i:Nat) (pins:List (Addr×Obj)) (s:Shared) (σ:St) (H:Hp) (E:Value→Shared→Prop),Inv X pins σ H s→(∀ b∈fp,FpOk X pins H b)→tn i s.heap→J.stop i H →
  wpAny (model P w) X.A (pyNext (.ref it)) (fun r s1=>r=none∧Inv X pins σ H s1) E s
 self:∀ (A:Around) (i:Nat) (s:Shared) (Q:Value→Shared→Prop) (E:Value→Shared→Prop),tn i s.heap→Q (.ref it) s→wpAny (model P w) A (pyIter (.ref it)) Q E s
abbrev TI:=St→Hp→(It→Hp→Prop)→Prop
def PIE (X:Cx) (pins:List (Addr×Obj)) (σ:St) (tg:Expr) (R:It→Hp→Prop) (itv:Value) (s2:Shared):Prop :=
 ∃ (it:Addr) (fp:List Addr) (tn:Nat→Heap→Prop) (J:It) (H':Hp),itv=.ref it∧Inv X pins σ H' s2∧Turn X.prog X.w X.K tg J fp it tn∧tn 0 s2.heap∧(∀ b∈fp,FpOk X pins H' b)∧R J H'
def PI (X:Cx) (tg iter:Expr) (wi:TI):Prop :=
 ∀ (pins:List (Addr×Obj)) (s:Shared) (σ:St) (H:Hp) (R:It→Hp→Prop),Inv X pins σ H s→wi σ H R →
  wpAny (model X.prog X.w) X.A (eval iter X.env) (fun v s1=>wpAny (model X.prog X.w) X.A (pyIter v) (PIE X pins σ tg R) X.xe s1) X.xe s
theorem X0 {M:Model}{A:Around}{E:Value→Shared→Prop}{s:Shared}{tg:Expr}{it:Addr}{u:Value}{o:Obj}{n:String}{vs:Array Value}{Q:Unit→Shared→Prop}(ho:s.heap.get? it=some o) (hc:o.cls=.type n) (hd:o.data=.fields vs)
  (hn:["enumerate", "zip", "dict_itemiterator", "dict_reverseitemiterator", "odict_iterator", "itertools.zip_longest", "itertools.pairwise"].contains n=false) (hQ:Q () s):wpAny M A (letOwnedTupleGo tg (.ref it) u) Q E s:=by
 unfold letOwnedTupleGo
 cases tg<;>first
  |exact wpAny_pure hQ
  |(cases u<;>first
    |exact wpAny_pure hQ
    |(refine wpAny_bind (wpAny_load ho ?_)
      rw[hc,hd]
      show wpAny M A (if (["enumerate", "zip", "dict_itemiterator", "dict_reverseitemiterator", "odict_iterator", "itertools.zip_longest", "itertools.pairwise"].contains n&&vs[0]? == some (rawInt _))=true then _ else _) Q E s
      rw[if_neg (by intro h;rw[hn,Bool.false_and] at h;cases h)]
      exact wpAny_pure hQ))
noncomputable def Itl (K:PySem.W.Frag) (a:Addr):It :=
 ⟨fun i H=>∃ xs x,SqL K H a xs∧xs[i]?=some x,fun i H x H'=>H'=H∧∀ xs,SqL K H a xs→xs[i]?=some x,fun i H=>∃ xs,SqL K H a xs∧xs.length≤i⟩
noncomputable def Itt (K:PySem.W.Frag) (a:Addr):It :=
 ⟨fun i H=>∃ xs x,SqT K H a xs∧xs[i]?=some x,fun i H x H'=>H'=H∧∀ xs,SqT K H a xs→xs[i]?=some x,fun i H=>∃ xs,SqT K H a xs∧xs.length≤i⟩
noncomputable def Itr (lo:Int) (n:Nat):It:=⟨fun i _=>i<n,fun i H x H'=>H'=H∧x=.int (lo+i),fun i _=>n≤i⟩
theorem ZY {P:Program}{w:World}{K:PySem.W.Frag}{tg:Expr} (a it:Addr):Turn P w K tg (Itl K a) [it] it (fun i h=>h.IsListIter it a i) where
 mem:=by simp
 obj:=fun i h st b hb=>by
  have e:b=it:=by simpa using hb
  subst e
  obtain⟨o,e,c,d⟩:=st
  exact⟨o,e,fun v z=>by rw[d] at z;cases z⟩
 keep:=fun i h h' st k=>st.at fun o e=>k it (by simp) o e
 item:=by
  intro X hP hw hK hc i pins s σ H E I hf st hg
  subst hP hw hK
  obtain⟨xs,x,hq,hx⟩:=hg
  obtain⟨its,rv,p,hz⟩:=I.list hq
  obtain⟨u,hu,ru⟩:=rv.get hx
  obtain⟨f0,f1,f2,f3,f4,f5⟩:=hf it (by simp)
  refine wpAny_pyNext_list_item st p.isList (x:=u) (by simpa using hu) fun h' st' sb=>?_
  have I1:Inv X pins σ H { s with heap:=h' }:=I.turned (t':=s.toks) (fun b o hb e=>(sb.2 b hb).trans e) f0 f1 f3 f4 f5
  obtain⟨o,e,c,d⟩:=id st'
  exact⟨u,rfl,X0 (s:={ s with heap:=h' }) e c d (by decide) ⟨x,H,I1,ru,⟨rfl,fun ys hy=>by rw[I.list_inj hy hq];exact hx⟩,st',fun b hb=>(hf b hb).1⟩⟩
 done:=by
  intro X hP hw hK hc i pins s σ H E I hf st hg
  subst hP hw hK
  obtain⟨xs,hq,hx⟩:=hg
  obtain⟨its,rv,p,hz⟩:=I.list hq
  obtain⟨f0,f1,f2,f3,f4,f5⟩:=hf it (by simp)
  have hl:=rv.length
  exact wpAny_pyNext_list_end (I.ok.hd hc) st p.isList (by simp;omega) fun h' eb=>⟨rfl,I.turned (t':=s.toks) (fun b o hb e=>eb b o hb e) f0 f1 f3 f4 f5⟩
 self:=fun _ _ _ _ _ st h=>wpAny_pyIter_listiter st h
theorem ZB {P:Program}{w:World}{K:PySem.W.Frag}{tg:Expr} (a it:Addr):Turn P w K tg (Itt K a) [it] it (fun i h=>h.IsTupleIter it a i) where
 mem:=by simp
 obj:=fun i h st b hb=>by
  have e:b=it:=by simpa using hb
  subst e
  obtain⟨o,e,c,d⟩:=st
  exact⟨o,e,fun v z=>by rw[d] at z;cases z⟩
 keep:=fun i h h' st k=>st.at fun o e=>k it (by simp) o e
 item:=by
  intro X hP hw hK hc i pins s σ H E I hf st hg
  subst hP hw hK
  obtain⟨xs,x,hq,hx⟩:=hg
  obtain⟨its,rv,p,hz⟩:=I.tuple hq
  obtain⟨u,hu,ru⟩:=rv.get hx
  obtain⟨f0,f1,f2,f3,f4,f5⟩:=hf it (by simp)
  refine wpAny_pyNext_tuple_item st (show s.heap.IsTuple a its.toArray from p) (x:=u) (by simpa using hu) fun h' st' sb=>?_
  have I1:Inv X pins σ H { s with heap:=h' }:=I.turned (t':=s.toks) (fun b o hb e=>(sb.2 b hb).trans e) f0 f1 f3 f4 f5
  obtain⟨o,e,c,d⟩:=id st'
  exact⟨u,rfl,X0 (s:={ s with heap:=h' }) e c d (by decide) ⟨x,H,I1,ru,⟨rfl,fun ys hy=>by rw[I.tuple_inj hy hq];exact hx⟩,st',fun b hb=>(hf b hb).1⟩⟩
 done:=by
  intro X hP hw hK hc i pins s σ H E I hf st hg
  subst hP hw hK
  obtain⟨xs,hq,hx⟩:=hg
  obtain⟨its,rv,p,hz⟩:=I.tuple hq
  obtain⟨f0,f1,f2,f3,f4,f5⟩:=hf it (by simp)
  have hl:=rv.length
  exact wpAny_pyNext_tuple_end (I.ok.hd hc) st (show s.heap.IsTuple a its.toArray from p) (by simp;omega) fun h' eb=>⟨rfl,I.turned (t':=s.toks) (fun b o hb e=>eb b o hb e) f0 f1 f3 f4 f5⟩
 self:=fun _ _ _ _ _ st h=>wpAny_pyIter_tupleiter st h
theorem ZC {P:Program}{w:World}{K:PySem.W.Frag}{tg:Expr}(it:Addr) (lo:Int) (n:Nat):Turn P w K tg (Itr lo n) [it] it (fun i h=>IsRangeIter h it (lo+(i:Nat)*1) ((n:Int)-(i:Nat)) 1) where
 mem:=by simp
 obj:=fun i h st b hb=>by
  have e:b=it:=by simpa using hb
  subst e
  exact⟨_,st,fun v z=>by
   have z':Data.fields _=Data.cell v:=z
   cases z'⟩
 keep:=fun i h h' st k=>k it (by simp) _ st
 item:=by
  intro X hP hw hK hc i pins s σ H E I hf st hg
  subst hP hw hK
  obtain⟨f0,f1,f2,f3,f4,f5⟩:=hf it (by simp)
  have W:=Walks.range (prog:=X.prog) (w:=X.w) (I.ok.hd hc) it lo 1 n
  refine W.item i s _ _ hg st fun v h' tk hv st' kk=>?_
  obtain⟨t,rfl⟩:=hv
  have I1:Inv X pins σ H { s with heap:=h',toks:=tk }:=I.turned (fun b o hb e=>kk b o (by simpa using hb) e) f0 f1 f3 f4 f5
  refine⟨_,rfl,X0 (s:={ s with heap:=h',toks:=tk }) (n := "range_iterator") st' rfl rfl (by decide) ⟨.int (lo+i),H,I1,⟨t,?_⟩,⟨rfl,rfl⟩,st',fun b hb=>(hf b hb).1⟩⟩
  rw[Int.mul_one]
 done:=by
  intro X hP hw hK hc i pins s σ H E I hf st hg
  subst hP hw hK
  obtain⟨f0,f1,f2,f3,f4,f5⟩:=hf it (by simp)
  exact wpAny_pyNext_range_end (I.ok.hd hc) st (by have:n≤i:=hg;omega) fun h' eb=>⟨rfl,I.turned (t':=s.toks) (fun b o hb e=>eb b o hb e) f0 f1 f3 f4 f5⟩
 self:=fun _ _ _ _ _ st h=>wpAny_pyIter_rangeiter st h
section
variable {X:Cx}{tg:Expr}
def U9 (K:PySem.W.Frag) (tl:TE):TI:=fun σ H R=>tl σ H fun x H1=>∃ a,x=.ref a∧(∃ xs,SqL K H1 a xs)∧R (Itl K a) H1
def zco (K:PySem.W.Frag) (tl:TE):TI:=fun σ H R=>tl σ H fun x H1=>∃ a,x=.ref a∧(∃ xs,SqT K H1 a xs)∧R (Itt K a) H1
theorem wy {l:Expr}{tl:TE}(hl:PE X l tl):PI X tg l (U9 X.K tl):=by
 intro pins s σ H R I h
 refine thn (hl pins s σ H _ I h) fun v s1 hq0=>?_
 obtain⟨x,H1,I1,r1,q1⟩:=hq0
 obtain⟨a,e,⟨xs,hq⟩,q⟩:=q1
 subst e
 cases r1
 obtain⟨its,rv,p,hz⟩:=I1.list hq
 refine wpAny_pyIter_list p.isList ?_
 refine⟨s1.heap.objs.size,[s1.heap.objs.size],_,_,H1,rfl,I1.kept (t':=s1.toks) fun b o e=>Heap.get?_push_of_some _ e,ZY a _,⟨_,Heap.get?_push_size _ rfl,rfl,rfl⟩,fun b hb=>?_,q⟩
 have e:b=s1.heap.objs.size:=by simpa using hb
 subst e
 exact I1.fpOk (Nat.le_refl _) (I1.hok.fresh (Nat.le_refl _))
theorem uT {l:Expr}{tl:TE}(hl:Bx (PE X l tl)):Bx (PI X tg l (zco X.K tl)):=by
 have hl:=hl.of
 refine⟨?_⟩
 intro pins s σ H R I h
 refine thn (hl pins s σ H _ I h) fun v s1 hq0=>?_
 obtain⟨x,H1,I1,r1,q1⟩:=hq0
 obtain⟨a,e,⟨xs,hq⟩,q⟩:=q1
 subst e
 cases r1
 obtain⟨its,rv,p,hz⟩:=I1.tuple hq
 refine wpAny_pyIter_tuple (show s1.heap.IsTuple a its.toArray from p) ?_
 refine⟨s1.heap.objs.size,[s1.heap.objs.size],_,_,H1,rfl,I1.kept (t':=s1.toks) fun b o e=>Heap.get?_push_of_some _ e,ZB a _,⟨_,Heap.get?_push_size _ rfl,rfl,rfl⟩,fun b hb=>?_,q⟩
 have e:b=s1.heap.objs.size:=by simpa using hb
 subst e
 exact I1.fpOk (Nat.le_refl _) (I1.hok.fresh (Nat.le_refl _))
theorem Xz {pins:List (Addr×Obj)}{σ:St}{H:Hp}{s:Shared}{R:It→Hp→Prop}{E:Value→Shared→Prop}{lo hi:Int}{t u v:Tok}{tk:Nat}(I:Inv X pins σ H s) (h1 : -(2 ^ 62)≤lo) (h2:lo<2 ^ 62) (h3 : -(2 ^ 62)≤hi) (h4:hi<2 ^ 62)
  (q:R (Itr lo (hi-lo).toNat) H):wpAny (model X.prog X.w) X.A (pyIter (.ref s.heap.objs.size)) (PIE X pins σ tg R) E { s with heap:=s.heap.push { cls:=.type "range",data:=.fields #[.int lo t,.int hi u,.int 1 v] },toks:=tk }:=by
 refine wpAny_pyIter_range (IsRange.new ..) (small_one h1 h2 h3 h4) ?_
 have I1:Inv X pins σ H { s with heap:=s.heap.push { cls:=.type "range",data:=.fields #[.int lo t,.int hi u,.int 1 v] },toks:=tk }:=I.kept fun b o e=>Heap.get?_push_of_some _ e
 refine⟨(s.heap.push { cls:=.type "range",data:=.fields #[.int lo t,.int hi u,.int 1 v] }).objs.size,[(s.heap.push { cls:=.type "range",data:=.fields #[.int lo t,.int hi u,.int 1 v] }).objs.size],_,_,H,rfl,
  I1.kept (t':=tk) fun b o e=>Heap.get?_push_of_some _ e,ZC _ lo (hi-lo).toNat,?_,fun b hb=>?_,q⟩
 ·have e1:lo+((0:Nat):Int)*1=lo:=by simp
  have e2:(((hi-lo).toNat:Nat):Int)-((0:Nat):Int)=Builtin.Range.rangeSize lo hi 1:=by rw[rangeSize_one];split<;>omega
  show IsRangeIter _ _ (lo+((0:Nat):Int)*1) ((((hi-lo).toNat:Nat):Int)-((0:Nat):Int)) 1
  rw[e1,e2]
  exact Heap.get?_push_size _ rfl
 ·have e:b=(s.heap.push { cls:=.type "range",data:=.fields #[.int lo t,.int hi u,.int 1 v] }).objs.size:=by simpa using hb
  subst e
  exact I1.fpOk (Nat.le_refl _) (I1.hok.fresh (Nat.le_refl _))
def zbk (ta:TA):TI:=fun σ H R=>ta σ H fun vs H1=>∃ j:Int,vs=[.int j]∧-(2 ^ 62)≤j∧j<2 ^ 62∧R (Itr 0 j.toNat) H1
theorem yw {a:Expr}{ta:TA}{p pos:Pos}(hg:Gl X "range") (hm:X.mg "range" = none) (ha:Bx (PA X [a] ta)) (hs:starEach [a] X.env=[(false,eval a X.env)]:=by rfl):Bx (PI X tg (.Call (.Name "range" p) [a] [] pos) (zbk ta)):=by
 have ha:=ha.of
 refine⟨?_⟩
 intro pins s σ H R I h
 refine Call_ (ld_blt I hg hm boot_range (PyProof.Rows.callWith_type1 (thn (ha pos pins s σ H _ I h) fun us s1 hq0=>?_) hs rfl))
 obtain⟨vs,H1,I1,r1,q1⟩:=hq0
 obtain⟨j,e,q1,q2,q⟩:=q1
 subst e
 cases r1 with
 |cons r rr =>
  cases rr
  obtain⟨t,rfl⟩:=r
  exact call_range_1 (Xz I1 (by omega) (by omega) q1 q2 (by simpa using q))
def zbA (wi:TI) (g:TG) (tb:TS):TS:=fun D σ H=>wi σ H fun J H1=>∃ W:Nat→Nat→St→Hp→Prop,(∃ m,W 0 m σ H1)∧∀ i m σ H,W i m σ H →
 (J.stop i H∧D.nx σ H)∨(J.go i H∧∃ N:St→Hp→Prop,(∀ σ' H',N σ' H'→∃ m',m'<m∧W (i+1) m' σ' H')∧∀ x H',J.yld i H x H'→g x σ H' fun σ2 H2=>tb { D with nx:=N,ct:=N,bk:=D.nx } σ2 H2)
noncomputable def vW (fp:List Addr) (h:Heap):List (Addr×Obj):=fp.filterMap fun b=>(h.get? b).map fun o=>(b,o)
theorem y8 {fp:List Addr}{h:Heap}{b:Addr}{o:Obj}(hb:b∈fp) (e:h.get? b=some o):(b,o)∈vW fp h:=List.mem_filterMap.mpr ⟨b,hb,by rw[e];rfl⟩
theorem Yw {fp:List Addr}{h:Heap}{p:Addr×Obj}(hp:p∈vW fp h):p.1∈fp∧h.get? p.1=some p.2:=by
 obtain⟨b,hb,e⟩:=List.mem_filterMap.mp hp
 cases q:h.get? b with
 |none=>rw[q] at e;cases e
 |some o =>
  rw[q] at e
  have e':(b,o)=p:=Option.some.inj e
  subst e'
  exact⟨hb,q⟩
theorem Inv.pinned {pins:List (Addr×Obj)}{σ:St}{H:Hp}{s:Shared}{fp:List Addr}(I:Inv X pins σ H s) (hf:∀ b∈fp,FpOk X pins H b) (ho:∀ b∈fp,∃ o,s.heap.get? b=some o∧∀ v,o.data≠.cell v):Inv X (pins++vW fp s.heap) σ H s :=
 I.pins_of fun p hp=>(List.mem_append.mp hp).elim (fun z=>I.pin p (List.mem_append_right _ z)) fun z=>by
  obtain⟨hb,e⟩:=Yw z
  obtain⟨f0,f1,f2,_⟩:=hf p.1 hb
  obtain⟨o,e',d⟩:=ho p.1 hb
  rw[e] at e';cases e'
  exact⟨e,f0,f1,f2,d⟩
theorem Inv.unpinned {pins pl:List (Addr×Obj)}{σ:St}{H:Hp}{s:Shared}(I:Inv X (pins++pl) σ H s):Inv X pins σ H s:=I.pins_of fun p hp=>I.pin p (List.mem_append_right _ (List.mem_append_left _ hp))
theorem vV {iter:Expr}{body:List Stmt}{wi:TI}{g:TG}{tb:TS}{pos:Pos}(hp:PassesOwn (model X.prog X.w) X.A X.env X.xe) (hc:X.calm=true) (hi:PI X tg iter wi) (hg:PG X tg g) (hb:PSs X body tb)
  (hs:∀ x,foldedSetIterable iter X.env x=pure x:=by intro _;rfl):PS X (.For tg iter body [] pos) (zbA wi g tb):=by
 intro pins s σ H D I h
 refine wpAny_For (thn (hi pins s σ H _ I h) fun v s1 h1=>thn h1 fun itv s2 h2=>?_) hs
 obtain⟨it,fp,tn,J,H2,e,I2,T,st2,f2,W,⟨m0,w0⟩,turn⟩:=h2
 subst e
 -- what stays true of the iterator's objects through the loop
 have stat:∀ {H':Hp},(∀ b∈fp,H' b=none)→∀ b∈fp,FpOk X pins H' b:=fun hn b hb=>⟨hn b hb,(f2 b hb).2⟩
 refine codeAny_forLoop_any (fun n s'=>∃ i σ' H',Inv X pins σ' H' s'∧tn i s'.heap∧(∀ b∈fp,H' b=none)∧W i n σ' H') ?_ m0 ⟨0,σ,H2,I2,st2,fun b hb=>(f2 b hb).1,w0⟩
 rintro n s3 ⟨i,σ3,H3,I3,st3,fr3,w3⟩
 rcases turn i n σ3 H3 w3 with⟨stop,qn⟩ | ⟨go,N,hN,step⟩
 ·refine wpAny_passesOwn hp (thn (T.done X rfl rfl rfl hc i pins s3 σ3 H3 X.xe I3 (stat fr3) st3 stop) fun r s4 ⟨hr,I4⟩=>?_)
  subst hr
  exact wpAny_execs_nil ⟨σ3,H3,I4,qn⟩
 ·refine wpAny_passesOwn hp (thn (T.item X rfl rfl rfl hc i pins s3 σ3 H3 X.xe I3 (stat fr3) st3 go) fun r s4 ⟨u,hr,h4⟩=>?_)
  subst hr
  refine wpAny_passesOwn hp (thn h4 fun _ s5 hq0=>?_)
  obtain⟨x,H5,I5,r5,y5,st5,fr5⟩:=hq0
  have I5':=I5.pinned (stat fr5) (T.obj _ _ st5)
  refine wpAny_passesOwn hp (thn (hg _ s5 σ3 H5 x u _ I5' r5 (step x H5 y5)) fun _ s6 hq0=>?_)
  obtain⟨σ6,H6,I6,q6⟩:=hq0
  refine wpAny_passesOwn hp (thn (hb _ s6 σ6 H6 _ I6 q6) fun f s7 q7=>?_)
  have again:∀ {σ7:St}{H7:Hp},Inv X (pins++vW fp s5.heap) σ7 H7 s7→N σ7 H7→∃ m,m<n∧∃ i σ' H',Inv X pins σ' H' s7∧tn i s7.heap∧(∀ b∈fp,H' b=none)∧W i m σ' H':=fun {σ7 H7} I7 n7=>by
   obtain⟨m',hm,w7⟩:=hN σ7 H7 n7
   refine⟨m',hm,i+1,σ7,H7,I7.unpinned,T.keep _ _ _ st5 fun b hb o e=>(I7.pin (b,o) (List.mem_append_right _ (List.mem_append_right _ (y8 hb e)))).1,fun b hb=>?_,w7⟩
   obtain⟨o,e,d⟩:=T.obj _ _ st5 b hb
   exact(I7.pin (b,o) (List.mem_append_right _ (List.mem_append_right _ (y8 hb e)))).2.1
  cases f with
  |next=>obtain⟨σ7,H7,I7,n7⟩:=q7;exact again I7 n7
  |cont=>obtain⟨σ7,H7,I7,n7⟩:=q7;exact again I7 n7
  |brk=>obtain⟨σ7,H7,I7,q7⟩:=q7;exact⟨σ7,H7,I7.unpinned,q7⟩
  |ret v=>obtain⟨x7,σ7,H7,I7,r7,q7⟩:=q7;exact⟨x7,σ7,H7,I7.unpinned,r7,q7⟩
end
theorem for_list {K:PySem.W.Frag}{a:Addr}{xs:List V}{g:TG}{tb:TS}{D:Ends}{σ:St}{H:Hp}(Pv:Nat→St→Hp→Prop) (h0:Pv 0 σ H) (hl:∀ i σ H,i≤xs.length→Pv i σ H→SqL K H a xs)
  (hs:∀ i x σ H,xs[i]?=some x→Pv i σ H→g x σ H fun σ2 H2=>tb { D with nx:=Pv (i+1),ct:=Pv (i+1),bk:=D.nx } σ2 H2) (hd:∀ σ H,Pv xs.length σ H→D.nx σ H) :
  ∃ W:Nat→Nat→St→Hp→Prop,(∃ m,W 0 m σ H)∧∀ i m σ H,W i m σ H →
   ((Itl K a).stop i H∧D.nx σ H)∨((Itl K a).go i H∧∃ N:St→Hp→Prop,(∀ σ' H',N σ' H'→∃ m',m'<m∧W (i+1) m' σ' H')∧∀ x H',(Itl K a).yld i H x H'→g x σ H' fun σ2 H2=>tb { D with nx:=N,ct:=N,bk:=D.nx } σ2 H2):=by
 refine⟨fun i m σ H=>m=xs.length-i∧i≤xs.length∧Pv i σ H,⟨xs.length,by simp,Nat.zero_le _,h0⟩,?_⟩
 rintro i m σ H ⟨rfl,hi,p⟩
 have q:=hl i σ H hi p
 by_cases hlt:i<xs.length
 ·refine .inr ⟨⟨xs,xs[i],q,by simp[hlt]⟩,Pv (i+1),fun σ' H' p'=>⟨xs.length-(i+1),by omega,rfl,hlt,p'⟩,fun x H' y=>?_⟩
  obtain⟨e,y⟩:=y
  subst e
  exact hs i x σ _ (y xs q) p
 ·have e:i=xs.length:=by omega
  subst e
  exact .inl ⟨⟨xs,q,Nat.le_refl _⟩,hd σ H p⟩
theorem for_tup {K:PySem.W.Frag}{a:Addr}{xs:List V}{g:TG}{tb:TS}{D:Ends}{σ:St}{H:Hp}(Pv:Nat→St→Hp→Prop) (h0:Pv 0 σ H) (hl:∀ i σ H,i≤xs.length→Pv i σ H→SqT K H a xs)
  (hs:∀ i x σ H,xs[i]?=some x→Pv i σ H→g x σ H fun σ2 H2=>tb { D with nx:=Pv (i+1),ct:=Pv (i+1),bk:=D.nx } σ2 H2) (hd:∀ σ H,Pv xs.length σ H→D.nx σ H) :
  ∃ W:Nat→Nat→St→Hp→Prop,(∃ m,W 0 m σ H)∧∀ i m σ H,W i m σ H →
   ((Itt K a).stop i H∧D.nx σ H)∨((Itt K a).go i H∧∃ N:St→Hp→Prop,(∀ σ' H',N σ' H'→∃ m',m'<m∧W (i+1) m' σ' H')∧∀ x H',(Itt K a).yld i H x H'→g x σ H' fun σ2 H2=>tb { D with nx:=N,ct:=N,bk:=D.nx } σ2 H2):=by
 refine⟨fun i m σ H=>m=xs.length-i∧i≤xs.length∧Pv i σ H,⟨xs.length,by simp,Nat.zero_le _,h0⟩,?_⟩
 rintro i m σ H ⟨rfl,hi,p⟩
 have q:=hl i σ H hi p
 by_cases hlt:i<xs.length
 ·refine .inr ⟨⟨xs,xs[i],q,by simp[hlt]⟩,Pv (i+1),fun σ' H' p'=>⟨xs.length-(i+1),by omega,rfl,hlt,p'⟩,fun x H' y=>?_⟩
  obtain⟨e,y⟩:=y
  subst e
  exact hs i x σ _ (y xs q) p
 ·have e:i=xs.length:=by omega
  subst e
  exact .inl ⟨⟨xs,q,Nat.le_refl _⟩,hd σ H p⟩
theorem for_range {lo:Int}{n:Nat}{g:TG}{tb:TS}{D:Ends}{σ:St}{H:Hp}(Pv:Nat→St→Hp→Prop) (h0:Pv 0 σ H)
  (hs:∀ i σ H,i<n→Pv i σ H→g (.int (lo+i)) σ H fun σ2 H2=>tb { D with nx:=Pv (i+1),ct:=Pv (i+1),bk:=D.nx } σ2 H2) (hd:∀ σ H,Pv n σ H→D.nx σ H) :
  ∃ W:Nat→Nat→St→Hp→Prop,(∃ m,W 0 m σ H)∧∀ i m σ H,W i m σ H →
   ((Itr lo n).stop i H∧D.nx σ H)∨((Itr lo n).go i H∧∃ N:St→Hp→Prop,(∀ σ' H',N σ' H'→∃ m',m'<m∧W (i+1) m' σ' H')∧∀ x H',(Itr lo n).yld i H x H'→g x σ H' fun σ2 H2=>tb { D with nx:=N,ct:=N,bk:=D.nx } σ2 H2):=by
 refine⟨fun i m σ H=>m=n-i∧i≤n∧Pv i σ H,⟨n,by simp,Nat.zero_le _,h0⟩,?_⟩
 rintro i m σ H ⟨rfl,hi,p⟩
 by_cases hlt:i<n
 ·refine .inr ⟨hlt,Pv (i+1),fun σ' H' p'=>⟨n-(i+1),by omega,rfl,hlt,p'⟩,fun x H' y=>?_⟩
  obtain⟨e,y⟩:=y
  subst e y
  exact hs i σ _ hlt p
 ·have e:i=n:=by omega
  subst e
  exact .inl ⟨Nat.le_refl _,hd σ H p⟩
abbrev R2:=V→V→Hp→VK→Prop
def OpR (X:Cx) (f:Value→Value→Sem Value) (r:R2):Prop :=
 ∀ (pins:List (Addr×Obj)) (s:Shared) (σ:St) (H:Hp) (x y:V) (v u:Value) (Q:VK),Inv X pins σ H s→RelV x v→RelV y u→r x y H Q →
  wpAny (model X.prog X.w) X.A (f v u) (EP X pins σ Q) X.xe s
def UnR (X:Cx) (f:Value→Sem Value) (r:V→Hp→VK→Prop):Prop :=
 ∀ (pins:List (Addr×Obj)) (s:Shared) (σ:St) (H:Hp) (x:V) (v:Value) (Q:VK),Inv X pins σ H s→RelV x v→r x H Q →
  wpAny (model X.prog X.w) X.A (f v) (EP X pins σ Q) X.xe s
def xr (X:Cx) (f:Value) (r:List V→Hp→VK→Prop):Prop :=
 ∀ (pins:List (Addr×Obj)) (s:Shared) (σ:St) (H:Hp) (xs:List V) (us:List Value) (Q:VK),Inv X pins σ H s→Vals xs us→r xs H Q →
  wpAny (model X.prog X.w) X.A (call f us) (EP X pins σ Q) X.xe s
def zcu (X:Cx) (r:V→Hp→(Bool→Hp→Prop)→Prop):Prop :=
 ∀ (pins:List (Addr×Obj)) (s:Shared) (σ:St) (H:Hp) (x:V) (v:Value) (Q:Bool→Hp→Prop),Inv X pins σ H s→RelV x v→r x H Q →
  wpAny (model X.prog X.w) X.A (truthy v) (TP X pins σ Q) X.xe s
def tOp (r:R2) (ta tb:TE):TE:=fun σ H Q=>ta σ H fun x H1=>tb σ H1 fun y H2=>r x y H2 Q
def tUn (r:V→Hp→VK→Prop) (ta:TE):TE:=fun σ H Q=>ta σ H fun x H1=>r x H1 Q
def rI (C:Int→Int→Prop) (g:Int→Int→V):R2:=fun x y H Q=>∃ i j,x=.int i∧y=.int j∧C i j∧Q (g i j) H
def rI0 (g:Int→Int→V):R2:=fun x y H Q=>∃ i j,x=.int i∧y=.int j∧Q (g i j) H
def rU (g:Int→V):V→Hp→VK→Prop:=fun x H Q=>∃ i,x=.int i∧Q (g i) H
section
variable {X:Cx}{a b c:Expr}{ta tb tc:TE}{pos:Pos}
theorem binT (ha:PE X a ta) (hb:PE X b tb){pins:List (Addr×Obj)}{s:Shared}{σ:St}{H:Hp}{R:V→V→Hp→Prop}(I:Inv X pins σ H s)
  (h:ta σ H fun x H1=>tb σ H1 fun y H2=>R x y H2){Q:Value→Shared→Prop}{f:Value→Value→Sem Value}
  (hf:∀ v u s2 x y H2,Inv X pins σ H2 s2→RelV x v→RelV y u→R x y H2→wpAny (model X.prog X.w) X.A (f v u) Q X.xe s2) :
  wpAny (model X.prog X.w) X.A (eval a X.env) (fun v s₁=>wpAny (model X.prog X.w) X.A (eval b X.env) (fun u s₂=>wpAny (model X.prog X.w) X.A (f v u) Q X.xe s₂) X.xe s₁) X.xe s:=by
 refine thn (ha pins s σ H _ I h) fun v s1 hq0=>?_
 obtain⟨x,H1,I1,r1,q1⟩:=hq0
 refine thn (hb pins s1 σ H1 _ I1 q1) fun u s2 hq0=>?_
 obtain⟨y,H2,I2,r2,q2⟩:=hq0
 exact hf v u s2 x y H2 I2 r1 r2 q2
theorem zD {op:Operator}{r:R2}(ho:OpR X (binaryOp op) r) (ha:Bx (PE X a ta)) (hb:Bx (PE X b tb)):Bx (PE X (.BinOp a op b pos) (tOp r ta tb)):=by
 have ha:=ha.of
 have hb:=hb.of
 refine⟨?_⟩
 intro pins s σ H Q I h
 exact wpAny_BinOp (binT ha hb I h fun v u s2 x y H2 I2 rx ry q=>ho pins s2 σ H2 x y v u Q I2 rx ry q)
theorem UH {op:UnaryOp}{r:V→Hp→VK→Prop}(ho:UnR X (unaryOp op) r) (ha:PE X a ta):PE X (.UnaryOp op a pos) (tUn r ta):=by
 intro pins s σ H Q I h
 exact UnaryOp_ (thn (ha pins s σ H _ I h) fun v s1 ⟨x,H1,I1,r1,q1⟩=>ho pins s1 σ H1 x v Q I1 r1 q1)
theorem opI {f:Value→Value→Sem Value}{C:Int→Int→Prop}{g:Int→Int→Int}
  (rule:∀ (i j:Int) (t u:Tok) (s:Shared) (Q:Value→Shared→Prop) (E:Value→Shared→Prop),C i j→Q (.int (g i j) s.toks) { s with toks:=s.toks+1 }→wpAny (model X.prog X.w) X.A (f (.int i t) (.int j u)) Q E s) :
  OpR X f (rI C fun i j=>.int (g i j)):=by
 intro pins s σ H x y v u Q I rx ry h
 obtain⟨i,j,rfl,rfl,hc,q⟩:=h
 obtain⟨t,rfl⟩:=rx
 obtain⟨t',rfl⟩:=ry
 exact rule i j t t' s _ _ hc ⟨.int (g i j),H,I.tok _,⟨_,rfl⟩,q⟩
theorem zbZ {f:Value→Value→Sem Value}{g:Int→Int→Int}
  (rule:∀ (i j:Int) (t u:Tok) (s:Shared) (Q:Value→Shared→Prop) (E:Value→Shared→Prop),Q (.int (g i j) s.toks) { s with toks:=s.toks+1 }→wpAny (model X.prog X.w) X.A (f (.int i t) (.int j u)) Q E s) :
  OpR X f (rI0 fun i j=>.int (g i j)):=by
 intro pins s σ H x y v u Q I rx ry h
 obtain⟨i,j,rfl,rfl,q⟩:=h
 obtain⟨t,rfl⟩:=rx
 obtain⟨t',rfl⟩:=ry
 exact rule i j t t' s _ _ ⟨.int (g i j),H,I.tok _,⟨_,rfl⟩,q⟩
theorem zap {f:Value→Value→Sem Value}{g:Int→Int→Bool}
  (rule:∀ (i j:Int) (t u:Tok) (s:Shared) (Q:Value→Shared→Prop) (E:Value→Shared→Prop),Q (.bool (g i j)) s→wpAny (model X.prog X.w) X.A (f (.int i t) (.int j u)) Q E s) :
  OpR X f (rI0 fun i j=>.bl (g i j)):=by
 intro pins s σ H x y v u Q I rx ry h
 obtain⟨i,j,rfl,rfl,q⟩:=h
 obtain⟨t,rfl⟩:=rx
 obtain⟨t',rfl⟩:=ry
 exact rule i j t t' s _ _ ⟨.bl (g i j),H,I,rfl,q⟩
def zcw (i j:Int):Prop:=0≤j∧j≤1000000∧i.natAbs<2 ^ 64
def CMul (i j:Int):Prop:=(-(2 ^ 64)<i∧i<2 ^ 64)∨(-(2 ^ 64)<j∧j<2 ^ 64)
theorem CMul.ok {i j:Int}(h:CMul i j):IntMulOk i j:=by
 rcases h with⟨h1,h2⟩ | ⟨h1,h2⟩
 ·exact .of_left (intBits_le_64 h1 h2)
 ·exact .of_right (intBits_le_64 h1 h2)
theorem xC:OpR X (binaryOp .Add) (rI0 fun i j=>.int (i+j)):=zbZ fun _ _ _ _ _ _ _ q=>add_int q
theorem xA:OpR X (binaryOp .Sub) (rI0 fun i j=>.int (i-j)):=zbZ fun _ _ _ _ _ _ _ q=>sub_int q
theorem vZ:OpR X (binaryOp .Mult) (rI CMul fun i j=>.int (i*j)):=opI fun _ _ _ _ _ _ _ hc q=>mul_int q hc.ok
theorem xX:OpR X (binaryOp .Mod) (rI (fun _ j=>0<j) fun i j=>.int (i%j)):=opI fun i j _ _ _ _ _ hc q=>by
 have h1:(0:Int)<j:=hc
 exact mod_int' (by omega) (by rw[Int.fmod_eq_emod_of_nonneg i (by omega)];exact q)
theorem Zj:OpR X (binaryOp .Pow) (rI zcw fun i j=>.int (i ^ j.toNat)):=opI fun _ _ _ _ _ _ _ hc q=>pow_int_small hc.1 hc.2.1 hc.2.2 q
theorem unI {f:Value→Sem Value}{g:Int→Int}
  (rule:∀ (i:Int) (t:Tok) (s:Shared) (Q:Value→Shared→Prop) (E:Value→Shared→Prop),Q (.int (g i) s.toks) { s with toks:=s.toks+1 }→wpAny (model X.prog X.w) X.A (f (.int i t)) Q E s) :
  UnR X f (rU fun i=>.int (g i)):=by
 intro pins s σ H x v Q I rx h
 obtain⟨i,rfl,q⟩:=h
 obtain⟨t,rfl⟩:=rx
 exact rule i t s _ _ ⟨.int (g i),H,I.tok _,⟨_,rfl⟩,q⟩
theorem xU:UnR X (unaryOp .USub) (rU fun i=>.int (-i)):=unI fun _ _ _ _ _ q=>neg_int q
end
noncomputable def zbS:V→V→Bool
 |.non,.non=>true | .non,.int _=>true | .int _,.non=>true | .non,.bl _=>true | .bl _,.non=>true | .non,.str _=>true | .str _,.non=>true
 |.int _,.int _=>true | .bl _,.bl _=>true | .str _,.str _=>true | .byt _,.byt _=>true
 |.int _,.str _=>true | .str _,.int _=>true | .bl _,.str _=>true | .str _,.bl _=>true
 |_,_=>false
def rEq:R2:=fun x y H Q=>zbS x y=true∧Q (.bl (decide (x=y))) H
def rNe:R2:=fun x y H Q=>zbS x y=true∧Q (.bl (!decide (x=y))) H
theorem YZ {i j:Int}:decide (V.int i=V.int j)=(i == j):=by
 rw[Bool.eq_iff_iff]
 simp
theorem WX {i j:Bool}:decide (V.bl i=V.bl j)=(i == j):=by
 rw[Bool.eq_iff_iff]
 simp
theorem YY {i j:Str}:decide (V.str i=V.str j)=(i == j):=by
 rw[Bool.eq_iff_iff]
 simp
theorem Y0 {i j:Array UInt8}:decide (V.byt i=V.byt j)=(i.toList == j.toList):=by
 rw[Bool.eq_iff_iff]
 cases i
 cases j
 simp
section
variable {X:Cx}{a b c:Expr}{ta tb tc:TE}{pos:Pos}
theorem zV {pins:List (Addr×Obj)}{σ:St}{H:Hp}{s:Shared}{Q:VK}{k k':Bool}(I:Inv X pins σ H s) (q:Q (.bl k) H) (e:k=k'):EP X pins σ Q (.bool k') s:=by
 subst e
 exact⟨.bl k,H,I,rfl,q⟩
theorem xR:OpR X (compareOp .Eq) rEq:=by
 intro pins s σ H x y v u Q I rx ry h
 obtain⟨hs,q⟩:=h
 cases x with
 |non =>
  cases rx
  cases y with
  |non=>cases ry;exact PySem.EqNone.eq_none_none (zV I q (by simp))
  |bl j=>cases ry;exact PySem.EqNone.eq_none_bool (zV I q (by simp))
  |int j=>obtain⟨t',rfl⟩:=ry;exact PySem.EqNone.eq_none_int (zV I q (by simp))
  |str j=>obtain⟨t',rfl⟩:=ry;exact PySem.EqNone.eq_none_str (zV I q (by simp))
  |_=>exact absurd (show false=true from hs) Bool.false_ne_true
 |bl i =>
  cases rx
  cases y with
  |non=>cases ry;exact PySem.EqNone.eq_bool_none (zV I q (by simp))
  |bl j=>cases ry;exact eq_bool (zV I q WX)
  |str j=>obtain⟨t',rfl⟩:=ry;exact PySem.EqMixed.eq_bool_str (zV I q (by simp))
  |_=>exact absurd (show false=true from hs) Bool.false_ne_true
 |int i =>
  obtain⟨t,rfl⟩:=rx
  cases y with
  |non=>cases ry;exact PySem.EqNone.eq_int_none (zV I q (by simp))
  |int j=>obtain⟨t',rfl⟩:=ry;exact eq_int (zV I q YZ)
  |str j=>obtain⟨t',rfl⟩:=ry;exact PySem.EqMixed.eq_int_str (zV I q (by simp))
  |_=>exact absurd (show false=true from hs) Bool.false_ne_true
 |str i =>
  obtain⟨t,rfl⟩:=rx
  cases y with
  |non=>cases ry;exact PySem.EqNone.eq_str_none (zV I q (by simp))
  |bl j=>cases ry;exact PySem.EqMixed.eq_str_bool (zV I q (by simp))
  |int j=>obtain⟨t',rfl⟩:=ry;exact PySem.EqMixed.eq_str_int (zV I q (by simp))
  |str j=>obtain⟨t',rfl⟩:=ry;exact eq_str (zV I q YY)
  |_=>exact absurd (show false=true from hs) Bool.false_ne_true
 |byt i =>
  obtain⟨t,rfl⟩:=rx
  cases y with
  |byt j=>obtain⟨t',rfl⟩:=ry;exact PySem.W.eq_bytes (zV I q Y0)
  |_=>exact absurd (show false=true from hs) Bool.false_ne_true
 |_=>cases y<;>exact absurd (show false=true from hs) Bool.false_ne_true
theorem x6:OpR X (compareOp .NotEq) rNe:=by
 intro pins s σ H x y v u Q I rx ry h
 obtain⟨hs,q⟩:=h
 cases x with
 |non =>
  cases rx
  cases y with
  |non=>cases ry;exact PySem.EqNone.ne_none_none (zV I q (by simp))
  |bl j=>cases ry;exact PySem.EqNone.ne_none_bool (zV I q (by simp))
  |int j=>obtain⟨t',rfl⟩:=ry;exact PySem.EqNone.ne_none_int (zV I q (by simp))
  |str j=>obtain⟨t',rfl⟩:=ry;exact PySem.EqNone.ne_none_str (zV I q (by simp))
  |_=>exact absurd (show false=true from hs) Bool.false_ne_true
 |bl i =>
  cases rx
  cases y with
  |non=>cases ry;exact PySem.EqNone.ne_bool_none (zV I q (by simp))
  |bl j=>cases ry;exact ne_bool (zV I q (congrArg not WX))
  |str j=>obtain⟨t',rfl⟩:=ry;exact PySem.EqMixed.ne_bool_str (zV I q (by simp))
  |_=>exact absurd (show false=true from hs) Bool.false_ne_true
 |int i =>
  obtain⟨t,rfl⟩:=rx
  cases y with
  |non=>cases ry;exact PySem.EqNone.ne_int_none (zV I q (by simp))
  |int j=>obtain⟨t',rfl⟩:=ry;exact ne_int (zV I q (congrArg not YZ))
  |str j=>obtain⟨t',rfl⟩:=ry;exact PySem.EqMixed.ne_int_str (zV I q (by simp))
  |_=>exact absurd (show false=true from hs) Bool.false_ne_true
 |str i =>
  obtain⟨t,rfl⟩:=rx
  cases y with
  |non=>cases ry;exact PySem.EqNone.ne_str_none (zV I q (by simp))
  |bl j=>cases ry;exact PySem.EqMixed.ne_str_bool (zV I q (by simp))
  |int j=>obtain⟨t',rfl⟩:=ry;exact PySem.EqMixed.ne_str_int (zV I q (by simp))
  |str j=>obtain⟨t',rfl⟩:=ry;exact ne_str (zV I q (congrArg not YY))
  |_=>exact absurd (show false=true from hs) Bool.false_ne_true
 |byt i =>
  obtain⟨t,rfl⟩:=rx
  cases y with
  |byt j=>obtain⟨t',rfl⟩:=ry;exact PySem.W.ne_bytes (zV I q (congrArg not Y0))
  |_=>exact absurd (show false=true from hs) Bool.false_ne_true
 |_=>cases y<;>exact absurd (show false=true from hs) Bool.false_ne_true
theorem vt:OpR X (compareOp .Lt) (rI0 fun i j=>.bl (decide (i<j))):=zap fun _ _ _ _ _ _ _ q=>lt_int q
theorem zaW:OpR X (compareOp .LtE) (rI0 fun i j=>.bl (decide (i≤j))):=zap fun _ _ _ _ _ _ _ q=>le_int q
theorem v0:OpR X (compareOp .Gt) (rI0 fun i j=>.bl (decide (j<i))):=zap fun _ _ _ _ _ _ _ q=>gt_int q
theorem zaX:OpR X (compareOp .GtE) (rI0 fun i j=>.bl (decide (j≤i))):=zap fun _ _ _ _ _ _ _ q=>ge_int q
theorem wz:OpR X (compareOp .IsNot) (fun x y H Q=>y=.non∧Q (.bl (!decide (x=.non))) H):=by
 intro pins s σ H x y v u Q I rx ry h
 obtain⟨rfl,q⟩:=h
 cases ry
 refine isnot_none_gen (zV I q ?_)
 cases x<;>first
  |(cases rx;rfl)
  |(obtain⟨t,rfl⟩:=rx;rfl)
theorem zC (b:Expr){op:CmpOp}(h:op≠.In:=by decide) (h2:op≠.NotIn:=by decide):behindInMarks op b=false:=by
 have e1:(op == CmpOp.In)=false:=by cases op<;>first | rfl | exact absurd rfl h
 have e2:(op == CmpOp.NotIn)=false:=by cases op<;>first | rfl | exact absurd rfl h2
 cases b<;>simp[behindInMarks,e1,e2]
theorem vq {op:CmpOp}{r:R2}(ho:OpR X (compareOp op) r) (ha:PE X a ta) (hb:PE X b tb) (hm:behindInMarks op b=false):PE X (.Compare a [op] [b] pos) (tOp r ta tb):=by
 intro pins s σ H Q I h
 exact wpAny_Compare1 (binT ha hb I h fun v u s2 x y H2 I2 rx ry q=>ho pins s2 σ H2 x y v u Q I2 rx ry q) hm
def Ue (t:TE):TT:=fun σ H Q=>t σ H fun x H'=>∃ k,x=.bl k∧Q k H'
theorem xP {op:CmpOp}{r:R2}(ho:OpR X (compareOp op) r) (ha:PE X a ta) (hb:PE X b tb) (hm:behindInMarks op b=false):PT X (.Compare a [op] [b] pos) (Ue (tOp r ta tb)):=by
 intro pins s σ H Q I h
 refine wpAny_isTrue_Compare1 (thn (ha pins s σ H _ I h) fun v s1 ⟨x,H1,I1,r1,q1⟩=>thn (hb pins s1 σ H1 _ I1 q1) fun u s2 ⟨y,H2,I2,r2,q2⟩ =>
  thn (ho pins s2 σ H2 x y v u _ I2 r1 r2 q2) fun c s3 ⟨z,H3,I3,r3,k,e,q3⟩=>?_) hm
 subst e
 cases r3
 exact wpAny_truthy_bool ⟨H3,I3,q3⟩
def zb3 (K:PySem.W.Frag) (x:V) (H:Hp) (k:Bool):Prop :=
 match x with
 |.non=>k=false
 |.bl b=>k=b
 |.int i=>k=(i != 0)
 |.str y=>y.length≤sizeLine∧k=((y.length:Int) != 0)
 |.byt y=>y.size≤sizeLine∧k=((y.size:Int) != 0)
 |.ref p=>(∃ xs,SqL K H p xs∧k=!xs.isEmpty)∨(∃ xs,SqT K H p xs∧k=!xs.isEmpty)∨∃ kvs,H p=some (.dK kvs)∧k=!kvs.isEmpty
 |_=>False
theorem ZJ {κ:Type}{kvs:List (κ×V)}{vs:List (κ×Value)}(r:KV kvs vs):(!vs.isEmpty)=!kvs.isEmpty:=by
 cases r<;>rfl
theorem w8 {xs:List V}{its:List Value}(r:Vals xs its):(!its.toArray.isEmpty)=!xs.isEmpty:=by
 cases r<;>simp
theorem Zn:(sizeLine:Nat)<2 ^ 63:=by rw[sizeLine_eq];decide
theorem tru_ok:zcu X (fun x H Q=>∃ k,zb3 X.K x H k∧Q k H):=by
 intro pins s σ H x v Q I rx h
 obtain⟨k,e,q⟩:=h
 have hl:=Zn
 have hs:sizeLine=16777216:=sizeLine_eq
 cases x with
 |non =>
  cases rx
  have e':k=false:=e
  subst e'
  exact truthy_none ⟨H,I,q⟩
 |bl b =>
  cases rx
  have e':k=b:=e
  subst e'
  exact wpAny_truthy_bool ⟨H,I,q⟩
 |int i =>
  obtain⟨t,rfl⟩:=rx
  have e':k=(i != 0):=e
  subst e'
  exact PySem.P.truthy_int ⟨H,I,q⟩
 |str y =>
  obtain⟨t,rfl⟩:=rx
  obtain⟨hy,e'⟩:y.length≤sizeLine∧k=((y.length:Int) != 0):=e
  subst e'
  exact PySem.P.truthy_str (by omega) ⟨H,I.tok _,q⟩
 |byt y =>
  obtain⟨t,rfl⟩:=rx
  obtain⟨hy,e'⟩:y.size≤sizeLine∧k=((y.size:Int) != 0):=e
  subst e'
  exact PySem.W.truthy_bytes (by omega) ⟨H,I.tok _,q⟩
 |ref p =>
  cases rx
  have e':(∃ xs,SqL X.K H p xs∧k=!xs.isEmpty)∨(∃ xs,SqT X.K H p xs∧k=!xs.isEmpty)∨∃ kvs,H p=some (.dK kvs)∧k=!kvs.isEmpty:=e
  rcases e' with⟨xs,hx,e'⟩ | ⟨xs,hx,e'⟩ | ⟨kvs,hx,e'⟩
  ·subst e'
   obtain⟨its,r,pl,hz⟩:=I.list hx
   have hlen:=r.length
   exact wpAny_truthy_list pl.isList (by simp only[List.size_toArray];omega) ⟨H,I.tok _,by rw[w8 r];exact q⟩
  ·subst e'
   obtain⟨its,r,pl,hz⟩:=I.tuple hx
   have hlen:=r.length
   exact truthy_tuple pl (by simp only[List.size_toArray];omega) ⟨H,I.tok _,by rw[w8 r];exact q⟩
  ·subst e'
   obtain⟨hz,hS,vs,r,m⟩:kvs.length≤sizeLine∧(p == sysModules)=false∧∃ vs,KV kvs vs∧s.heap.DictOf (zI X.prog X.w) p vs:=I.hok p _ hx
   have hlen:kvs.length=vs.length:=Paired.length r
   exact wpAny_truthy_dict hS m (by omega) ⟨H,I.tok _,by rw[ZJ r];exact q⟩
 |_=>exact(show False from e).elim
theorem wR (ha:Bx (PE X a ta)) (he:∀ whole,isTrue a X.env whole=(do let v ← whole;standAt a.pos;holding [v] (truthy v))):Bx (PT X a (fun σ H Q=>ta σ H fun x H'=>∃ k,zb3 X.K x H' k∧Q k H')):=by
 have ha:=ha.of
 refine⟨?_⟩
 intro pins s σ H Q I h
 exact isTrue_plain (thn (ha pins s σ H _ I h) fun v s1 ⟨x,H1,I1,r1,q1⟩=>tru_ok pins s1 σ H1 x v Q I1 r1 q1) (he _)
theorem Xs {x:V}{us:List Value}(r:Vals [x] us):∃ u,us=[u]∧RelV x u:=by
 cases r with
 |cons r1 r2=>cases r2;exact⟨_,rfl,r1⟩
end
structure ObjM (h:Heap) (x dx C:Addr) (mA:Str→Option Value):Prop where
 obj:h.get? x=some (PySem.W.instObj C dx)
 ns:h.Ns1 dx mA
 ne:dx≠x
theorem YD {h:Heap}{dx:Addr}{mA:Str→Option Value}(n:h.Ns1 dx mA):∃ od,h.get? dx=some od∧∀ name,PySem.W.lookIn name od=some (mA name):=by
 obtain⟨o,es,ep,ho,hd,hk,_,hm⟩:=n
 refine⟨o,ho,fun name=>?_⟩
 have e:=hm name
 unfold nsFind findBy at e
 rw[← Array.find?_toList] at e
 unfold PySem.W.lookIn
 rw[hd]
 dsimp only
 split
 ·rename_i y q
  rw[q] at e
  exact congrArg some e
 ·rename_i q
  rw[q] at e
  have a:es.toList.any (·.refKey)=false:=by
   rw[List.any_eq_false]
   intro y hy
   obtain⟨z,t,hkey⟩:=hk y (Array.mem_toList_iff.mp hy)
   simp[DictEntry.refKey,hkey]
  have a':¬ es.toList.any (·.refKey)=true:=by rw[a];exact Bool.false_ne_true
  rw[if_neg a']
  exact congrArg some e
theorem ObjM.look {h:Heap}{x dx C:Addr}{mA:Str→Option Value}(I:ObjM h x dx C mA):∃ od,PySem.W.InstAt h x (PySem.W.instObj C dx) C (some od)∧∀ name,PySem.W.lookIn name od=some (mA name) :=
 let ⟨od,ho,hl⟩:=YD I.ns
 ⟨od,⟨I.obj,rfl,rfl,ho⟩,hl⟩
section
variable {prog:Program}{w:World}{A:Around}{E:Value→Shared→Prop}{s:Shared}{K:PySem.W.Frag}{x dx C f:Addr}{mA:Str→Option Value}{name:Str}{v:Value}
theorem VS {expr:Bool}{Q:Value→Shared→Prop}(X:K.In s.heap) (I:ObjM s.heap x dx C mA) (hg:PySem.W.plainGet K C name=true) (hh:PySem.W.hasDictIn K C=true)
  (ha:PySem.W.findIn K (.ref C) name=some none) (hv:mA name=some v) (hv':PySem.W.handedIn v=true) (h:Q v { s with toks:=s.toks+1 }) :
  wpAny (model prog w) A (getAttr (.ref x) name expr) Q E s:=by
 obtain⟨od,J,hl⟩:=I.look
 exact PySem.W.get_value X J (PySem.W.plainGet_of hg).1 (PySem.W.findObj_own hh ha rfl (by rw[hl,hv])) hv' h
theorem X8 {pl:Sem Bool}{Q:Value×List Value→Shared→Prop}(X:K.In s.heap) (I:ObjM s.heap x dx C mA) (hg:PySem.W.plainGet K C name=true)
  (hf:PySem.W.findIn K (.ref C) name=some (some (.ref f))) (ht:PySem.W.isFn K (.ref f)=true) (hv:mA name=none) (h:Q (.ref f,[.ref x]) s) :
  wpAny (model prog w) A (getMethod (.ref x) name pl) Q E s:=by
 obtain⟨od,J,hl⟩:=I.look
 exact PySem.W.method_fn X J (PySem.W.plainGet_of hg).1 (PySem.W.plainGet_of hg).2 hf (beq_iff_eq.mp ht) (by show(PySem.W.lookIn name od).map (·.isSome)=some false;rw[hl,hv];rfl) h
theorem Vk {ns:List Str}{Q:Unit→Shared→Prop}(X:K.In s.heap) (I:ObjM s.heap x dx C mA)
  (hs:PySem.W.findIn K (.ref C) "__setattr__" = some (some (.builtin "object.__setattr__"))) (hp:PySem.W.plainOver K C=true) (ht:PySem.W.takerIn K C name=some none) (hh:PySem.W.hasDictIn K C=true)
  (hw:PySem.Within mA ns) (hsz:ns.length≤sizeLine)
  (h:∀ h',ObjM h' x dx C (fun y=>if y=name then some v else mA y)→Heap.SameBut dx s.heap h'→Q () { s with heap:=h',toks:=s.toks+2 }) :
  wpAny (model prog w) A (setAttr (.ref x) name v) Q E s:=by
 obtain⟨od,J,hl⟩:=I.look
 refine PySem.W.set_plain X J hs (PySem.W.osa_open (s:={ s with toks:=s.toks+1 }) (r:=none) X J hp ht fun b=>?_)
 obtain⟨cd,hc,hd'⟩:=PySem.W.any_some hh
 have hx:s.heap.get? x=some ⟨.ref C,some dx,.plain,#[]⟩:=I.obj
 refine wpAny_bind (wpAny_pure (wpAny_bind (wpAny_bind (wpAny_loadPart hx (wpAny_bind (PySem.W.Looks.here (s:={ s with toks:=s.toks+1 }) (PySem.W.looks_clsIn X hc) ?_))))))
 rw[hd']
 refine wpAny_pure (a:=some dx) (wpAny_bind (wpAny_pure (wpAny_bind ?_)))
 refine wpAny_nsSet1 (s:={ s with toks:=s.toks+1 }) I.ns fun h' hn2 hs2=>?_
 obtain⟨oD,esD,epD,hoD,hdD,hcD⟩:=hn2.count (PySem.Within.cons name v hw)
 refine wpAny_bind (wpAny_lookBehind hoD (by rw[hdD];exact pastItsLine_dict (Nat.le_trans hcD (by rw[List.length_cons];omega))) ?_)
 exact wpAny_pure (h _ ⟨(hs2.2 _ (Ne.symm I.ne)).trans I.obj,hn2,I.ne⟩ hs2)
theorem XS {R:Result→Shared→Prop}{vs:List Value}{kw:List (Str×Value)}(X:K.In s.heap) (hm:PySem.W.makesIn K C=true)
  (hi:PySem.W.findIn K (.ref C) "__init__" = some (some (.ref f))) (hf:PySem.W.typeIn K (.ref f)=some (.type "function"))
  (h:codeAny (model prog w) (A.under (.builtin "type.__call__" ⟨.ref C::vs,kw⟩)) (.call (.ref f) ⟨.ref (s.heap.objs.size+1)::vs,kw⟩) (PySem.W.InitBack (s.heap.objs.size+1) R)
   { s with heap:=(s.heap.push PySem.W.emptyDict).push (PySem.W.instObj C s.heap.objs.size) }) :
  codeAny (model prog w) A (.call (.ref C) ⟨vs,kw⟩) R s:=by
 obtain⟨hh,g,d,t,os⟩:=s
 exact PySem.W.make_core (PySem.W.makes_of X hm) (PySem.W.looks_findIn X hi) (fun self=>PySem.W.bind_fn X self hf) (.inl rfl) h
end
noncomputable def uh (f:Str) (v:V):List (Str×V)→List (Str×V)
 |[]=>[(f,v)]
 |(g,x)::r=>if g=f then(g,v)::r else(g,x)::uh f v r
theorem wC (f g:Str) (v:V):∀ fs:List (Str×V),(uh f v fs).lookup g=if g=f then some v else fs.lookup g
 |[]=>by
  show List.lookup g [(f,v)]=_
  by_cases h:g=f
  ·have hb:(g == f)=true:=beq_iff_eq.mpr h
   simp only[List.lookup,hb,if_pos h]
  ·have hb:(g == f)=false:=beq_eq_false_iff_ne.mpr h
   simp only[List.lookup,hb,if_neg h]
 |(k,x)::r=>by
  have ih:=wC f g v r
  rw[show uh f v ((k,x)::r)=(if k=f then(k,v)::r else(k,x)::uh f v r) from rfl]
  by_cases hk:k=f
  ·rw[if_pos hk]
   by_cases h:g=k
   ·have hb:(g == k)=true:=beq_iff_eq.mpr h
    simp only[List.lookup,hb,if_pos (h.trans hk)]
   ·have hb:(g == k)=false:=beq_eq_false_iff_ne.mpr h
    simp only[List.lookup,hb,if_neg (fun e:g=f=>h (e.trans hk.symm))]
  ·rw[if_neg hk]
   by_cases h:g=k
   ·have hb:(g == k)=true:=beq_iff_eq.mpr h
    simp only[List.lookup,hb,if_neg (fun e:g=f=>hk (h.symm.trans e))]
   ·have hb:(g == k)=false:=beq_eq_false_iff_ne.mpr h
    simp only[List.lookup,hb]
    exact ih
theorem wE (f:Str) (v:V):∀ fs:List (Str×V),f∈(uh f v fs).map (·.1)∧∀ g,g∈fs.map (·.1)→g∈(uh f v fs).map (·.1)
 |[]=>⟨by simp[uh],fun g h=>by simp at h⟩
 |(k,x)::r=>by
  obtain⟨i1,i2⟩:=wE f v r
  rw[show uh f v ((k,x)::r)=(if k=f then(k,v)::r else(k,x)::uh f v r) from rfl]
  by_cases hk:k=f
  ·rw[if_pos hk]
   subst hk
   exact⟨by simp,fun g h=>by simpa using h⟩
  ·rw[if_neg hk]
   refine⟨?_,fun g h=>?_⟩
   ·rw[List.map_cons]
    exact List.mem_cons_of_mem _ i1
   ·rw[List.map_cons] at h ⊢
    rcases List.mem_cons.mp h with e | e
    ·exact List.mem_cons.mpr (.inl e)
    ·exact List.mem_cons_of_mem _ (i2 g e)
theorem wD (f:Str) (v:V):∀ fs:List (Str×V),(uh f v fs).length≤fs.length+1
 |[]=>by simp[uh]
 |(k,x)::r=>by
  have ih:=wD f v r
  rw[show uh f v ((k,x)::r)=(if k=f then(k,v)::r else(k,x)::uh f v r) from rfl]
  by_cases hk:k=f
  ·rw[if_pos hk,List.length_cons,List.length_cons];omega
  ·rw[if_neg hk,List.length_cons,List.length_cons];omega
theorem RelO.some_of {v:V}{o:Option Value}(r:RelO (some v) o):∃ u,o=some u∧RelV v u:=by
 cases o with
 |none=>exact(show False from r).elim
 |some u=>exact⟨u,rfl,r⟩
theorem RelO.none_of {o:Option Value}(r:RelO none o):o=none:=by
 cases o with
 |none=>rfl
 |some u=>exact(show False from r).elim
theorem YU {v:V}{u:Value}(r:RelV v u):PySem.W.handedIn u=true:=by
 cases v with
 |non=>cases (show u=Value.none from r);rfl
 |bl b=>cases (show u=Value.bool b from r);rfl
 |int i=>obtain⟨t,e⟩:=(show ∃ t,u=Value.int i t from r);cases e;rfl
 |str x=>obtain⟨t,e⟩:=(show ∃ t,u=Value.str x t from r);cases e;rfl
 |byt b=>obtain⟨t,e⟩:=(show ∃ t,u=Value.bytes b t from r);cases e;rfl
 |flt b=>obtain⟨t,e⟩:=(show ∃ t,u=Value.float b t from r);cases e;rfl
 |ref a=>cases (show u=Value.ref a from r);rfl
 |ty n=>cases (show u=Value.type n from r);rfl
section
variable {P:Program}{w:World}{H H':Hp}{h h':Heap}{a C dx:Addr}{fs fs':List (Str×V)}
theorem vA (hok:HOk P w H h) (e:H a=some (.ins C dx fs)):∃ mA,ObjM h a dx C mA∧(∀ f,RelO (fs.lookup f) (mA f))∧PySem.Within mA (fs.map (·.1))∧fs.length≤1000∧H dx=some (.own a):=by
 obtain⟨d,z,ne,ob,mA,n,r,q⟩:=(show ObjOk P w H h a (.ins C dx fs) from hok a _ e)
 exact⟨mA,⟨ob,n,ne⟩,r,q,z,d⟩
end
structure Cls (K:PySem.W.Frag) (C:Addr):Prop where
 pg:PySem.W.plainGet K C Str.empty=true
 hd:PySem.W.hasDictIn K C=true
 po:PySem.W.plainOver K C=true
 sa:PySem.W.findIn K (.ref C) "__setattr__" = some (some (.builtin "object.__setattr__"))
theorem Cls.get {K:PySem.W.Frag}{C:Addr}(c:Cls K C) (f:Str):PySem.W.plainGet K C f=true:=c.pg
def NoAttr (K:PySem.W.Frag) (C:Addr) (f:Str):Prop:=PySem.W.findIn K (.ref C) f=some none
theorem NoAttr.taker {K:PySem.W.Frag}{C:Addr}{f:Str}(n:NoAttr K C f):PySem.W.takerIn K C f=some none:=by
 unfold PySem.W.takerIn
 rw[show PySem.W.findIn K (.ref C) f=some none from n]
 rfl
structure Meth (K:PySem.W.Frag) (C:Addr) (m:Str) (f:Addr):Prop where
 at_:PySem.W.findIn K (.ref C) m=some (some (.ref f))
 fn:PySem.W.isFn K (.ref f)=true
 kp:PySem.W.keepIn K (.ref f)=true
section
variable {X:Cx}{pins:List (Addr×Obj)}{σ:St}{H:Hp}{s:Shared}{a C dx:Addr}{fs:List (Str×V)}{f:Str}{v:V}{A:Around}{E:Value→Shared→Prop}
theorem ZK {b:Bool}{Q:Value→Shared→Prop}(I:Inv X pins σ H s) (e:H a=some (.ins C dx fs)) (c:Cls X.K C) (n:NoAttr X.K C f) (l:fs.lookup f=some v)
  (h:∀ u s',Inv X pins σ H s'→RelV v u→Q u s'):wpAny (model X.prog X.w) A (getAttr (.ref a) f b) Q E s:=by
 obtain⟨mA,O,r,_,_,_⟩:=vA I.hok e
 obtain⟨u,hu,ru⟩:=RelO.some_of (v:=v) (o:=mA f) (by rw[← l];exact r f)
 exact VS I.kIn O (c.get f) c.hd n hu (YU ru) (h u _ (I.tok _) ru)
theorem xa {m:Str}{g:Addr}{pl:Sem Bool}{Q:Value×List Value→Shared→Prop}(I:Inv X pins σ H s) (e:H a=some (.ins C dx fs)) (c:Cls X.K C) (k:Meth X.K C m g) (l:fs.lookup m=none)
  (h:Q (.ref g,[.ref a]) s):wpAny (model X.prog X.w) A (getMethod (.ref a) m pl) Q E s:=by
 obtain⟨mA,O,r,_,_,_⟩:=vA I.hok e
 have hn:mA m=none:=RelO.none_of (by rw[← l];exact r m)
 exact X8 I.kIn O (c.get m) k.at_ k.fn hn h
theorem ZE {y:V}{u:Value}{Q:Unit→Shared→Prop}(I:Inv X pins σ H s) (e:H a=some (.ins C dx fs)) (c:Cls X.K C) (n:NoAttr X.K C f) (hl:fs.length<1000) (ry:RelV y u)
  (h:∀ s',Inv X pins σ (upd H a (.ins C dx (uh f y fs))) s'→Q () s'):wpAny (model X.prog X.w) A (setAttr (.ref a) f u) Q E s:=by
 obtain⟨mA,O,r,wi,_,ho⟩:=vA I.hok e
 have hz:(fs.map (·.1)).length≤sizeLine:=by rw[List.length_map,sizeLine_eq];omega
 refine Vk I.kIn O c.sa c.po n.taker c.hd wi hz fun h' O' sb=>h _ ?_
 have hd:∃ o,h'.get? dx=some o:=let ⟨o,_,_,e',_⟩:=O'.ns;⟨o,e'⟩
 refine I.write (x:=a) (e:=dx) (by rw[e];exact True.intro) (.inr ho) (fun b q hb z=>(sb.2 b hb).trans z) hd ?_
 refine⟨by rw[upd_ne O.ne];exact ho,?_,O.ne,O'.obj,_,O'.ns,fun g=>?_,fun g hg=>?_⟩
 ·have:=wD f y fs;omega
 ·show RelO ((uh f y fs).lookup g) (if g=f then some u else mA g)
  rw[wC]
  by_cases q:g=f
  ·rw[if_pos q,if_pos q];exact ry
  ·rw[if_neg q,if_neg q];exact r g
 ·by_cases q:g=f
  ·rw[q];exact(wE f y fs).1
  ·refine(wE f y fs).2 g (wi g fun z=>hg ?_)
   show(if g=f then some u else mA g)=none
   rw[if_neg q];exact z
theorem Inv.made (I:Inv X pins σ H s):Inv X pins σ (upd (upd H s.heap.objs.size (.own (s.heap.objs.size+1))) (s.heap.objs.size+1) (.ins C s.heap.objs.size []))
  { s with heap:=(s.heap.push PySem.W.emptyDict).push (PySem.W.instObj C s.heap.objs.size) }:=by
 have e1:(s.heap.push PySem.W.emptyDict).get? s.heap.objs.size=some PySem.W.emptyDict:=Heap.get?_push_size s.heap rfl
 have e2:((s.heap.push PySem.W.emptyDict).push (PySem.W.instObj C s.heap.objs.size)).get? (s.heap.objs.size+1)=some (PySem.W.instObj C s.heap.objs.size):=by
  have:=Heap.get?_push_size (s.heap.push PySem.W.emptyDict) (o:=PySem.W.instObj C s.heap.objs.size) rfl
  rwa [Heap.size_push] at this
 have e3:(s.heap.push PySem.W.emptyDict).Ns s.heap.objs.size (fun _=>none):=⟨PySem.W.emptyDict,#[],_,e1,rfl,(fun e he=>absurd he (by simp)),fun _=>rfl⟩
 have I1:=I.laid (a:=s.heap.objs.size) (o:=.own (s.heap.objs.size+1)) (h':=s.heap.push PySem.W.emptyDict) (t':=s.toks) (fun b u q=>Heap.get?_push_of_some _ q) (Nat.le_refl _) ⟨_,e1⟩
 refine I1.laid (a:=s.heap.objs.size+1) (o:=.ins C s.heap.objs.size []) (t':=s.toks) (fun b u q=>Heap.get?_push_of_some _ q) (Nat.le_of_eq (Heap.size_push _ _)) ?_
 have ne:s.heap.objs.size≠s.heap.objs.size+1:=Nat.ne_of_lt (Nat.lt_succ_self _)
 refine⟨by rw[upd_ne ne,upd_same],Nat.zero_le _,ne,e2,fun _=>none,(Heap.Ns1.of_empty e3).at fun o q=>Heap.get?_push_of_some _ q,fun _=>True.intro,fun y hy=>absurd rfl hy⟩
theorem attr_of {prog:Program}{w:World}{env:Env}{e:Expr}{f:Str}{pos:Pos}{s:Shared}{Q:Value→Shared→Prop}(hb:attributeBase e f env (eval e env)=eval e env)
  (h:wpAny (model prog w) A (eval e env) (fun o s₁=>wpAny (model prog w) A (getAttr o f true) Q E s₁) E s):wpAny (model prog w) A (eval (.Attribute e f pos) env) Q E s :=
 Attribute_any_ h (by rw[arm_eval_Attribute,hb])
end
def zb8 (K:PySem.W.Frag) (ta:TE) (f:Str):TE:=fun σ H Q=>ta σ H fun x H1=>∃ a C dx fs v,x=.ref a∧H1 a=some (.ins C dx fs)∧Cls K C∧NoAttr K C f∧fs.lookup f=some v∧Q v H1
def zbT (K:PySem.W.Frag) (ta tv:TE) (f:Str):TS:=fun D σ H=>tv σ H fun y H1=>ta σ H1 fun x H2=>∃ a C dx fs,x=.ref a∧H2 a=some (.ins C dx fs)∧Cls K C∧NoAttr K C f∧fs.length<1000 ∧
 D.nx σ (upd H2 a (.ins C dx (uh f y fs)))
section
variable {X:Cx}{o e value:Expr}{f:Str}{pos pos' tpos:Pos}{ta tv:TE}
theorem yp (he:Bx (PE X e ta)) (hb:attributeBase e f X.env (eval e X.env)=eval e X.env):Bx (PE X (.Attribute e f pos) (zb8 X.K ta f)):=by
 have he:=he.of
 refine⟨?_⟩
 intro pins s σ H Q I h
 refine attr_of hb (thn (he pins s σ H _ I h) fun u s1 hq0=>?_)
 obtain⟨x,H1,I1,rx,a,C,dx,fs,v,ex,ea,c,n,l,q⟩:=hq0
 subst ex
 obtain rfl:u=Value.ref a:=rx
 exact ZK I1 ea c n l fun u' s2 I2 ru=>⟨v,H1,I2,ru,q⟩
theorem Zc (ha:PE X o ta) (hv:PE X value tv) (hs:swapsWith value (some (.Attribute o f pos')) pos.line X.env=pure false):PS X (.Assign [.Attribute o f pos'] value pos) (zbT X.K ta tv f):=by
 intro pins s σ H D I h
 refine plainObj_wpAny_Assign_Attribute (thn (hv pins s σ H _ I h) fun u s1 ⟨y,H1,I1,ry,q⟩=>thn (ha pins s1 σ H1 _ I1 q) fun ov s2 hq0=>?_) hs
 obtain⟨x,H2,I2,rx,a,C,dx,fs,ex,ea,c,n,l,q2⟩:=hq0
 subst ex
 obtain rfl:ov=Value.ref a:=rx
 exact ZE I2 ea c n l ry fun s3 I3=>⟨σ,_,I3,q2⟩
theorem VN {pl:Sem Bool}{m:Str}{apos:Pos}{args:List Expr}{pins:List (Addr×Obj)}{s:Shared}{σ:St}{H:Hp}{Q:Value→Shared→Prop}{te:TE}(he:PE X e te) (I:Inv X pins σ H s)
  (h:te σ H fun x H1=>∃ a C dx fs g,x=.ref a∧H1 a=some (.ins C dx fs)∧Cls X.K C∧Meth X.K C m g∧fs.lookup m=none ∧
   ∀ s1,Inv X pins σ H1 s1→wpAny (model X.prog X.w) X.A (callWith pos (.ref g) [.ref a] (backTo pos (starEach args X.env)) (backToKw pos (keywordEach [] X.env))) Q X.xe s1)
  (ht:eval (.Call (.Attribute e m apos) args [] pos) X.env=(do
   let ov ← eval e X.env
   standAt apos.atName
   let (f,first) ← holding [ov] (getMethod ov m pl)
   callWith pos f first (backTo pos (starEach args X.env)) (backToKw pos (keywordEach [] X.env)))) :
  wpAny (model X.prog X.w) X.A (eval (.Call (.Attribute e m apos) args [] pos) X.env) Q X.xe s:=by
 refine PySem.W.methodCall_KW (pl:=pl) (thn (he pins s σ H _ I h) fun u s1 hq0=>?_) ht
 obtain⟨x,H1,I1,rx,a,C,dx,fs,g,ex,ea,c,k,l,q⟩:=hq0
 subst ex
 obtain rfl:u=Value.ref a:=rx
 exact xa I1 ea c k l (q s1 I1)
end
section
variable {X:Cx}{pins:List (Addr×Obj)}{σ:St}{H:Hp}{s:Shared}{A:Around}{E:Value→Shared→Prop}{Q:Value→Shared→Prop}{c:Value}{b:Bool}
inductive TyOf (K:PySem.W.Frag) (H:Hp):V→Value→Prop where
 |non:TyOf K H .non (.type "NoneType")
 |bl (x:Bool):TyOf K H (.bl x) (.type "bool")
 |int (i:Int):TyOf K H (.int i) (.type "int")
 |str (x:Str):TyOf K H (.str x) (.type "str")
 |flt (x:UInt64):TyOf K H (.flt x) (.type "float")
 |lst {a:Addr}{xs:List V}(e:H a=some (.lst xs)):TyOf K H (.ref a) (.type "list")
 |frz {a:Addr}{o:Obj}{xs:List V}(e:H a=some (.frz o (.lst xs))):TyOf K H (.ref a) (.type "list")
 |tup {a:Addr}{xs:List V}(e:H a=some (.tup xs)):TyOf K H (.ref a) (.type "tuple")
 |dK {a:Addr}{kvs:List (Key×V)}(e:H a=some (.dK kvs)):TyOf K H (.ref a) (.type "dict")
 |dT {a:Addr}{kvs:List (List Key×V)}(e:H a=some (.dT kvs)):TyOf K H (.ref a) (.type "dict")
 |ins {a C dx:Addr}{fs:List (Str×V)}(e:H a=some (.ins C dx fs)) (cl:Cls K C) (ha:PySem.W.findIn K (.ref C) "__class__" = some (some (.builtin "object.__class__")))
   (hn:PySem.W.specialIn K (.builtin "object.__class__") "__get__" = some (some (.builtin "getset_descriptor.__get__"))) (htk:PySem.W.takesIn K (.builtin "object.__class__")=some true)
   (hm:PySem.W.mroIn K C (.type "object")=some true):TyOf K H (.ref a) (.ref C)
theorem YO {x:V}{u t:Value}(I:Inv X pins σ H s) (rx:RelV x u) (ty:TyOf X.K H x t) (e:PySem.W.kitOne X.K t c=some b) (h:∀ tk,Q (.bool b) { s with toks:=tk }) :
  wpAny (model X.prog X.w) A (call (.builtin "isinstance") [u,c]) Q E s:=by
 cases ty with
 |non=>cases (show u=Value.none from rx);exact PySem.W.kia_one PySem.W.kitx_none I.kIn True.intro e (fun z=>nomatch z) h
 |bl y=>cases (show u=Value.bool y from rx);exact PySem.W.kia_one PySem.W.kitx_bool I.kIn True.intro e (fun z=>nomatch z) h
 |int i=>obtain⟨t,q⟩:=(show ∃ t,u=Value.int i t from rx);cases q;exact PySem.W.kia_one PySem.W.kitx_int I.kIn True.intro e (fun z=>nomatch z) h
 |str y=>obtain⟨t,q⟩:=(show ∃ t,u=Value.str y t from rx);cases q;exact PySem.W.kia_one PySem.W.kitx_str I.kIn True.intro e (fun z=>nomatch z) h
 |flt y=>obtain⟨t,q⟩:=(show ∃ t,u=Value.float y t from rx);cases q;exact PySem.W.kia_one PySem.W.kitx_float I.kIn True.intro e (fun z=>nomatch z) h
 | @lst a xs ea =>
  cases (show u=Value.ref a from rx)
  obtain⟨_,_,n,_,h1⟩:=(show ObjOk X.prog X.w H s.heap a (.lst xs) from I.hok a _ ea)
  exact PySem.W.kia_one PySem.W.kitx_list I.kIn ⟨_,h1,rfl⟩ e (fun z=>nomatch z) h
 | @frz a ob xs ea =>
  cases (show u=Value.ref a from rx)
  obtain⟨_,_,_,n,_,h1⟩:=(show ObjOk X.prog X.w H s.heap a (.frz ob (.lst xs)) from I.hok a _ ea)
  exact PySem.W.kia_one PySem.W.kitx_list I.kIn ⟨_,h1,rfl⟩ e (fun z=>nomatch z) h
 | @tup a xs ea =>
  cases (show u=Value.ref a from rx)
  obtain⟨_,_,_,p⟩:=(show ObjOk X.prog X.w H s.heap a (.tup xs) from I.hok a _ ea)
  obtain⟨o,h1,h2,_⟩:=p
  exact PySem.W.kia_one PySem.W.kitx_tuple I.kIn ⟨o,h1,h2⟩ e (fun z=>nomatch z) h
 | @dK a kvs ea =>
  cases (show u=Value.ref a from rx)
  obtain⟨_,_,vs,_,p⟩:=(show ObjOk X.prog X.w H s.heap a (.dK kvs) from I.hok a _ ea)
  obtain⟨o,es,ep,h1,h2,_⟩:=p
  exact PySem.W.kia_one PySem.W.kitx_dict I.kIn ⟨o,h1,h2.1⟩ e (fun z=>nomatch z) h
 | @dT a kvs ea =>
  cases (show u=Value.ref a from rx)
  obtain⟨_,_,xs,_,o,es,ep,h1,h2,_⟩:=(show ObjOk X.prog X.w H s.heap a (.dT kvs) from I.hok a _ ea)
  exact PySem.W.kia_one PySem.W.kitx_dict I.kIn ⟨o,h1,h2.1⟩ e (fun z=>nomatch z) h
 | @ins a C dx fs ea cl ha hn htk hm =>
  cases (show u=Value.ref a from rx)
  obtain⟨mA,O,_⟩:=vA I.hok ea
  obtain⟨od,J,_⟩:=O.look
  exact PySem.W.kia_one (PySem.W.kitx_own (cl.get _) cl.hd ha hn htk hm) I.kIn J e (fun z=>nomatch z) h
end
structure Room (k:Nat) (A:Around):Prop where
 hd:A.handled=none
 dp:A.depth+3*k+5<recursionLimit
 un:A.units+16*k+200<cLine
theorem Room.mono {j k:Nat}{A:Around}(r:Room k A) (h:j≤k):Room j A:=⟨r.hd,by have:=r.dp;omega,by have:=r.un;omega⟩
theorem Room.m{j k:Nat}{A:Around}(r:Room k A)(h:j≤k:=by omega):Room j A:=r.mono h
theorem Room.deeper {k:Nat}{A:Around}(r:Room (k+1) A) (env:Env):Room k (A.deeper env) :=
 ⟨r.hd,by have:=r.dp;show A.depth+1+3*k+5<_;omega,by have:=r.un;show A.units+3+16*k+200<_;omega⟩
theorem ZH {A:Around}{C:Addr}{us:List Value}{kw:List (Str×Value)}:(A.under (.builtin "type.__call__" ⟨.ref C::us,kw⟩)).depth=A.depth+1:=by
 first | rfl | simp[Around.under,Code.weight,Code.isCreation,Code.isGuard,Code.isCaller,Code.frames,Code.isFrame,guardIds]
theorem ZG {A:Around}{C:Addr}{us:List Value}{kw:List (Str×Value)}:(A.under (.builtin "type.__call__" ⟨.ref C::us,kw⟩)).units=A.units+1:=by
 first | rfl | simp[Around.under,Code.cUnits,Code.frames,Code.isFrame]
theorem Room.make {k:Nat}{A:Around}(r:Room (k+1) A) (C:Addr) (us:List Value) (kw:List (Str×Value)):Room k (A.under (.builtin "type.__call__" ⟨.ref C::us,kw⟩)) :=
 ⟨r.hd,by have:=r.dp;rw[ZH];omega,by have:=r.un;rw[ZG];omega⟩
theorem Room.depth {k:Nat}{A:Around}(r:Room k A):A.depth<recursionLimit:=by have:=r.dp;omega
theorem Room.units {k:Nat}{A:Around}(r:Room k A):A.units+64<cLine:=by have:=r.un;omega
def Xw:TA:=fun _ H Q=>Q [] H
def xl (ta:TE) (tr:TA):TA:=fun σ H Q=>ta σ H fun x H1=>tr σ H1 fun xs H2=>Q (x::xs) H2
section
variable {X:Cx}{e:Expr}{es:List Expr}{te:TE}{t:TA}{pos:Pos}
theorem yf:PA X [] Xw:=fun _ _ _ _ H Q I h=>Calls.spliced_nil ⟨[],H,I,.nil,h⟩
theorem yU (ha:PE X e te) (hr:PA X es t) (hs:starEach (e::es) X.env=(false,eval e X.env)::starEach es X.env:=by rfl):PA X (e::es) (xl te t):=by
 intro pos pins s σ H Q I h
 rw[hs]
 show wpAny _ _ (spliced ((false,eval e X.env)::backTo pos (starEach es X.env))) _ _ s
 refine Calls.spliced_cons (thn (ha pins s σ H _ I h) fun u s1 hq0=>?_)
 obtain⟨x,H1,I1,r1,q1⟩:=hq0
 exact thn (hr pos pins s1 σ H1 _ I1 q1) fun us s2 ⟨xs,H2,I2,r2,q2⟩=>⟨x::xs,H2,I2,.cons r1 r2,q2⟩
def zb4 (t:TA):TE:=fun σ H Q=>t σ H fun xs H1=>xs.length≤sizeLine∧∀ p,H1 p=none→Q (.ref p) (upd H1 p (.tup xs))
def zby (t:TA):TE:=fun σ H Q=>t σ H fun xs H1=>xs.length≤sizeLine∧∀ p,H1 p=none→Q (.ref p) (upd H1 p (.lst xs))
theorem zR {x1}(h:Bx (PA X es t)):Bx (PE X (.Tuple es x1 pos) (zb4 t)):=by
 have h:=h.of
 refine⟨?_⟩
 intro pins s σ H Q I hq
 refine wpAny_Tuple_spliced (thn (h pos pins s σ H _ I hq) fun us s1 ⟨xs,H1,I1,r,z,q⟩=>⟨by rw[← r.length];exact z,?_⟩)
 have hf:H1 s1.heap.objs.size=none:=I1.hok.fresh (Nat.le_refl _)
 refine⟨.ref s1.heap.objs.size,upd H1 s1.heap.objs.size (.tup xs),I1.laid (t':=s1.toks) (fun b u e=>Heap.get?_push_of_some _ e) (Nat.le_refl _) ?_,rfl,q _ hf⟩
 exact⟨z,us,r,⟨_,Heap.get?_push_size _ rfl,rfl,_,rfl⟩⟩
theorem WC (h:PA X es t):PE X (.List es pos) (zby t):=by
 intro pins s σ H Q I hq
 refine wpAny_List_spliced (thn (h pos pins s σ H _ I hq) fun us s1 ⟨xs,H1,I1,r,z,q⟩=>⟨by rw[← r.length];exact z,?_⟩)
 have hf:H1 s1.heap.objs.size=none:=I1.hok.fresh (Nat.le_refl _)
 refine⟨.ref s1.heap.objs.size,upd H1 s1.heap.objs.size (.lst xs),I1.laid (t':=s1.toks) (fun b u e=>Heap.get?_push_of_some _ e) (Nat.le_refl _) ?_,rfl,q _ hf⟩
 exact⟨z,us,0,r,Heap.get?_push_size _ rfl⟩
end
abbrev Sp:=List V→Hp→VK→XK→Prop
abbrev CXT:=List Env→Hp→Shared→XK→Value→Shared→Prop
structure Env0 (P:Program) (w:World) (K:PySem.W.Frag) (mg:Str→Option Value) (base:Heap) (A:Around) (outer:List Env) (s:Shared) (H:Hp):Prop where
 frames:A.frames=some outer
 mod:Mod K mg base
 bs:∀ b o,base.get? b=some o→s.heap.get? b=some o∧H b=none
 bsz:base.objs.size≤s.heap.objs.size
 funs:s.heap.FunFrames base outer
 frf:∀ b∈frs outer,H b=none
 hok:HOk P w H s.heap
 bare:AllBare s.gens
def CE (outer:List Env) (P:Program) (w:World) (H:Hp) (s:Shared) (Q:VK) (u:Value) (s':Shared):Prop :=
 ∃ v H',s'.os=s.os∧AllBare s'.gens∧Un (frs outer) [] H H' s.heap s'.heap∧HOk P w H' s'.heap∧RelV v u∧Q v H'
def CR (CX:CXT) (outer:List Env) (P:Program) (w:World) (H:Hp) (s:Shared) (Q:VK) (E:XK) (r:Result) (s':Shared):Prop :=
 match r with
 |.ok (.ret u)=>CE outer P w H s Q u s'
 |.ok _=>False
 |.error e=>CX outer H s E e s'
structure FnOk (P:Program) (w:World) (K:PySem.W.Frag) (mg:Str→Option Value) (base:Heap) (CX:CXT) (k:Nat) (f:Addr) (fd:FuncData) (ps:List Str) (sp:Sp):Prop where
 len:∀ vs H Q E,sp vs H Q E→vs.length=ps.length
 run:∀ (A:Around) (outer:List Env) (s:Shared) (H:Hp) (args:Args) (us:List Value) (vs:List V) (Q:VK) (E:XK),Room k A→Env0 P w K mg base A outer s H→BindsTo s fd args (ps.zip us)→Vals vs us→sp vs H Q E →
  codeAny (model P w) A (.call (.ref f) args) (CR CX outer P w H s Q E) s
theorem FnOk.imp {P:Program}{w:World}{K:PySem.W.Frag}{mg:Str→Option Value}{base:Heap}{CX:CXT}{k:Nat}{f:Addr}{fd:FuncData}{ps:List Str}{sp sp':Sp}(F:FnOk P w K mg base CX k f fd ps sp)
  (h:∀ vs H Q E,sp' vs H Q E→sp vs H Q E):FnOk P w K mg base CX k f fd ps sp' :=
 ⟨fun vs H Q E q=>F.len vs H Q E (h _ _ _ _ q),fun A outer s H args us vs Q E hr he hb hv hs=>F.run A outer s H args us vs Q E hr he hb hv (h _ _ _ _ hs)⟩
theorem Env0.make {P:Program}{w:World}{K:PySem.W.Frag}{mg:Str→Option Value}{base:Heap}{A:Around}{outer:List Env}{s:Shared}{H:Hp}(e:Env0 P w K mg base A outer s H) (C:Addr) (us:List Value) (kw:List (Str×Value)) :
  Env0 P w K mg base (A.under (.builtin "type.__call__" ⟨.ref C::us,kw⟩)) outer s H:=⟨by first | exact e.frames | (simpa[Around.under,Code.envs,Code.isFrame,pushEnvs] using e.frames),e.mod,e.bs,e.bsz,e.funs,e.frf,e.hok,e.bare⟩
section
variable {X:Cx}{pins:List (Addr×Obj)}{σ:St}{H:Hp}{s s':Shared}
theorem Inv.env0 (I:Inv X pins σ H s):Env0 X.prog X.w X.K X.mg X.base X.A X.stack s H :=
 ⟨I.ok.frames,I.ok.mod,I.bs,Nat.le_trans I.ok.bsz I.sz,I.stack,I.stkFree,I.hok,I.bare⟩
theorem Inv.after {Q:VK}{u:Value}(I:Inv X pins σ H s) (h:CE X.stack X.prog X.w H s Q u s'):EP X pins σ Q u s':=by
 obtain⟨v,H',os,bare,un,hok,r,q⟩:=h
 obtain⟨hh,g,d,t,os'⟩:=s'
 obtain rfl:os'=s.os:=os
 exact⟨v,H',I.call (h':=hh) (g':=g) (d':=d) (t':=t) (ch:=[]) un hok bare (fun b z=>absurd z (by simp)),r,q⟩
end
def ZD (sp:Sp) (dvs:List V) (E:XK) (t:TA):TE:=fun σ H Q=>t σ H fun vs H1=>sp (vs++dvs) H1 Q E
def Uh (C:Addr) (m:Str) (sp:Sp) (dvs:List V) (E:XK) (ta:TE) (t:TA):TE:=fun σ H Q=>ta σ H fun x H1=>∃ a dx fs,x=.ref a∧H1 a=some (.ins C dx fs)∧fs.lookup m=none ∧
 t σ H1 fun vs H2=>sp (x::(vs++dvs)) H2 Q E
def Ui (C:Addr) (sp:Sp) (dvs:List V) (E:XK) (t:TA):TE:=fun σ H Q=>t σ H fun vs H1=>∀ x dx,H1 x=none→H1 dx=none→dx≠x →
 sp (.ref x::(vs++dvs)) (upd (upd H1 dx (.own x)) x (.ins C dx [])) (fun v H2=>v=.non∧Q (.ref x) H2) E
def Binds (K:PySem.W.Frag) (fd:FuncData) (ps:List Str) (ds:List Value):Prop :=
 ∀ (s:Shared) (us:List Value),K.In s.heap→(us++ds).length=ps.length→BindsTo s fd ⟨us,[]⟩ (ps.zip (us++ds))
theorem Binds.all {K:PySem.W.Frag}{fd:FuncData}{ps:List Str}(h:∀ us:List Value,us.length=ps.length→bindArgs fd ⟨us,[]⟩=pure (ps.zip us)):Binds K fd ps []:=fun s us _ hl=>by
 rw[List.append_nil] at hl ⊢
 exact .of_eq (h us hl)
def wL (CX:CXT) (X:Cx) (E:XK):Prop:=∀ (pins:List (Addr×Obj)) (σ:St) (H:Hp) (s:Shared) (e:Value) (s':Shared),Inv X pins σ H s→CX X.stack H s E e s'→X.xe e s'
section
variable {X:Cx}{CX:CXT}{k:Nat}{f C:Addr}{fd:FuncData}{ps:List Str}{sp:Sp}{dvs:List V}{ds:List Value}{E:XK}{x m:Str}{p pos apos:Pos}{e o:Expr}{es:List Expr}{ta:TE}{t:TA}
theorem Zb {pins:List (Addr×Obj)}{σ:St}{H:Hp}{s:Shared}{Q:VK}{us:List Value}{vs:List V}(F:FnOk X.prog X.w X.K X.mg X.base CX k f fd ps sp) (hr:Room k X.A) (hb:Binds X.K fd ps ds) (hd:Vals dvs ds) (hx:wL CX X E)
  (I:Inv X pins σ H s) (r:Vals vs us) (h:sp (vs++dvs) H Q E):wpAny (model X.prog X.w) X.A (call (.ref f) us) (EP X pins σ Q) X.xe s:=by
 have r2:Vals (vs++dvs) (us++ds):=r.append hd
 have hl:(us++ds).length=ps.length:=by rw[← r2.length];exact F.len _ _ _ _ h
 refine wpAny_call (codeAny_mono (F.run X.A X.stack s H ⟨us,[]⟩ (us++ds) (vs++dvs) Q E hr I.env0 (hb s us I.kIn hl) r2 h) fun r s' hq=>?_)
 cases r with
 |error e=>exact hx pins σ H s e s' I hq
 |ok fl =>
  cases fl with
  |ret u=>exact I.after hq
  |next=>exact False.elim hq
  |brk=>exact False.elim hq
  |cont=>exact False.elim hq
theorem Vx (F:FnOk X.prog X.w X.K X.mg X.base CX k f fd ps sp) (hr:Room k X.A) (hg:Gl X x) (hm:X.mg x=some (.ref f)) (hk:PySem.W.keepIn X.K (.ref f)=true) (hb:Binds X.K fd ps ds) (hd:Vals dvs ds) (hx:wL CX X E)
  (ha:PA X (e::es) t) (hdb:(x == ("__debug__" : Str))=false:=by decide) (he:starEach (e::es) X.env=(false,eval e X.env)::starEach es X.env:=by rfl) (hpl:(backTo pos (starEach es X.env)).any (·.1)=false:=by rfl) :
  PE X (.Call (.Name x p) (e::es) [] pos) (ZD sp dvs E t):=by
 intro pins s σ H Q I h
 refine wpAny_Call_Name_kw (ld_glob I hg hm ?_ hdb)
 refine PySem.W.callWith_K (h₀:=X.base) I.ok.mod.kin hk (thn (ha pos pins s σ H _ I h) fun us s1 ⟨vs,H1,I1,r,q⟩=>⟨I1.kIn,?_⟩) he hpl
 exact Zb F hr hb hd hx I1 r q
theorem Vv {pl:Sem Bool}(he:PE X o ta) (c:Cls X.K C) (hm:Meth X.K C m f) (F:FnOk X.prog X.w X.K X.mg X.base CX k f fd ps sp) (hr:Room k X.A) (hb:Binds X.K fd ps ds) (hd:Vals dvs ds) (hx:wL CX X E) (ha:PA X (e::es) t)
  (hst:starEach (e::es) X.env=(false,eval e X.env)::starEach es X.env:=by rfl) (hpl:(backTo pos (starEach es X.env)).any (·.1)=false:=by rfl)
  (ht:eval (.Call (.Attribute o m apos) (e::es) [] pos) X.env=(do
   let ov ← eval o X.env
   standAt apos.atName
   let (f,first) ← holding [ov] (getMethod ov m pl)
   callWith pos f first (backTo pos (starEach (e::es) X.env)) (backToKw pos (keywordEach [] X.env))):=by rfl) :
  PE X (.Call (.Attribute o m apos) (e::es) [] pos) (Uh C m sp dvs E ta t):=by
 intro pins s σ H Q I h
 refine PySem.W.methodCall_KW (pl:=pl) (thn (he pins s σ H _ I h) fun u s1 hq0=>?_) ht
 obtain⟨x,H1,I1,rx,a,dx,fs,ex,ea,l,q⟩:=hq0
 subst ex
 obtain rfl:u=Value.ref a:=rx
 refine xa I1 ea c hm l ?_
 refine PySem.W.callWith_K (first:=[.ref a]) (h₀:=X.base) I.ok.mod.kin hm.kp (thn (ha pos pins s1 σ H1 _ I1 q) fun us s2 ⟨vs,H2,I2,r,q2⟩=>⟨I2.kIn,?_⟩) hst hpl
 exact Zb (us:=.ref a::us) (vs:=.ref a::vs) F hr hb hd hx I2 (.cons rfl r) q2
structure Mk (K:PySem.W.Frag) (C f:Addr):Prop where
 makes:PySem.W.makesIn K C=true
 init:PySem.W.findIn K (.ref C) "__init__" = some (some (.ref f))
 fn:PySem.W.isFn K (.ref f)=true
 kp:PySem.W.keepIn K (.ref C)=true
theorem Xx {pins:List (Addr×Obj)}{σ:St}{H:Hp}{s:Shared}{Q:VK}{us:List Value}{vs:List V}(M:Mk X.K C f) (F:FnOk X.prog X.w X.K X.mg X.base CX k f fd ps sp) (hr:Room (k+1) X.A) (hb:Binds X.K fd ps ds) (hd:Vals dvs ds)
  (hx:wL CX X E) (I:Inv X pins σ H s) (r:Vals vs us)
  (h:∀ x dx,H x=none→H dx=none→dx≠x→sp (.ref x::(vs++dvs)) (upd (upd H dx (.own x)) x (.ins C dx [])) (fun v H2=>v=.non∧Q (.ref x) H2) E) :
  wpAny (model X.prog X.w) X.A (call (.ref C) us) (EP X pins σ Q) X.xe s:=by
 have hq:=h (s.heap.objs.size+1) s.heap.objs.size (I.hok.fresh (Nat.le_succ _)) (I.hok.fresh (Nat.le_refl _)) (Nat.ne_of_lt (Nat.lt_succ_self _))
 have I2:=Inv.made (C:=C) I
 have r2:Vals (V.ref (s.heap.objs.size+1)::(vs++dvs)) (Value.ref (s.heap.objs.size+1)::(us++ds)):=.cons rfl (r.append hd)
 have hl:(Value.ref (s.heap.objs.size+1)::us++ds).length=ps.length:=by
  have e:=r2.length
  rw[F.len _ _ _ _ hq] at e
  exact e.symm
 refine wpAny_call (XS (f:=f) I.kIn M.makes M.init (beq_iff_eq.mp M.fn) (codeAny_mono (F.run _ X.stack _ _ ⟨Value.ref (s.heap.objs.size+1)::us,[]⟩ (Value.ref (s.heap.objs.size+1)::(us++ds)) _ _ E (hr.make C us [])
  (I2.env0.make C us []) (hb _ (Value.ref (s.heap.objs.size+1)::us) I2.kIn hl) r2 hq) fun r s' hq'=>?_))
 cases r with
 |error e=>exact hx pins σ _ _ e s' I2 hq'
 |ok fl =>
  cases fl with
  |ret u =>
   obtain⟨v,H',I3,rv,ev,q3⟩:=I2.after hq'
   subst ev
   exact⟨rv,⟨V.ref (s.heap.objs.size+1),H',I3,rfl,q3⟩⟩
  |next=>exact False.elim hq'
  |brk=>exact False.elim hq'
  |cont=>exact False.elim hq'
theorem Vw (M:Mk X.K C f) (F:FnOk X.prog X.w X.K X.mg X.base CX k f fd ps sp) (hr:Room (k+1) X.A) (hg:Gl X x) (hm:X.mg x=some (.ref C)) (hb:Binds X.K fd ps ds) (hd:Vals dvs ds) (hx:wL CX X E)
  (ha:PA X (e::es) t) (hdb:(x == ("__debug__" : Str))=false:=by decide) (he:starEach (e::es) X.env=(false,eval e X.env)::starEach es X.env:=by rfl) (hpl:(backTo pos (starEach es X.env)).any (·.1)=false:=by rfl) :
  PE X (.Call (.Name x p) (e::es) [] pos) (Ui C sp dvs E t):=by
 intro pins s σ H Q I h
 refine wpAny_Call_Name_kw (ld_glob I hg hm ?_ hdb)
 refine PySem.W.callWith_K (h₀:=X.base) I.ok.mod.kin M.kp (thn (ha pos pins s σ H _ I h) fun us s1 ⟨vs,H1,I1,r,q⟩=>⟨I1.kIn,?_⟩) he hpl
 exact Xx M F hr hb hd hx I1 r q
end
structure FnScope (N P:List Str) (sc:Scope):Prop where
 kind:sc.kind=.function
 co:sc.isCoroutine=false
 gen:sc.isGenerator=false
 nd:N.Nodup
 pre:N.take P.length=P
 par:∀ x∈P,sc.names.lookup x=some .local∨sc.names.lookup x=some .cell
 nofree:∀ y∈sc.names,y.2≠.free
theorem uf {kindOf:Str→Option NameKind}{x:Str}:∀ {binds:List (Str×Value)}{m:Str→Option Value},(∀ v,(x,v)∉binds)→bindL kindOf binds m x=m x
 |[],_,_=>rfl
 |(n,v)::r,m,h=>by
  unfold bindL
  rw[uf fun w hw=>h w (List.mem_cons_of_mem _ hw)]
  split
  ·have:x≠n:=by rintro rfl;exact h v List.mem_cons_self
   simp[this]
  ·rfl
theorem bindC_out {kindOf:Str→Option NameKind}{x:Str}:∀ {binds:List (Str×Value)}{m:Str→Option Value},(∀ v,(x,v)∉binds)→bindC kindOf binds m x=m x
 |[],_,_=>rfl
 |(n,v)::r,m,h=>by
  unfold bindC
  rw[bindC_out fun w hw=>h w (List.mem_cons_of_mem _ hw)]
  split
  ·rfl
  ·have:x≠n:=by rintro rfl;exact h v List.mem_cons_self
   simp[this]
theorem bindL_get {kindOf:Str→Option NameKind}{x:Str}{v:Value}:∀ {P:List Str}{vs:List Value}{i:Nat}{m:Str→Option Value},P.Nodup→P[i]?=some x→vs[i]?=some v→kindOf x=some .local →
  bindL kindOf (P.zip vs) m x=some v
 |[],_,_,_,_,h,_,_=>by simp at h
 |_::_,[],_,_,_,_,h,_=>by simp at h
 |p::P,w::vs,0,m,nd,h1,h2,hk=>by
  simp at h1 h2;subst h1;subst h2
  show bindL kindOf ((p,w)::P.zip vs) m p=_
  unfold bindL
  rw[uf fun v hv=>(List.nodup_cons.mp nd).1 (List.of_mem_zip hv).1,if_pos hk]
  simp
 |p::P,w::vs,i+1,m,nd,h1,h2,hk=>by
  show bindL kindOf ((p,w)::P.zip vs) m x=_
  unfold bindL
  exact bindL_get (i:=i) (List.nodup_cons.mp nd).2 (by simpa using h1) (by simpa using h2) hk
theorem ug {kindOf:Str→Option NameKind}{x:Str}{v:Value}:∀ {P:List Str}{vs:List Value}{i:Nat}{m:Str→Option Value},P.Nodup→P[i]?=some x→vs[i]?=some v→kindOf x≠some .local →
  bindC kindOf (P.zip vs) m x=some v
 |[],_,_,_,_,h,_,_=>by simp at h
 |_::_,[],_,_,_,_,h,_=>by simp at h
 |p::P,w::vs,0,m,nd,h1,h2,hk=>by
  simp at h1 h2;subst h1;subst h2
  show bindC kindOf ((p,w)::P.zip vs) m p=_
  unfold bindC
  rw[bindC_out fun v hv=>(List.nodup_cons.mp nd).1 (List.of_mem_zip hv).1,if_neg hk]
  simp
 |p::P,w::vs,i+1,m,nd,h1,h2,hk=>by
  show bindC kindOf ((p,w)::P.zip vs) m x=_
  unfold bindC
  exact ug (i:=i) (List.nodup_cons.mp nd).2 (by simpa using h1) (by simpa using h2) hk
def start (N:List Str) (vs:List V):St:=vs.map some++List.replicate (N.length-vs.length) none
noncomputable def V4 (CX:CXT) (P:Program) (w:World) (K:PySem.W.Frag) (mg:Str→Option Value) (base:Heap) (N:List Str) (qual:Str) (scope:Scope) (f:Addr) (cd:Value) (A:Around) (outer:List Env) (s:Shared) (H:Hp) (E:XK):Cx where
 prog:=P
 w:=w
 K:=K
 mg:=mg
 base:=base
 A:=A.deeper (envOfC qual scope s.heap.objs.size f cd)
 N:=N
 s₀:=s
 H₀:=H
 env:=envOfC qual scope s.heap.objs.size f cd
 outer:=outer
 stack:=envOfC qual scope s.heap.objs.size f cd::outer
 ex:=[]
 calm:=true
 fn:=fun _=>true
 pn:=[]
 xe:=fun e s'=>wpAny (model P w) (A.deeper (envOfC qual scope s.heap.objs.size f cd)) (leaving (envOfC qual scope s.heap.objs.size f cd) e) (fun _ s''=>CX outer H s E e s'') (fun e' s''=>CX outer H s E e' s'') s'
theorem Zv {sc:Scope}{n:Nat}{x:Str}(h:sc.names.lookup x=some .cell):∃ c,(cellsFrom n sc.names []).lookup x=some c:=by
 have q:=PySem.W.cellsFrom_some sc.names n [] (.inl h)
 exact Option.isSome_iff_exists.mp q
theorem YR {CX:CXT}{P:Program}{w:World}{K:PySem.W.Frag}{mg:Str→Option Value}{base:Heap}{N ps:List Str}{qual:Str}{scope:Scope}{f:Addr}{cd:Value}{A:Around}{outer:List Env}{s s1:Shared}{H:Hp}{E:XK}{us:List Value}{vs:List V}
  (S:FnScope N ps scope) (hd:A.handled=none) (e0:Env0 P w K mg base A outer s H) (hl:vs.length=ps.length) (r:Vals vs us)
  (x:InCallC s s.heap.objs.size (bindL (envOfC qual scope s.heap.objs.size f cd).kindOf (ps.zip us) fun _=>none) (cellsFrom (s.heap.objs.size+1) scope.names []) (bindC (envOfC qual scope s.heap.objs.size f cd).kindOf (ps.zip us) fun _=>none) s1) :
  Inv (V4 CX P w K mg base N qual scope f cd A outer s H E) [] (start N vs) H s1:=by
 have hpl:ps.length≤N.length:=by have:=congrArg List.length S.pre;rw[List.length_take] at this;omega
 obtain⟨h1,tk,rfl,hk⟩:=x.done
 have noA:∀ b:Addr,b∉(V4 CX P w K mg base N qual scope f cd A outer s H E).ex:=fun b z=>absurd (show b∈([]:List Addr) from z) (by simp)
 refine⟨⟨e0.mod,S.kind,rfl,rfl,Nat.le_refl _,fun y z c h1 h2=>?_,fun y hy=>?_,fun y c _ h=>?_,fun _=>hd,Around.frames_deeper e0.frames,.inr ⟨rfl,rfl⟩,fun b z=>absurd z (noA b),e0.bs,e0.bsz,fun b _ _=>noA b,fun b z=>absurd z (noA b),e0.funs,e0.frf⟩,
  rfl,e0.bare,Un.kept hk,⟨_,x.toInCall.ns,fun i y v h1 h2 h3=>?_⟩,fun y c h=>⟨_,x.cell y c h⟩,e0.hok.fresh (Nat.le_refl _),fun y c h=>?_,fun p hp=>absurd (show p∈([]:List (Addr×Obj)) from hp) (by simp),e0.hok.kept hk,?_⟩
 ·exact name_of_addr x.apart (PySem.mem_of_lookup h1) (PySem.mem_of_lookup h2)
 ·have hy:scope.names.lookup y=some .cell∨scope.names.lookup y=some .free:=hy
  rcases hy with hy | hy
  ·exact Zv hy
  ·exact absurd rfl (S.nofree _ (PySem.mem_of_lookup hy))
 ·exact Nat.le_of_lt (x.above y c (PySem.mem_of_lookup h))
 ·have hi:i<vs.length:=by
   unfold start at h2
   by_cases hi:i<vs.length
   ·exact hi
   ·rw[List.getElem?_append_right (by simpa using hi)] at h2
    rw[List.getElem?_replicate] at h2
    split at h2<;>cases h2
  have ha:vs[i]?=some v:=by
   unfold start at h2
   rw[List.getElem?_append_left (by simpa using hi),List.getElem?_map] at h2
   cases e:vs[i]? with
   |none=>rw[e] at h2;cases h2
   |some a=>rw[e] at h2;cases h2;rfl
  obtain⟨u,hu,rv⟩:=r.get ha
  have hp:ps[i]?=some y:=by
   rw[← S.pre,List.getElem?_take_of_lt (by omega)];exact h1
  have ndP:ps.Nodup:=by rw[← S.pre];exact S.nd.sublist (List.take_sublist _ _)
  refine⟨u,rv,?_⟩
  rcases S.par y (List.mem_of_getElem? hp) with k | k
  ·exact .inl ⟨k,bindL_get ndP hp hu k⟩
  ·obtain⟨c,e⟩:=Zv (n:=s.heap.objs.size+1) k
   refine .inr ⟨.inl k,c,e,?_⟩
   have q:=x.cell y c e
   rw[ug ndP hp hu (by show scope.names.lookup y≠_;rw[k];decide)] at q
   exact q
 ·exact e0.hok.fresh (Nat.le_of_lt (x.above y c (PySem.mem_of_lookup h)))
 ·unfold start
  show _=N.length
  rw[List.length_append,List.length_map,List.length_replicate]
  omega
theorem zbl {CX:CXT}{P:Program}{w:World}{K:PySem.W.Frag}{mg:Str→Option Value}{base:Heap}{k:Nat}{f:Addr}{name qual:Str}{params:Arguments}{body:List Stmt}{scope:Scope}{dV kV doc pm cdv ct oc:Value}{an od:Option Addr}
  {osl:Array (Option Value)}{N ps:List Str}{sp:Sp}(lk:K.lookup f=some ⟨oc,od,.func (PySem.W.fnOf name qual params body scope dV kV doc pm an cdv ct),osl⟩) (hcd:PySem.W.codeIn K cdv qual=true) (S:FnScope N ps scope)
  (len:∀ vs H Q E,sp vs H Q E→vs.length=ps.length)
  (hbody:∀ (A:Around) (outer:List Env) (s:Shared) (H:Hp) (vs:List V) (Q:VK) (E:XK),Room k (A.deeper (envOfC qual scope s.heap.objs.size f cdv))→sp vs H Q E →
   ∃ t,PSs (V4 CX P w K mg base N qual scope f cdv A outer s H E) body t∧t { nx:=fun _ H'=>Q .non H',rt:=Q } (start N vs) H) :
  FnOk P w K mg base CX (k+1) f (PySem.W.fnOf name qual params body scope dV kV doc pm an cdv ct) ps sp:=by
 refine⟨len,fun A outer s H args us vs Q E hr e0 hb r hsp=>?_⟩
 have hl:=len _ _ _ _ hsp
 have KX:K.In s.heap:=e0.mod.kin.keeps fun b o e=>(e0.bs b o e).1
 have lim:s.heap.NoLimit:=e0.mod.nolimit.keeps fun b o e=>(e0.bs b o e).1
 have hkind:∀ y∈ps.zip us,scope.names.lookup y.1=some .local∨(scope.names.lookup y.1=some .cell∧((cellsFrom (s.heap.objs.size+1) scope.names []).lookup y.1).isSome=true):=fun⟨n,v⟩ hy=>by
  rcases S.par n (List.of_mem_zip hy).1 with q | q
  ·exact .inl q
  ·exact .inr ⟨q,PySem.W.cellsFrom_some _ _ _ (.inl q)⟩
 refine codeAny_call_function hr.depth (KX _ _ lk) rfl S.co S.gen rfl (PySem.W.codeRec_of KX hcd) (hb _ _ _ _ ?_)
 refine wpAny_newFunctionEnv_cells S.kind hkind fun env he s1 x=>?_
 subst he
 refine⟨lim.keeps x.toInCall.keep,codeAny_func ?_⟩
 obtain⟨t,ht,hq⟩:=hbody A outer s H vs Q E (hr.deeper _) hsp
 have I:Inv (V4 CX P w K mg base N qual scope f cdv A outer s H E) [] (start N vs) H s1:=YR S hr.hd e0 hl r x
 refine wpAny_mono (ht [] s1 (start N vs) H _ I hq) (fun fl s' hs=>?_) fun e s' hs=>hs
 have fin:∀ {σ':St}{H':Hp}{v:V}{u:Value},Inv (V4 CX P w K mg base N qual scope f cdv A outer s H E) [] σ' H' s'→RelV v u→Q v H'→CE outer P w H s Q u s' :=
  fun {σ' H' v u} J rv q=>⟨v,H',J.os,J.bare,J.base,J.hok,rv,q⟩
 cases fl with
 |ret u =>
  obtain⟨v,σ',H',J,rv,q⟩:=hs
  exact fin J rv q
 |next =>
  obtain⟨σ',H',J,q⟩:=hs
  exact fin (v:=V.non) (u:=Value.none) J rfl q
 |brk =>
  obtain⟨_,_,_,q⟩:=hs
  exact False.elim q
 |cont =>
  obtain⟨_,_,_,q⟩:=hs
  exact False.elim q
section
variable {X:Cx}{x:Str}{p pos:Pos}{e:Expr}{es:List Expr}{t:TA}{id T:String}{r:List V→Hp→VK→Prop}
def tCB (r:List V→Hp→VK→Prop) (t:TA):TE:=fun σ H Q=>t σ H fun vs H1=>r vs H1 Q
theorem yq (hc:xr X (.builtin id) r) (hg:Gl X x) (hm:X.mg x=none) (hv:bootBuiltins x=some (.builtin id)) (ha:PA X (e::es) t) (hn:x ≠ "__name__" := by decide) (hdb:(x == ("__debug__" : Str))=false:=by decide)
  (he:starEach (e::es) X.env=(false,eval e X.env)::starEach es X.env:=by rfl) (hpl:(backTo pos (starEach es X.env)).any (·.1)=false:=by rfl):PE X (.Call (.Name x p) (e::es) [] pos) (tCB r t):=by
 intro pins s σ H Q I h
 refine wpAny_Call_Name_kw (ld_blt I hg hm hv ?_ hn hdb)
 exact PyProof.Rows.callWith_builtin1 (thn (ha pos pins s σ H _ I h) fun us s1 ⟨vs,H1,I1,r1,q1⟩=>hc pins s1 σ H1 vs us Q I1 r1 q1) he hpl
theorem vX (hc:xr X (.type T) r) (hg:Gl X x) (hm:X.mg x=none) (hv:bootBuiltins x=some (.type T)) (ha:PA X (e::es) t) (hn:x ≠ "__name__" := by decide) (hdb:(x == ("__debug__" : Str))=false:=by decide)
  (he:starEach (e::es) X.env=(false,eval e X.env)::starEach es X.env:=by rfl) (hpl:(backTo pos (starEach es X.env)).any (·.1)=false:=by rfl):PE X (.Call (.Name x p) (e::es) [] pos) (tCB r t):=by
 intro pins s σ H Q I h
 refine wpAny_Call_Name_kw (ld_blt I hg hm hv ?_ hn hdb)
 exact PyProof.Rows.callWith_type1 (thn (ha pos pins s σ H _ I h) fun us s1 ⟨vs,H1,I1,r1,q1⟩=>hc pins s1 σ H1 vs us Q I1 r1 q1) he hpl
end
end L2
namespace HT
open PySem PyProof.Rows
noncomputable def lexLt:LI→LI→Bool
 |[],[]=>false
 |[],_::_=>true
 |_::_,[]=>false
 |x::xs,y::ys=>if x=y then lexLt xs ys else decide (x<y)
theorem lexLt_cons (x y:Int) (xs ys:LI):lexLt (x::xs) (y::ys)=if x=y then lexLt xs ys else decide (x<y):=rfl
theorem lexLt_nil_nil:lexLt [] []=false:=rfl
theorem wN (y:Int) (ys:LI):lexLt [] (y::ys)=true:=rfl
theorem wO (x:Int) (xs:LI):lexLt (x::xs) []=false:=rfl
theorem Wf (A:Around) (s:Shared) (a:Int) (t:Tok) (c:Int) (u:Tok):∃ e,SeqAt.EqAt A s (.int a t) (.int c u) e∧(e=true↔a=c) :=
 ⟨(a == c),SeqAt.EqAt.int_int a t c u,by simp⟩
section
variable {prog:Program}{w:World}{A:Around}{E:Value→Shared→Prop}{s:Shared}
noncomputable def sIx (n d:Nat):Option Int→Nat
 |none=>d
 |some v=>if v<0 then(v+(n:Int)).toNat else min v.toNat n
end
end HT
namespace L2
open PySem PySem.Spec PyProof.Rows
abbrev TO:=St→Hp→(Option Int→Hp→Prop)→Prop
def PO (X:Cx) (e:Option Expr) (t:TO):Prop :=
 ∀ (pins:List (Addr×Obj)) (s:Shared) (σ:St) (H:Hp) (Q:Option Int→Hp→Prop),Inv X pins σ H s→t σ H Q →
  wpAny (model X.prog X.w) X.A (evalPart e X.env) (fun u s'=>∃ o H',Inv X pins σ H' s'∧IsPart u o∧Q o H') X.xe s
def Vh:TO:=fun _ H Q=>Q none H
def zav (t:TE):TO:=fun σ H Q=>t σ H fun x H1=>∃ i,x=.int i∧Q (some i) H1
theorem intsAre_of {ns:LI}:∀ {us:List Value},Vals (ns.map V.int) us→IntsAre us ns:=by
 induction ns with
 |nil=>intro us r;rw[List.map_nil] at r;cases r;exact .nil
 |cons n ns ih =>
  intro us r
  rw[List.map_cons] at r
  cases r with
  |cons r1 r2 =>
   obtain⟨t,e⟩:=r1
   subst e
   exact .cons n t (ih r2)
section
variable {X:Cx}{e:Expr}{te:TE}{lo hi:Option Expr}{tl th:TO}{pos p2:Pos}
theorem wn  : Bx (PO X none Vh):=by
 refine⟨?_⟩
 intro pins s σ H Q I h
 rw[evalPart_none]
 exact wpAny_pure ⟨none,H,I,.none,h⟩
theorem w_po_some (h:Bx (PE X e te)):Bx (PO X (some e) (zav te)):=by
 have h:=h.of
 refine⟨?_⟩
 intro pins s σ H Q I hw
 rw[evalPart_some]
 refine thn (h pins s σ H _ I hw) fun u s1 hq0=>?_
 obtain⟨x,H1,I1,r1,q1⟩:=hq0
 obtain⟨i,rfl,q⟩:=q1
 obtain⟨t,rfl⟩:=r1
 exact⟨some i,H1,I1,.int i t,q⟩
def SlR (X:Cx) (r:V→Option Int→Option Int→Hp→VK→Prop):Prop :=
 ∀ (pins:List (Addr×Obj)) (s:Shared) (σ:St) (H:Hp) (x:V) (v vl vu:Value) (lo hi:Option Int) (sl:Addr) (Q:VK),Inv X pins σ H s→RelV x v→s.heap.IsSliceOf sl vl vu .none→IsPart vl lo→IsPart vu hi→r x lo hi H Q →
  ∃ T id,typeLookup (.type T) "__getitem__" = pure (some (.builtin id))∧s.TypeIs v T∧wpAny (model X.prog X.w) X.A (getItem v (.ref sl)) (EP X pins σ Q) X.xe s
def tSl (r:V→Option Int→Option Int→Hp→VK→Prop) (te:TE) (tl th:TO):TE:=fun σ H Q=>te σ H fun x H1=>tl σ H1 fun l H2=>th σ H2 fun u H3=>r x l u H3 Q
theorem xH {r:V→Option Int→Option Int→Hp→VK→Prop}(hr:SlR X r) (he:Bx (PE X e te)) (hl:Bx (PO X lo tl)) (hu:Bx (PO X hi th)):Bx (PE X (.Subscript e (.Slice lo hi none p2) pos) (tSl r te tl th)):=by
 have he:=he.of
 have hl:=hl.of
 have hu:=hu.of
 refine⟨?_⟩
 intro pins s σ H Q I h
 refine Subscript_ (thn (he pins s σ H _ I h) fun v s1 hq0=>?_)
 obtain⟨x,H1,I1,r1,q1⟩:=hq0
 refine wpAny_Slice (thn (hl pins s1 σ H1 _ I1 q1) fun vl s2 ⟨l,H2,I2,pl,q2⟩=>thn (hu pins s2 σ H2 _ I2 q2) fun vu s3 hq0=>?_)
 obtain⟨u,H3,I3,pu,q3⟩:=hq0
 rw[evalPart_none]
 refine wpAny_pure ?_
 have I4:Inv X pins σ H3 { s3 with heap:=s3.heap.push { cls:=.type "slice",data:=.fields #[vl,vu,.none] } }:=I3.kept (t':=s3.toks) fun b ob q=>Heap.get?_push_of_some _ q
 obtain⟨T,id,hT,ht,hg⟩:=hr pins { s3 with heap:=s3.heap.push { cls:=.type "slice",data:=.fields #[vl,vu,.none] } } σ H3 x v vl vu l u s3.heap.objs.size Q I4 r1 (Heap.IsSliceOf.new ..) pl pu q3
 show wpAny (model X.prog X.w) X.A (subscriptTail e (.Slice lo hi none p2) v (.ref s3.heap.objs.size)) (EP X pins σ Q) X.xe { s3 with heap:=s3.heap.push { cls:=.type "slice",data:=.fields #[vl,vu,.none] } }
 exact tail_any (ops:=[.ref s3.heap.objs.size,v]) ht hT hg (by with_unfolding_all rfl)
def ZL (xs:List V) (lo hi:Option Int):List V:=(xs.drop (HT.sIx xs.length 0 lo)).take (HT.sIx xs.length xs.length hi-HT.sIx xs.length 0 lo)
theorem xq (xs:List V) (lo hi:Option Int):(ZL xs lo hi).length≤xs.length:=by
 unfold ZL
 rw[List.length_take,List.length_drop]
 omega
end
noncomputable def ixN (n:Nat) (i:Int):Option Nat:=if 0≤i then(if i<n then some i.toNat else none) else if -(n:Int)≤i then some (i+n).toNat else none
def atI {α:Type}(xs:List α) (i:Int):Option α:=(ixN xs.length i).bind fun j=>xs[j]?
theorem VR {n:Nat}{i:Int}{j:Nat}(h:ixN n i=some j):seqIndex? i n=some j∧j<n∧-(n:Int)≤i∧i<n:=by
 unfold ixN at h
 by_cases h0:0≤i
 ·rw[if_pos h0] at h
  by_cases h1:i<n
  ·rw[if_pos h1] at h
   have e:i.toNat=j:=Option.some.inj h
   exact⟨by rw[seqIndex_of h0 h1,e],by omega,by omega,h1⟩
  ·rw[if_neg h1] at h;cases h
 ·rw[if_neg h0] at h
  by_cases h1 : -(n:Int)≤i
  ·rw[if_pos h1] at h
   have e:(i+n).toNat=j:=Option.some.inj h
   exact⟨by rw[seqIndex_neg (by omega) h1,e],by omega,h1,by omega⟩
  ·rw[if_neg h1] at h;cases h
theorem Xb {α:Type}{xs:List α}{i:Int}{v:α}(h:atI xs i=some v):∃ j,seqIndex? i xs.length=some j∧xs[j]?=some v∧j<xs.length∧-(xs.length:Int)≤i∧i<xs.length:=by
 unfold atI at h
 cases e:ixN xs.length i with
 |none=>rw[e] at h;cases h
 |some j =>
  rw[e] at h
  obtain⟨h1,h2,h3,h4⟩:=VR e
  exact⟨j,h1,h,h2,h3,h4⟩
theorem wJ {α:Type}{xs:List α}{j:Nat}{v:α}(h:xs[j]?=some v):atI xs (j:Int)=some v:=by
 have hj:j<xs.length:=(List.getElem?_eq_some_iff.mp h).1
 have e:ixN xs.length (j:Int)=some j:=by
  unfold ixN
  rw[if_pos (by omega),if_pos (by omega)];simp
 unfold atI;rw[e];exact h
def Xg (b:Expr):Prop:=∀ o i,subscripted b false o i=operate [o,i] (getItem o i)
def IxR (X:Cx) (r:R2):Prop :=
 ∀ (value slice:Expr) (pins:List (Addr×Obj)) (s:Shared) (σ:St) (H:Hp) (x y:V) (v u:Value) (Q:VK),Inv X pins σ H s→RelV x v→RelV y u→r x y H Q →
  subscripted slice false v u=operate [v,u] (getItem v u)→wpAny (model X.prog X.w) X.A (subscriptTail value slice v u) (EP X pins σ Q) X.xe s
def MtR (X:Cx) (id:String) (r:V→List V→Hp→VK→Prop):Prop :=
 ∀ (pins:List (Addr×Obj)) (s:Shared) (σ:St) (H:Hp) (x:V) (xs:List V) (v:Value) (us:List Value) (Q:VK),Inv X pins σ H s→RelV x v→Vals xs us→r x xs H Q →
  wpAny (model X.prog X.w) X.A (call (.builtin id) (v::us)) (EP X pins σ Q) X.xe s
section
variable {X:Cx}{a b:Expr}{ta tb:TE}{pos:Pos}
theorem uy {r:R2}(hr:IxR X r) (ha:PE X a ta) (hb:PE X b tb) (hs:Xg b):PE X (.Subscript a b pos) (tOp r ta tb):=by
 intro pins s σ H Q I h
 exact Subscript_ (binT ha hb I h fun v u s2 x y H2 I2 rx ry q=>hr a b pins s2 σ H2 x y v u Q I2 rx ry q (hs _ _))
def zci (K:PySem.W.Frag):R2:=fun x y H Q=>∃ p xs i v,x=.ref p∧y=.int i∧SqL K H p xs∧atI xs i=some v∧Q v H
def zch (K:PySem.W.Frag):R2:=fun x y H Q=>∃ p xs i v,x=.ref p∧y=.int i∧SqT K H p xs∧atI xs i=some v∧Q v H
theorem ye:IxR X (zci X.K):=by
 intro value slice pins s σ H x y v u Q I rx ry h hs
 obtain⟨p,xs,i,z,rfl,rfl,hq,he,q⟩:=h
 cases rx
 obtain⟨t,rfl⟩:=ry
 obtain⟨its,r,pl,hz⟩:=I.list hq
 obtain⟨j,h1,h2,h3,h4,h5⟩:=Xb he
 obtain⟨w,ew,rw'⟩:=r.get h2
 have hl:=r.length
 have hn:=Zn
 have fin:EP X pins σ Q w s:=⟨z,H,I,rw',q⟩
 by_cases h0:0≤i
 ·have hj:i.toNat=j:=by
   rw[seqIndex_of h0 h5] at h1
   exact Option.some.inj h1
  exact item_listR pl.isList h0 (by omega) (by rw[hj];simpa using ew) fin hs
 ·have hj:(i+(its.toArray.size:Int)).toNat=j:=by
   rw[seqIndex_neg (by omega) h4] at h1
   rw[List.size_toArray,← hl]
   exact Option.some.inj h1
  exact subscriptTail_builtinR (x:=w) pl.isList.typeIs slot_list_getitem.lookup
   (wpAny_getItem_list_neg (Q:=fun r s'=>r=w∧EP X pins σ Q r s') pl.isList (by omega) (by rw[List.size_toArray]<;>omega) (by omega) (by rw[hj];simpa using ew) ⟨rfl,fin⟩) hs
theorem ym:IxR X (zch X.K):=by
 intro value slice pins s σ H x y v u Q I rx ry h hs
 obtain⟨p,xs,i,z,rfl,rfl,hq,he,q⟩:=h
 cases rx
 obtain⟨t,rfl⟩:=ry
 obtain⟨its,r,pl,hz⟩:=I.tuple hq
 obtain⟨j,h1,h2,h3,h4,h5⟩:=Xb he
 obtain⟨w,ew,rw'⟩:=r.get h2
 have hl:=r.length
 have hn:=Zn
 have fin:EP X pins σ Q w s:=⟨z,H,I,rw',q⟩
 exact subscriptTail_builtinR (x:=w) pl.typeIs slot_tuple_getitem.lookup
  (getItem_tuple (j:=j) (Q:=fun r s'=>r=w∧EP X pins σ Q r s') pl (by omega) (by omega) (by rw[List.size_toArray,← hl];exact h1) (by simpa using ew) ⟨rfl,fin⟩) hs
theorem vS (lo hi:Option Int) (n:Nat):(sliceBounds lo hi none n).1=((HT.sIx n 0 lo:Nat):Int)∧(sliceBounds lo hi none n).2.1=((HT.sIx n n hi:Nat):Int)∧(sliceBounds lo hi none n).2.2=1:=by
 refine⟨?_,?_,rfl⟩
 ·cases lo with
  |none=>simp[sliceBounds,HT.sIx]
  |some i =>
   simp only[sliceBounds,HT.sIx,Option.getD_none,show(1:Int)>0 by decide,if_true]
   by_cases h:i<0
   ·simp only[h,if_true]<;>omega
   ·simp only[h,if_false]<;>omega
 ·cases hi with
  |none=>simp[sliceBounds,HT.sIx]
  |some i =>
   simp only[sliceBounds,HT.sIx,Option.getD_none,show(1:Int)>0 by decide,if_true]
   by_cases h:i<0
   ·simp only[h,if_true]<;>omega
   ·simp only[h,if_false]<;>omega
theorem vm (its:List Value) (lo hi:Option Int):slicePick its.toArray lo hi none=((its.drop (HT.sIx its.length 0 lo)).take (HT.sIx its.length its.length hi-HT.sIx its.length 0 lo)).toArray:=by
 obtain⟨h1,h2,h3⟩:=vS lo hi its.toArray.size
 unfold slicePick
 rw[h1,h2,h3]
 simp only[sliceRange_one,pick_run,List.size_toArray]<;>rfl
def zcg (K:PySem.W.Frag):V→Option Int→Option Int→Hp→VK→Prop:=fun x lo hi H Q=>∃ a xs,x=.ref a∧SqL K H a xs∧∀ p,H p=none→Q (.ref p) (upd H p (.lst (ZL xs lo hi)))
theorem uu:SlR X (zcg X.K):=by
 intro pins s σ H x v vl vu lo hi sl Q I rx hs pl pu h
 obtain⟨a,xs,rfl,hx,q⟩:=h
 cases rx
 obtain⟨its,r,ht,hz⟩:=I.list hx
 have hlen:=r.length
 refine⟨"list",_,slot_list_getitem.lookup,ht.isList.typeIs,?_⟩
 refine wpAny_getItem_list_slice ht.isList hs pl pu .none (by simp) ?_ (by rw[List.size_toArray]<;>omega)
 rw[vm,← hlen]
 refine⟨.ref s.heap.objs.size,_,I.laid (t':=s.toks) (o:=.lst (ZL xs lo hi)) (fun b ob q=>Heap.get?_push_of_some _ q) (Nat.le_refl _) ?_,rfl,q _ (I.hok.fresh (Nat.le_refl _))⟩
 exact⟨Nat.le_trans (xq xs lo hi) hz,_,0,(r.drop (HT.sIx xs.length 0 lo)).take (HT.sIx xs.length xs.length hi-HT.sIx xs.length 0 lo),Heap.get?_push_size _ rfl⟩
noncomputable def wG:V→Bool
 |.non=>true
 |.bl _=>true
 |.int _=>true
 |.str _=>true
 |_=>false
noncomputable def eqV:V→V→Bool
 |.non,.non=>true
 |.bl a,.bl b=>a == b
 |.bl a,.int b=>(if a then 1 else 0) == b
 |.int a,.bl b=>a == (if b then 1 else 0)
 |.int a,.int b=>a == b
 |.str a,.str b=>a == b
 |_,_=>false
theorem eqAt_V {A:Around}{s:Shared}{y x:V}{u v:Value}(ry:RelV y u) (rx:RelV x v) (fy:wG y=true) (fx:wG x=true):SeqAt.EqAt A s u v (eqV y x):=by
 cases y with
 |non =>
  cases ry
  cases x with
  |non=>cases rx;exact SeqAt.EqAt.same _
  |bl b=>cases rx;exact SeqAt.EqAt.none_bool b
  |int b=>obtain⟨t,rfl⟩:=rx;exact SeqAt.EqAt.none_int b t
  |str b=>obtain⟨t,rfl⟩:=rx;exact SeqAt.EqAt.none_str b t
  |_=>exact absurd (show false=true from fx) Bool.false_ne_true
 |bl a =>
  cases ry
  cases x with
  |non=>cases rx;exact SeqAt.EqAt.bool_none a
  |bl b=>cases rx;exact SeqAt.EqAt.bool_bool a b
  |int b=>obtain⟨t,rfl⟩:=rx;exact SeqAt.EqAt.bool_int a b t
  |str b=>obtain⟨t,rfl⟩:=rx;exact SeqAt.EqAt.bool_str a b t
  |_=>exact absurd (show false=true from fx) Bool.false_ne_true
 |int a =>
  obtain⟨t',rfl⟩:=ry
  cases x with
  |non=>cases rx;exact SeqAt.EqAt.int_none a t'
  |bl b=>cases rx;exact SeqAt.EqAt.int_bool a t' b
  |int b=>obtain⟨t,rfl⟩:=rx;exact SeqAt.EqAt.int_int a t' b t
  |str b=>obtain⟨t,rfl⟩:=rx;exact SeqAt.EqAt.int_str a t' b t
  |_=>exact absurd (show false=true from fx) Bool.false_ne_true
 |str a =>
  obtain⟨t',rfl⟩:=ry
  cases x with
  |non=>cases rx;exact SeqAt.EqAt.str_none a t'
  |bl b=>cases rx;exact SeqAt.EqAt.str_bool a t' b
  |int b=>obtain⟨t,rfl⟩:=rx;exact SeqAt.EqAt.str_int a t' b t
  |str b=>obtain⟨t,rfl⟩:=rx;exact SeqAt.EqAt.str_str a t' b t
  |_=>exact absurd (show false=true from fx) Bool.false_ne_true
 |_=>exact absurd (show false=true from fy) Bool.false_ne_true
def eqU (x:V) (u:Value):Bool:=match u with
 |.none=>eqV .non x
 |.bool b=>eqV (.bl b) x
 |.int i _=>eqV (.int i) x
 |.str z _=>eqV (.str z) x
 |_=>false
theorem WV {x y:V}{u:Value}(r:RelV y u) (f:wG y=true):eqU x u=eqV y x:=by
 cases y with
 |non=>cases r;rfl
 |bl b=>cases r;rfl
 |int i=>obtain⟨t,rfl⟩:=r;rfl
 |str z=>obtain⟨t,rfl⟩:=r;rfl
 |_=>exact absurd (show false=true from f) Bool.false_ne_true
theorem wK {x:V}:∀ {xs:List V}{us:List Value},Vals xs us→xs.all wG=true→us.any (eqU x)=xs.any fun y=>eqV y x
 |_,_,.nil,_=>rfl
 |y::xs,u::us,.cons r t,f=>by
  rw[List.all_cons,Bool.and_eq_true] at f
  rw[List.any_cons,List.any_cons,WV r f.1,wK t f.2]
theorem xE {A:Around}{s:Shared}{x:V}{v:Value}(rx:RelV x v) (fx:wG x=true):∀ {xs:List V}{us:List Value},Vals xs us→xs.all wG=true→∀ u∈us,SeqAt.EqAt A s u v (eqU x u)
 |_,_,.nil,_=>fun u hu=>by cases hu
 |y::xs,u::us,.cons r t,f=>fun u' hu=>by
  rw[List.all_cons,Bool.and_eq_true] at f
  rcases List.mem_cons.mp hu with rfl | hu
  ·rw[WV r f.1];exact eqAt_V r rx f.1 fx
  ·exact xE rx fx t f.2 u' hu
def inV (x:V) (xs:List V):Bool:=xs.any fun y=>eqV y x
def rIn (K:PySem.W.Frag) (neg:Bool):R2:=fun x y H Q=>∃ p xs,y=.ref p∧(SqL K H p xs∨SqT K H p xs)∧wG x=true∧xs.all wG=true∧Q (.bl (if neg then !inV x xs else inV x xs)) H
theorem xB:OpR X (compareOp .In) (rIn X.K false):=by
 intro pins s σ H x y v u Q I rx ry h
 obtain⟨p,xs,rfl,hq,fx,fs,q⟩:=h
 cases ry
 rcases hq with hq | hq
 ·obtain⟨its,r,pl,hz⟩:=I.list hq
  refine SeqAt.in_listAt (eqU x) pl.isList (fun w hw=>xE rx fx r fs w (by simpa using hw)) ⟨.bl _,H,I,rfl,?_⟩
  rw[show its.toArray.any (eqU x)=its.any (eqU x) by simp,wK r fs]
  exact q
 ·obtain⟨its,r,pl,hz⟩:=I.tuple hq
  refine SeqAt.in_tupleAt (eqU x) pl (fun w hw=>xE rx fx r fs w (by simpa using hw)) ⟨.bl _,H,I,rfl,?_⟩
  rw[show its.toArray.any (eqU x)=its.any (eqU x) by simp,wK r fs]
  exact q
theorem xW:OpR X (compareOp .NotIn) (rIn X.K true):=by
 intro pins s σ H x y v u Q I rx ry h
 obtain⟨p,xs,rfl,hq,fx,fs,q⟩:=h
 cases ry
 rcases hq with hq | hq
 ·obtain⟨its,r,pl,hz⟩:=I.list hq
  refine SeqAt.notIn_listAt (eqU x) pl.isList (fun w hw=>xE rx fx r fs w (by simpa using hw)) ⟨.bl _,H,I,rfl,?_⟩
  rw[show its.toArray.any (eqU x)=its.any (eqU x) by simp,wK r fs]
  exact q
 ·obtain⟨its,r,pl,hz⟩:=I.tuple hq
  refine SeqAt.notIn_tupleAt (eqU x) pl (fun w hw=>xE rx fx r fs w (by simpa using hw)) ⟨.bl _,H,I,rfl,?_⟩
  rw[show its.toArray.any (eqU x)=its.any (eqU x) by simp,wK r fs]
  exact q
theorem zF:xr X (.builtin "len") (fun xs H Q=>∃ p ys,xs=[.ref p]∧(SqL X.K H p ys∨SqT X.K H p ys)∧Q (.int ys.length) H):=by
 intro pins s σ H xs us Q I r h
 obtain⟨p,ys,rfl,hq,q⟩:=h
 obtain⟨u,rfl,rx⟩:=Xs r
 cases rx
 have hn:=Zn
 rcases hq with hq | hq
 ·obtain⟨its,r',pl,hz⟩:=I.list hq
  have hlen:=r'.length
  exact Calls.call_len_list pl.isList (by simp only[List.size_toArray]<;>omega) ⟨.int ys.length,H,I.tok _,⟨s.toks+1,by rw[List.size_toArray,hlen]⟩,q⟩
 ·obtain⟨its,r',pl,hz⟩:=I.tuple hq
  have hlen:=r'.length
  exact len_tuple pl (by simp only[List.size_toArray]<;>omega) ⟨.int ys.length,H,I.tok _,⟨s.toks+1,by rw[List.size_toArray,hlen]⟩,q⟩
theorem yX:xr X (.type "list") (fun xs H Q=>∃ p ys,xs=[.ref p]∧(SqL X.K H p ys∨SqT X.K H p ys)∧∀ l,H l=none→Q (.ref l) (upd H l (.lst ys))):=by
 intro pins s σ H xs us Q I r h
 obtain⟨p,ys,rfl,hq,q⟩:=h
 obtain⟨u,rfl,rx⟩:=Xs r
 cases rx
 have fin:∀ (its:List Value),Vals ys its→ys.length≤sizeLine→∀ (h':Heap) (c':Nat),(∀ b o',s.heap.get? b=some o'→h'.get? b=some o') →
   h'.get? s.heap.objs.size=some { cls:=.type "list",dict:=none,data:=.seq its.toArray c',slots:=#[] }→EP X pins σ Q (.ref s.heap.objs.size) { s with heap:=h' }:=fun its r' hz h' c' kp e =>
  ⟨.ref s.heap.objs.size,_,I.laid (t':=s.toks) kp (Nat.le_refl _) (show ObjOk X.prog X.w _ h' _ (.lst ys) from⟨hz,its,c',r',e⟩),rfl,q _ (I.hok.fresh (Nat.le_refl _))⟩
 rcases hq with hq | hq
 ·obtain⟨its,r',pl,hz⟩:=I.list hq
  have hlen:=r'.length
  obtain⟨o,ho,hc,n,hd⟩:=pl.isList
  exact call_list_seq p (.inl rfl) ho hc hd (fun h' c' kp e=>fin its r' hz h' c' kp e) (by simp only[List.size_toArray]<;>omega)
 ·obtain⟨its,r',pl,hz⟩:=I.tuple hq
  have hlen:=r'.length
  obtain⟨o,ho,hc,n,hd⟩:=pl
  exact call_list_seq p (.inr rfl) ho hc hd (fun h' c' kp e=>fin its r' hz h' c' kp e) (by simp only[List.size_toArray]<;>omega)
theorem xG:xr X (.type "tuple") (fun xs H Q=>∃ p ys,xs=[.ref p]∧((SqL X.K H p ys∧∀ l,H l=none→Q (.ref l) (upd H l (.tup ys)))∨(SqT X.K H p ys∧Q (.ref p) H))):=by
 intro pins s σ H xs us Q I r h
 obtain⟨p,ys,rfl,h⟩:=h
 obtain⟨u,rfl,rx⟩:=Xs r
 cases rx
 rcases h with⟨hq,q⟩ | ⟨hq,q⟩
 ·obtain⟨its,r',pl,hz⟩:=I.list hq
  have hlen:=r'.length
  refine call_tuple_list pl.isList (fun h' kp=>?_) (by simp only[List.size_toArray]<;>omega)
  have I1:Inv X pins σ H { s with heap:=h' }:=I.kept (t':=s.toks) kp
  have I2:Inv X pins σ (upd H h'.objs.size (.tup ys)) { s with heap:=h'.push { cls:=.type "tuple",data:=.seq its.toArray } } :=
   I1.laid (t':=s.toks) (fun b o e=>Heap.get?_push_of_some _ e) (Nat.le_refl _) (show ObjOk X.prog X.w _ _ _ (.tup ys) from⟨hz,its,r',IsTup.new _ _⟩)
  exact⟨.ref h'.objs.size,_,I2,rfl,q _ (I1.hok.fresh (Nat.le_refl _))⟩
 ·obtain⟨its,r',pl,hz⟩:=I.tuple hq
  exact call_tuple_same pl ⟨.ref p,H,I,rfl,q⟩
def tyV (K:PySem.W.Frag) (T:String) (x:V) (H:Hp):Prop:=match x with
 |.str _=>T = "str"
 |.int _=>T = "int"
 |.ref p=>(T = "list" ∧ ∃ xs,SqL K H p xs)∨(T = "tuple" ∧ ∃ o,K.lookup p=some o∧o.cls=.type "tuple" ∧ o.dict=none) ∨
   (T = "dict" ∧ ((∃ kvs,H p=some (.dK kvs))∨∃ kvs,H p=some (.dT kvs)))∨(T = "set" ∧ ∃ S n,H p=some (.set S n))
 |_=>False
theorem V9 {pins:List (Addr×Obj)}{σ:St}{H:Hp}{s:Shared}{T:String}{x:V}{v:Value}(I:Inv X pins σ H s) (r:RelV x v) (ty:tyV X.K T x H) :
  s.TypeIs v T∧∀ a,v=.ref a→∃ ob,s.heap.get? a=some ob∧ob.dict=none:=by
 cases x with
 |str z =>
  obtain⟨t,rfl⟩:=r
  cases (show T = "str" from ty)
  exact⟨typeIs_str s z t,fun _ e=>nomatch e⟩
 |int i =>
  obtain⟨t,rfl⟩:=r
  cases (show T = "int" from ty)
  exact⟨typeIs_int s i t,fun _ e=>nomatch e⟩
 |ref p =>
  cases r
  rcases ty with⟨rfl,xs,hq⟩ | ⟨rfl,o,hk,hc,hd⟩ | ⟨rfl,hk⟩ | ⟨rfl,S,n,hk⟩
  ·obtain⟨its,_,pl,_⟩:=I.list hq
   refine⟨pl.isList.typeIs,fun a e=>?_⟩
   cases e
   obtain⟨o,n,e,c,hd,_⟩:=pl
   exact⟨o,e,hd⟩
  ·refine⟨⟨o,I.kIn p o hk,hc⟩,fun a e=>?_⟩
   cases e
   exact⟨o,I.kIn _ o hk,hd⟩
  ·have z:∃ o,s.heap.get? p=some o∧o.ExactDict:=by
    rcases hk with⟨kvs,hk⟩ | ⟨kvs,hk⟩
    ·obtain⟨_,_,_,_,o,_,_,e,ex,_⟩:=I.hok p _ hk
     exact⟨o,e,ex⟩
    ·obtain⟨_,_,_,_,o,_,_,e,ex,_⟩:=I.hok p _ hk
     exact⟨o,e,ex⟩
   obtain⟨o,e,ex⟩:=z
   refine⟨⟨o,e,ex.1⟩,fun a e2=>?_⟩
   cases e2
   exact⟨o,e,ex.2.1⟩
  ·obtain⟨o,_,_,_,e,ex,_⟩:=I.hok p _ hk
   refine⟨⟨o,e,ex.1⟩,fun a e2=>?_⟩
   cases e2
   exact⟨o,e,ex.2.1⟩
 |_=>exact False.elim ty
def tBM (K:PySem.W.Frag) (T:String) (r:V→List V→Hp→VK→Prop) (to:TE) (t:TA):TE:=fun σ H Q=>to σ H fun x H1=>tyV K T x H1∧t σ H1 fun xs H2=>r x xs H2 Q
variable {o e:Expr}{es:List Expr}{to:TE}{t:TA}{name:Str}{apos cpos:Pos}{T id:String}{r:V→List V→Hp→VK→Prop}
theorem Vy (pa:PlainAttrs T) (slot:Slot T name id) (hty:typeOf (.builtin id)=pure (.type "method_descriptor")) (hm:MtR X id r) (ho:PE X o to) (ha:PA X (e::es) t)
  (hbase:attributeBase o name X.env (eval o X.env)=eval o X.env:=by rfl)
  (hfew:((backTo cpos (starEach (e::es) X.env)).all (fun x=>!x.1)&&(backToKw cpos (keywordEach [] X.env)).all (fun x=>x.1.isSome)
   && decide ((e::es).length+([]:List Keyword).length+(if ([]:List Keyword).isEmpty then 0 else 1)<30))=true:=by rfl)
  (hline:(apos.endLine == cpos.line)=true:=by rfl) (hs:starEach (e::es) X.env=(false,eval e X.env)::starEach es X.env:=by rfl) (hplain:(backTo cpos (starEach es X.env)).any (·.1)=false:=by rfl) :
  PE X (.Call (.Attribute o name apos) (e::es) [] cpos) (tBM X.K T r to t):=by
 intro pins s σ H Q I h
 refine wpAny_Call_method_late hbase hfew hline rfl (thn (ho pins s σ H _ I h) fun v s1 hq0=>?_)
 obtain⟨x,H1,I1,r1,ty,q1⟩:=hq0
 obtain⟨h1,h2⟩:=V9 I1 r1 ty
 refine⟨T,id,pa,slot,hty,h1,h2,?_⟩
 have hA:=ha cpos pins s1 σ H1 _ I1 q1
 rw[hs] at hA ⊢
 refine Calls.callWith_builtin (by show(false||(backTo cpos (starEach es X.env)).any (·.1))=false;rw[hplain]<;>rfl) (Calls.evalArgs_plain ?_)
 exact thn hA fun us s2 ⟨vs,H2,I2,r2,q2⟩=>hm pins s2 σ H2 x vs v us Q I2 r1 r2 q2
end
def MtM (X:Cx) (id:String) (r:V→List V→Hp→VK→Prop):Prop :=
 ∀ (pins:List (Addr×Obj)) (s:Shared) (σ:St) (H:Hp) (x:V) (xs:List V) (v:Value) (us:List Value) (Q:VK),Inv X pins σ H s→RelV x v→Vals xs us→r x xs H Q →
  wpAny (model X.prog X.w) X.A (call (.builtin id) (v::us)) (EP X pins σ Q) X.xe s
theorem Vals.one:∀ {x:V}{us:List Value},Vals [x] us→∃ u,us=[u]∧RelV x u
 |_,_,.cons r .nil=>⟨_,rfl,r⟩
theorem Vals.two:∀ {x y:V}{us:List Value},Vals [x,y] us→∃ u v,us=[u,v]∧RelV x u∧RelV y v
 |_,_,_,.cons r (.cons q .nil)=>⟨_,_,rfl,r,q⟩
theorem Vals.eraseIdx:∀ {xs:List V}{us:List Value}(i:Nat),Vals xs us→Vals (xs.eraseIdx i) (us.eraseIdx i)
 |_,_,_,.nil=>.nil
 |_,_,0,.cons _ t=>t
 |_,_,i+1,.cons r t=>.cons r (Vals.eraseIdx i t)
theorem Vals.reverse {xs:List V}{us:List Value}(h:Vals xs us):Vals xs.reverse us.reverse:=by
 induction h with
 |nil=>exact .nil
 |cons r t ih=>rw[List.reverse_cons,List.reverse_cons];exact Vals.append ih (.cons r .nil)
theorem v6 {α:Type}:∀ (l:List α) (i:Nat),(l.eraseIdx i).length≤l.length
 |[],_=>Nat.le_refl _
 |_::_,0=>Nat.le_succ _
 |_::r,i+1=>Nat.succ_le_succ (v6 r i)
section
variable {X:Cx}{pins:List (Addr×Obj)}{σ:St}{H:Hp}{s:Shared}{l b:Addr}{xs ys zs:List V}
theorem Inv.lset {its its':List Value}{n:Nat}{f:Array Value→Array Value}{t':Nat}(I:Inv X pins σ H s) (hH:H l=some (.lst xs))
  (e:s.heap.get? l=some { cls:=.type "list",data:=.seq its.toArray n }) (hf:f its.toArray=its'.toArray) (hv:Vals ys its') (hz:ys.length≤sizeLine) :
  Inv X pins σ (upd H l (.lst ys)) { s with heap:=s.heap.update l (Obj.mapSeq f),toks:=t' }:=by
 have q:=PySem.IsL.update e f
 rw[hf] at q
 refine I.write (x:=l) (e:=l) (by rw[hH];exact trivial) (.inl rfl) (fun b' u hb hu=>(Heap.get?_update_other s.heap (Obj.mapSeq f) (Ne.symm hb)).trans hu) ⟨_,q⟩ ?_
 exact⟨hz,its',_,hv,q⟩
theorem Inv.lnew {its:List Value}{t':Nat}(I:Inv X pins σ H s) (hv:Vals ys its) (hz:ys.length≤sizeLine) :
  Inv X pins σ (upd H s.heap.objs.size (.lst ys)) { s with heap:=s.heap.push { cls:=.type "list",data:=.seq its.toArray },toks:=t' } :=
 I.laid (fun _ _ q=>Heap.get?_push_of_some _ q) (Nat.le_refl _) ⟨hz,its,0,hv,Heap.get?_push_size _ rfl⟩
theorem Inv.fresh (I:Inv X pins σ H s):H s.heap.objs.size=none:=I.hok.fresh (Nat.le_refl _)
theorem Inv.lstM (I:Inv X pins σ H s) (hH:H l=some (.lst xs)):xs.length≤sizeLine∧∃ (its:List Value) (n:Nat),Vals xs its∧xs.length=its.length∧s.heap.get? l=some { cls:=.type "list",data:=.seq its.toArray n }:=by
 obtain⟨z,its,n,r,e⟩:=I.hok l _ hH
 exact⟨z,its,n,r,r.length,e⟩
theorem XJ {n:Nat}(h:n≤sizeLine):Builtin.List.listTooLong n=false:=by
 unfold Builtin.List.listTooLong
 exact decide_eq_false (by omega)
end
section
variable {X:Cx}
def Vs:V→List V→Hp→VK→Prop:=fun x vs H Q=>∃ l xs y,x=.ref l∧vs=[y]∧H l=some (.lst xs)∧xs.length<sizeLine∧Q .non (upd H l (.lst (xs++[y])))
theorem zU:MtM X "list.append" Vs:=by
 intro pins s σ H x vs v us Q I rx rv h
 obtain⟨l,xs,y,rfl,rfl,hH,hz,q⟩:=h
 cases rx
 obtain⟨u,rfl,ru⟩:=rv.one
 obtain⟨z,its,n,r,hl,e⟩:=I.lstM hH
 refine call_meets F.slot_list_append ⟨_,e,rfl⟩ F.entry_list_append (F.args_list_append_2 _ _) (PySem.list_append l its.toArray n u (by rw[List.size_toArray];omega)) ⟨e,?_⟩
 refine⟨.non,_,I.lset (its':=its++[u]) hH e (by simp) (r.append (.cons ru .nil)) ?_,rfl,q⟩
 rw[List.length_append,List.length_singleton]
 omega
def Vr:V→List V→Hp→VK→Prop:=fun x vs H Q=>∃ l b xs zs,x=.ref l∧vs=[.ref b]∧H l=some (.lst xs)∧H b=some (.lst zs)∧xs.length+zs.length≤sizeLine∧Q .non (upd H l (.lst (xs++zs)))
theorem UW:MtM X "list.extend" Vr:=by
 intro pins s σ H x vs v us Q I rx rv h
 obtain⟨l,b,xs,zs,rfl,rfl,hH,hB,hz,q⟩:=h
 cases rx
 obtain⟨u,rfl,ru⟩:=rv.one
 cases ru
 obtain⟨z,its,n,r,hl,e⟩:=I.lstM hH
 obtain⟨z2,its2,n2,r2,hl2,e2⟩:=I.lstM hB
 have hsz:its.toArray.size+its2.toArray.size≤sizeLine:=by rw[List.size_toArray,List.size_toArray];omega
 have hlong:¬ (!its.toArray.isEmpty&&Builtin.List.listTooLong (its.toArray.size+its2.toArray.size))=true:=by
  rw[XJ hsz,Bool.and_false]
  exact Bool.false_ne_true
 refine call_meets F.slot_list_extend ⟨_,e,rfl⟩ F.entry_list_extend (F.args_list_extend_2 _ _)
  (AutoSeq1.list_extend_list_list_0 l its.toArray n b its2.toArray n2 hlong (by rw[List.size_toArray];omega) (by omega)) ⟨e,e2,?_⟩
 refine⟨.non,_,I.lset (its':=its++its2) hH e (by simp) (r.append r2) ?_,rfl,q⟩
 rw[List.length_append]
 omega
def UD:V→List V→Hp→VK→Prop:=fun x vs H Q=>∃ l xs i k y,x=.ref l∧vs=[.int i]∧H l=some (.lst xs)∧-(2 ^ 63)≤i∧i<2 ^ 63∧seqIndex? i xs.length=some k∧xs[k]?=some y∧Q y (upd H l (.lst (xs.eraseIdx k)))
theorem XO:MtM X "list.pop" UD:=by
 intro pins s σ H x vs v us Q I rx rv h
 obtain⟨l,xs,i,k,y,rfl,rfl,hH,h1,h2,hk,hy,q⟩:=h
 cases rx
 obtain⟨u,rfl,ru⟩:=rv.one
 obtain⟨t,rfl⟩:=ru
 obtain⟨z,its,n,r,hl,e⟩:=I.lstM hH
 obtain⟨w,hw,rw'⟩:=r.get hy
 refine call_meets F.slot_list_pop ⟨_,e,rfl⟩ F.entry_list_pop (F.args_list_pop_2 _ _)
  (MeetsSeq.list_pop_at l its.toArray n i t k w (fitsIndex_both h1 h2) (by rw[List.size_toArray,← hl];exact hk) (by rw[← Array.getElem?_toList];exact hw) (by rw[List.size_toArray];omega)) ⟨e,?_⟩
 refine⟨y,_,I.lset (its':=its.eraseIdx k) hH e ?_ (r.eraseIdx k) ?_,rw',q⟩
 ·show its.toArray.eraseIdxIfInBounds k=(its.eraseIdx k).toArray
  rw[List.eraseIdxIfInBounds_toArray]
 ·have:=v6 xs k
  omega
def zcm:R2:=fun x y H Q=>∃ l b xs zs,x=.ref l∧y=.ref b∧H l=some (.lst xs)∧H b=some (.lst zs)∧xs.length+zs.length≤sizeLine∧∀ p,H p=none→Q (.ref p) (upd H p (.lst (xs++zs)))
theorem v4:OpR X (binaryOp .Add) zcm:=by
 intro pins s σ H x y v u Q I rx ry h
 obtain⟨l,b,xs,zs,rfl,rfl,hH,hB,hz,q⟩:=h
 cases rx
 cases ry
 obtain⟨z,its,n,r,hl,e⟩:=I.lstM hH
 obtain⟨z2,its2,n2,r2,hl2,e2⟩:=I.lstM hB
 refine PySem.P.add_list e e2 ?_ (by rw[List.size_toArray,List.size_toArray];omega)
 have ea:its.toArray++its2.toArray=(its++its2).toArray:=by simp
 rw[ea]
 exact⟨.ref _,_,I.lnew (t':=s.toks) (r.append r2) (by rw[List.length_append];omega),rfl,q _ I.fresh⟩
end
section
variable {κ:Type} [DecidableEq κ]
def yE (kvs:List (κ×V)) (k:κ):Option V:=(kvs.find? fun kv=>decide (kv.1=k)).map (·.2)
def putK (kvs:List (κ×V)) (k:κ) (v:V):List (κ×V) :=
 if (kvs.any fun kv=>decide (kv.1=k))=true then kvs.map (fun kv=>if kv.1=k then(kv.1,v) else kv) else kvs++[(k,v)]
theorem xw {p:κ×V}{r:List (κ×V)}{k:κ}(e:p.1=k):yE (p::r) k=some p.2:=by simp[yE,List.find?_cons,e]
theorem xx {p:κ×V}{r:List (κ×V)}{k:κ}(e:¬ p.1=k):yE (p::r) k=yE r k:=by simp[yE,List.find?_cons,e]
theorem yM (k:κ):∀ kvs:List (κ×V),(kvs.any fun kv=>decide (kv.1=k))=(yE kvs k).isSome
 |[]=>rfl
 |p::r=>by
  rw[List.any_cons]
  by_cases e:p.1=k
  ·simp only[xw e,decide_eq_true e,Bool.true_or,Option.isSome_some]
  ·rw[xx e,decide_eq_false e,Bool.false_or];exact yM k r
theorem yy (kvs:List (κ×V)) (k:κ) (v:V):(putK kvs k v).length≤kvs.length+1:=by
 unfold putK
 split
 ·rw[List.length_map];omega
 ·rw[List.length_append,List.length_cons,List.length_nil];omega
theorem putK_new {kvs:List (κ×V)}{k:κ}(v:V) (h:yE kvs k=none):putK kvs k v=kvs++[(k,v)]:=by
 unfold putK
 rw[yM,h]
 exact if_neg (by decide)
theorem RelO.isSome_eq {o:Option V}{u:Option Value}(r:RelO o u):o.isSome=u.isSome:=by
 cases o with
 |none=>cases u with
  |none=>rfl
  |some _=>exact(show False from r).elim
 |some _=>cases u with
  |none=>exact(show False from r).elim
  |some _=>rfl
theorem RelO.getD {o:Option V}{u:Option Value}{d:V}{d':Value}(r:RelO o u) (rd:RelV d d'):RelV (o.getD d) (u.getD d'):=by
 cases o with
 |none=>cases u with
  |none=>exact rd
  |some _=>exact(show False from r).elim
 |some _=>cases u with
  |none=>exact(show False from r).elim
  |some _=>exact r
theorem KV.val {kvs:List (κ×V)}{vs:List (κ×Value)}(r:KV kvs vs) (k:κ):RelO (yE kvs k) (valueAt vs k):=by
 unfold KV at r
 induction r with
 |nil=>exact True.intro
 | @cons p q ps qs h t ih =>
  obtain⟨h1,h2⟩:=h
  by_cases e:p.1=k
  ·have e':q.1=k:=h1.symm.trans e
   have b:valueAt (q::qs) k=some q.2:=by simp[valueAt,List.find?_cons,e']
   rw[xw e,b];exact h2
  ·have e':¬ q.1=k:=fun z=>e (h1.trans z)
   have b:valueAt (q::qs) k=valueAt qs k:=by simp[valueAt,List.find?_cons,e']
   rw[xx e,b];exact ih
theorem KV.any {kvs:List (κ×V)}{vs:List (κ×Value)}(r:KV kvs vs) (k:κ):(kvs.any fun kv=>decide (kv.1=k))=vs.any fun kv=>decide (kv.1=k):=by
 unfold KV at r
 induction r with
 |nil=>rfl
 |cons h t ih=>rw[List.any_cons,List.any_cons,ih,h.1]
theorem KV.repl {kvs:List (κ×V)}{vs:List (κ×Value)}(r:KV kvs vs) (k:κ){y:V}{u:Value}(ry:RelV y u) :
  KV (kvs.map fun kv=>if kv.1=k then(kv.1,y) else kv) (vs.map fun kv=>if kv.1=k then(kv.1,u) else kv):=by
 unfold KV at r ⊢
 induction r with
 |nil=>exact .nil
 | @cons p q ps qs h t ih =>
  rw[List.map_cons,List.map_cons]
  refine .cons ?_ ih
  obtain⟨h1,h2⟩:=h
  by_cases e:p.1=k
  ·rw[if_pos e,if_pos (h1.symm.trans e)];exact⟨h1,ry⟩
  ·rw[if_neg e,if_neg (fun z=>e (h1.trans z))];exact⟨h1,h2⟩
theorem KV.put {kvs:List (κ×V)}{vs:List (κ×Value)}(r:KV kvs vs) (k:κ){y:V}{u:Value}(ry:RelV y u):KV (putK kvs k y) (stored vs k u):=by
 unfold putK stored
 rw[r.any k]
 by_cases e:(vs.any fun kv=>decide (kv.1=k))=true
 ·rw[if_pos e,if_pos e];exact r.repl k ry
 ·rw[if_neg e,if_neg e];exact Paired.snoc r ⟨rfl,ry⟩
theorem KV.length {kvs:List (κ×V)}{vs:List (κ×Value)}(r:KV kvs vs):kvs.length=vs.length:=Paired.length r
end
theorem wP {P:Program}{w:World}{k:Key}{u:Value}(r:RelV (kV k) u):(zI P w).is k u=true:=by
 cases k with
 |inl i=>obtain⟨t,e⟩:=(show ∃ t,u=Value.int i t from r);subst e;exact uG P w i t
 |inr x=>obtain⟨t,e⟩:=(show ∃ t,u=Value.str x t from r);subst e;exact uF P w x t
theorem v8 {P:Program}{w:World}:∀ {ks:List Key}{us:List Value},Vals (ks.map kV) us→ItemsAre (zI P w) ks us
 |[],_,r=>by rw[List.map_nil] at r;cases r;exact .nil
 |k::ks,_,r=>by
  rw[List.map_cons] at r
  cases r with
  |cons h t=>exact .cons (wP h) (v8 t)
abbrev KT (H:Hp):List (List Key×V)→List (List Key×Addr×Value)→Prop:=Paired fun p q=>p.1=q.1∧H q.2.1=some (.tup (p.1.map kV))∧RelV p.2 q.2.2
theorem KT.val {H:Hp}{kvs:List (List Key×V)}{xs:List (List Key×Addr×Value)}(r:KT H kvs xs) (k:List Key):RelO (yE kvs k) ((atKey xs k).map (·.2)):=by
 induction r with
 |nil=>exact True.intro
 | @cons p q ps qs h t ih =>
  obtain⟨h1,_,h2⟩:=h
  by_cases e:p.1=k
  ·have e':q.1=k:=h1.symm.trans e
   have b:atKey (q::qs) k=some q.2:=by simp[atKey,List.find?_cons,e']
   rw[xw e,b];exact h2
  ·have e':¬ q.1=k:=fun z=>e (h1.trans z)
   have b:atKey (q::qs) k=atKey qs k:=by simp[atKey,List.find?_cons,e']
   rw[xx e,b];exact ih
theorem KT.repl {H:Hp}{kvs:List (List Key×V)}{xs:List (List Key×Addr×Value)}(r:KT H kvs xs) (k:List Key){y:V}{u:Value}(ry:RelV y u) :
  KT H (kvs.map fun kv=>if kv.1=k then(kv.1,y) else kv) (xs.map (putAt k u)):=by
 induction r with
 |nil=>exact .nil
 | @cons p q ps qs h t ih =>
  rw[List.map_cons,List.map_cons]
  refine .cons ?_ ih
  obtain⟨h1,h2,h3⟩:=h
  unfold putAt
  by_cases e:p.1=k
  ·rw[if_pos e,if_pos (h1.symm.trans e)];exact⟨h1,h2,ry⟩
  ·rw[if_neg e,if_neg (fun z=>e (h1.trans z))];exact⟨h1,h2,h3⟩
theorem KT.put {H:Hp}{kvs:List (List Key×V)}{xs:List (List Key×Addr×Value)}(r:KT H kvs xs) (k:List Key){b:Addr}{y:V}{u:Value}(hb:H b=some (.tup (k.map kV))) (ry:RelV y u) :
  KT H (putK kvs k y) (storedH xs k b u):=by
 have e:(kvs.any fun kv=>decide (kv.1=k))=(atKey xs k).isSome:=by
  rw[yM,(r.val k).isSome_eq,Option.isSome_map]
 unfold putK storedH
 rw[e]
 by_cases q:(atKey xs k).isSome=true
 ·rw[if_pos q,if_pos q];exact r.repl k ry
 ·rw[if_neg q,if_neg q];exact Paired.snoc r ⟨rfl,hb,ry⟩
theorem KT.keeps {H H':Hp}{kvs:List (List Key×V)}{xs:List (List Key×Addr×Value)}(r:KT H kvs xs) (ht:∀ b ys,H b=some (.tup ys)→H' b=some (.tup ys)):KT H' kvs xs :=
 Paired.mapP r fun _ _ z=>⟨z.1,ht _ _ z.2.1,z.2.2⟩
section
variable {P:Program}{w:World}{H:Hp}{h:Heap}{a:Addr}
theorem Uz {u:HO}(ok:HOk P w H h) (e:Rd H a u):ObjOk P w H h a u:=e.ok ok
theorem vB {kvs:List (Key×V)}(ok:HOk P w H h) (e:Rd H a (.dK kvs)):kvs.length≤sizeLine∧(a == sysModules)=false∧∃ vs,KV kvs vs∧h.DictOf (zI P w) a vs :=
 show ObjOk P w H h a (.dK kvs) from Uz ok e
theorem uK {kvs:List (Key×V)}(ok:HOk P w H h) (e:H a=some (.dK kvs)):kvs.length≤sizeLine∧(a == sysModules)=false∧∃ vs,KV kvs vs∧h.DictOf (zI P w) a vs:=vB ok (.inl e)
theorem xZ {ks:List Key}(ok:HOk P w H h) (e:H a=some (.tup (ks.map kV))):(tupleKind (zI P w)).is h ks a:=by
 obtain⟨_,its,r,o,h1,h2,n,h3⟩:=(show ObjOk P w H h a (.tup (ks.map kV)) from ok a _ e)
 exact⟨o,its.toArray,n,h1,h2,h3,by simpa using v8 r⟩
theorem wQ {kvs:List (List Key×V)}(ok:HOk P w H h) (e:Rd H a (.dT kvs)):kvs.length≤sizeLine∧(a == sysModules)=false ∧
  ∃ xs,KT H kvs xs∧h.DictOfH (tupleKind (zI P w)) a xs:=by
 obtain⟨z,y,xs,r,o,es,ep,h1,h2,h3,h4,h5⟩:=(show ObjOk P w H h a (.dT kvs) from Uz ok e)
 refine⟨z,y,xs,r,o,es,ep,h1,h2,h3,h4,fun x hx=>?_,h5⟩
 have all:∀ {l:List (List Key×V)}{m:List (List Key×Addr×Value)},KT H l m→∀ x∈m,(tupleKind (zI P w)).is h x.1 x.2.1:=by
  intro l m q
  induction q with
  |nil=>intro x hx;exact nomatch hx
  | @cons p q ps qs hq t ih =>
   intro x hx
   rcases List.mem_cons.mp hx with e | hx
   ·subst e
    exact xZ ok (by rw[← hq.1];exact hq.2.1)
   ·exact ih x hx
 exact all r x hx
theorem uJ {kvs:List (List Key×V)}(ok:HOk P w H h) (e:H a=some (.dT kvs)):kvs.length≤sizeLine∧(a == sysModules)=false ∧
  ∃ xs,KT H kvs xs∧h.DictOfH (tupleKind (zI P w)) a xs:=wQ ok (.inl e)
end
def DGet (H:Hp) (a:Addr) (y:V) (r:Option V):Prop :=
 (∃ kvs k,Rd H a (.dK kvs)∧y=kV k∧r=yE kvs k)∨∃ kvs k b,Rd H a (.dT kvs)∧y=.ref b∧H b=some (.tup (k.map kV))∧r=yE kvs k
def DPut (H:Hp) (a:Addr) (y v:V) (H':Hp):Prop :=
 (∃ kvs k,H a=some (.dK kvs)∧y=kV k∧kvs.length<sizeLine∧H'=upd H a (.dK (putK kvs k v))) ∨
 ∃ kvs k b,H a=some (.dT kvs)∧y=.ref b∧H b=some (.tup (k.map kV))∧kvs.length<sizeLine∧H'=upd H a (.dT (putK kvs k v))
theorem DGet.k {H:Hp}{a:Addr}{kvs:List (Key×V)}{k:Key}(e:H a=some (.dK kvs)):DGet H a (kV k) (yE kvs k):=.inl ⟨kvs,k,.inl e,rfl,rfl⟩
theorem DGet.t {H:Hp}{a b:Addr}{kvs:List (List Key×V)}{k:List Key}(e:H a=some (.dT kvs)) (eb:H b=some (.tup (k.map kV))):DGet H a (.ref b) (yE kvs k):=.inr ⟨kvs,k,b,.inl e,rfl,eb,rfl⟩
theorem DPut.k {H:Hp}{a:Addr}{kvs:List (Key×V)}{k:Key}{v:V}(e:H a=some (.dK kvs)) (hl:kvs.length<sizeLine):DPut H a (kV k) v (upd H a (.dK (putK kvs k v))):=.inl ⟨kvs,k,e,rfl,hl,rfl⟩
theorem DPut.t {H:Hp}{a b:Addr}{kvs:List (List Key×V)}{k:List Key}{v:V}(e:H a=some (.dT kvs)) (eb:H b=some (.tup (k.map kV))) (hl:kvs.length<sizeLine) :
  DPut H a (.ref b) v (upd H a (.dT (putK kvs k v))):=.inr ⟨kvs,k,b,e,rfl,eb,hl,rfl⟩
section
variable {X:Cx}{pins:List (Addr×Obj)}{σ:St}{H:Hp}{s:Shared}{a:Addr}{y v:V}{u r:Value}{o:Option V}{A:Around}{E:Value→Shared→Prop}
theorem Inv.big (I:Inv X pins σ H s):sysModules<s.heap.objs.size:=by
 have h:mainGlobals<s.heap.objs.size:=(I.mod.glob.keeps I.bk).lt
 exact Nat.lt_trans (by decide) h
theorem Y7 {Q:Value→Shared→Prop}(hu:A.units+1<cLine) (I:Inv X pins σ H s) (g:DGet H a y (some v)) (ry:RelV y u) (h:∀ w' s',Inv X pins σ H s'→RelV v w'→Q w' s') :
  wpAny (model X.prog X.w) A (getItem (.ref a) u) Q E s:=by
 rcases g with⟨kvs,k,e,ey,l⟩ | ⟨kvs,k,b,e,ey,eb,l⟩
 ·subst ey
  obtain⟨z,hd,vs,rel,dd⟩:=vB I.hok e
  obtain⟨w',hw,rw'⟩:=RelO.some_of (v:=v) (o:=valueAt vs k) (by rw[l];exact rel.val k)
  exact wpAny_getItem_of (wP ry) dd.mapOf hw (h w' _ (I.tok _) rw')
 ·subst ey
  cases (show u=Value.ref b from ry)
  obtain⟨z,hd,xs,rel,dd⟩:=wQ I.hok e
  obtain⟨w',hw,rw'⟩:=RelO.some_of (v:=v) (o:=(atKey xs k).map (·.2)) (by rw[l];exact rel.val k)
  obtain⟨p,hp,hp2⟩:=Option.map_eq_some_iff.mp hw
  refine wpAny_getItem_heap (tupleKind_room_in1 hu) (xZ I.hok eb) dd hp ?_
  rw[hp2]
  exact h w' _ (I.tok _) rw'
theorem zcr {Q:Value→Shared→Prop}(hu:A.units+1<cLine) (I:Inv X pins σ H s) (g:DGet H a y o) (ry:RelV y u) (h:∀ s',Inv X pins σ H s'→Q (.bool o.isSome) s') :
  wpAny (model X.prog X.w) A (compareOp .In u (.ref a)) Q E s:=by
 rcases g with⟨kvs,k,e,ey,l⟩ | ⟨kvs,k,b,e,ey,eb,l⟩
 ·subst ey
  obtain⟨z,hd,vs,rel,dd⟩:=vB I.hok e
  refine wpAny_in_of (wP ry) hd dd.mapOf ?_
  rw[← (rel.val k).isSome_eq,← l]
  exact h _ (I.tok _)
 ·subst ey
  cases (show u=Value.ref b from ry)
  obtain⟨z,hd,xs,rel,dd⟩:=wQ I.hok e
  refine wpAny_in_heap (tupleKind_room_in1 hu) (xZ I.hok eb) hd dd ?_
  have q:=(rel.val k).isSome_eq
  rw[Option.isSome_map] at q
  rw[← q,← l]
  exact h _ (I.tok _)
theorem V0 {Q:Value→Shared→Prop}(hu:A.units+1<cLine) (I:Inv X pins σ H s) (g:DGet H a y o) (ry:RelV y u) (h:∀ s',Inv X pins σ H s'→Q (.bool (!o.isSome)) s') :
  wpAny (model X.prog X.w) A (compareOp .NotIn u (.ref a)) Q E s:=by
 rcases g with⟨kvs,k,e,ey,l⟩ | ⟨kvs,k,b,e,ey,eb,l⟩
 ·subst ey
  obtain⟨z,hd,vs,rel,dd⟩:=vB I.hok e
  refine wpAny_notIn_of (wP ry) hd dd.mapOf ?_
  rw[← (rel.val k).isSome_eq,← l]
  exact h _ (I.tok _)
 ·subst ey
  cases (show u=Value.ref b from ry)
  obtain⟨z,hd,xs,rel,dd⟩:=wQ I.hok e
  refine wpAny_notIn_heap (tupleKind_room_in1 hu) (xZ I.hok eb) hd dd ?_
  have q:=(rel.val k).isSome_eq
  rw[Option.isSome_map] at q
  rw[← q,← l]
  exact h _ (I.tok _)
theorem xT {h':Heap}{t':Nat}{ob:HO}(I:Inv X pins σ H s) (mu:Mut (H a)) (hs:Heap.SameBut a s.heap h') (he:∃ q,h'.get? a=some q) (new:ObjOk X.prog X.w (upd H a ob) h' a ob) :
  Inv X pins σ (upd H a ob) { s with heap:=h',toks:=t' } :=
 I.write (x:=a) (e:=a) mu (.inl rfl) (fun b q hb z=>(hs.2 b hb).trans z) he new
theorem ua {P:Program}{w:World}{H':Hp}{h':Heap}{kvs:List (Key×V)}{vs:List (Key×Value)}(z:kvs.length≤sizeLine) (hd:(a == sysModules)=false) (rel:KV kvs vs) (dd:h'.DictOf (zI P w) a vs) :
  ObjOk P w H' h' a (.dK kvs):=⟨z,hd,vs,rel,dd⟩
theorem Y6 {H':Hp}{Q:Unit→Shared→Prop}(hu:A.units+1<cLine) (I:Inv X pins σ H s) (g:DPut H a y v H') (ry:RelV y u) (rv:RelV v r) (h:∀ s',Inv X pins σ H' s'→Q () s') :
  wpAny (model X.prog X.w) A (setItem (.ref a) u r) Q E s:=by
 rcases g with⟨kvs,k,e,ey,l,eH⟩ | ⟨kvs,k,b,e,ey,eb,l,eH⟩
 ·subst ey eH
  obtain⟨z,hd,vs,rel,dd⟩:=uK I.hok e
  have hz:vs.length≤sizeLine:=by rw[← rel.length];exact z
  have hl:(putK kvs k v).length≤sizeLine:=by have:=yy kvs k v;omega
  refine wpAny_setItem_pairs (hsz:=hz) (wP ry) dd fun h' dd' hs=>h _ ?_
  have he:∃ q,h'.get? a=some q:=let ⟨q,_,_,hq,_⟩:=dd';⟨q,hq⟩
  exact xT I (by rw[e];exact True.intro) hs he (ua hl hd (rel.put k rv) dd')
 ·subst ey eH
  cases (show u=Value.ref b from ry)
  obtain⟨z,hd,xs,rel,dd⟩:=uJ I.hok e
  have hz:xs.length≤sizeLine:=by rw[← Paired.length rel];exact z
  have hl:(putK kvs k v).length≤sizeLine:=by have:=yy kvs k v;omega
  refine wpAny_setItem_heap (hsz:=hz) (tupleKind_room_in1 hu) (xZ I.hok eb) dd fun h' dd' hs=>h _ ?_
  obtain⟨q,es,ep,hq,h2,h3,h4,_,h5⟩:=dd'
  refine xT I (by rw[e];exact True.intro) hs ⟨q,hq⟩ ⟨hl,hd,_,(rel.put k eb rv).keeps fun c ys ec=>?_,q,es,ep,hq,h2,h3,h4,h5⟩
  rw[upd_ne (VM ec e (fun z=>nomatch z))]
  exact ec
end
section
variable {X:Cx}{pins:List (Addr×Obj)}{σ:St}{H:Hp}{s:Shared}{a:Addr}{kvs:List (Key×V)}{k:Key}{u:Value}{A:Around}{E:Value→Shared→Prop}
theorem zbm {Q:Value→Shared→Prop}(I:Inv X pins σ H s) (e:Rd H a (.dK kvs)) (h:∀ t s',Inv X pins σ H s'→Q (.int kvs.length t) s'):wpAny (model X.prog X.w) A (call (.builtin "len") [.ref a]) Q E s:=by
 obtain⟨z,hd,vs,rel,dd⟩:=vB I.hok e
 refine call_len_dict hd dd (by rw[← rel.length];rw[sizeLine_eq] at z;omega) ?_
 rw[← rel.length]
 exact h _ _ (I.tok _)
end
def zbq (i:Expr):Prop:=∀ ov iv,subscripted i false ov iv=operate [ov,iv] (getItem ov iv)
theorem subD_of {prog:Program}{w:World}{A:Around}{E:Value→Shared→Prop}{s:Shared}{env:Env}{value slice:Expr}{pos:Pos}{T id:String}{Q:Value→Shared→Prop}
  (hl:typeLookup (.type T) "__getitem__" = pure (some (.builtin id))) (hs:zbq slice)
  (h:wpAny (model prog w) A (eval value env) (fun o s₁=>wpAny (model prog w) A (eval slice env) (fun i s₂=>s₂.TypeIs o T∧wpAny (model prog w) A (getItem o i) Q E s₂) E s₁) E s) :
  wpAny (model prog w) A (eval (.Subscript value slice pos) env) Q E s:=by
 refine Subscript_ (wpAny_mono h (fun o s₁ h₁=>wpAny_mono h₁ (fun i s₂ h₂=>?_) fun _ _ x=>x) fun _ _ x=>x)
 obtain⟨hT,h₂⟩:=h₂
 unfold subscriptTail
 refine wpAny_bind ?_
 rw[getitemInPython_of_ne hT.not_modules]
 refine wpAny_bind (wpAny_specialOf hT hl ?_)
 have fin:wpAny (model prog w) A (subscripted slice false o i) (fun r s₃=>wpAny (model prog w) A (letTemporaryGo value o r >>= fun _=>pure r) Q E s₃) E s₂:=by
  rw[hs o i]
  exact wpAny_operating (wpAny_mono h₂ (fun r s₃ h₃=>wpAny_bind (wpAny_letTemporaryGo (wpAny_pure h₃))) fun _ _ x=>x)
 first
  |exact wpAny_pure (wpAny_bind fin)
  |exact wpAny_bind (wpAny_pure (wpAny_bind fin))
  |exact wpAny_bind fin
theorem uL {X:Cx}{pins:List (Addr×Obj)}{σ:St}{H:Hp}{s:Shared}{a:Addr}{y:V}{o:Option V}(I:Inv X pins σ H s) (g:DGet H a y o):s.TypeIs (.ref a) "dict" := by
 rcases g with⟨kvs,k,e,_,_⟩ | ⟨kvs,k,b,e,_,_,_⟩
 ·obtain⟨_,_,vs,_,dd⟩:=vB I.hok e
  exact dd.typeIs
 ·obtain⟨_,_,xs,_,dd⟩:=wQ I.hok e
  exact dd.typeIs
def Um (td ty:TE):TE:=fun σ H Q=>td σ H fun x H1=>ty σ H1 fun y H2=>∃ a v,x=.ref a∧DGet H2 a y (some v)∧Q v H2
def zbB (ty td:TE):TE:=fun σ H Q=>ty σ H fun y H1=>td σ H1 fun x H2=>∃ a o,x=.ref a∧DGet H2 a y o∧Q (.bl o.isSome) H2
def Vi (ty td:TE):TE:=fun σ H Q=>ty σ H fun y H1=>td σ H1 fun x H2=>∃ a o,x=.ref a∧DGet H2 a y o∧Q (.bl (!o.isSome)) H2
def Uw (td ty tv:TE):TS:=fun D σ H=>tv σ H fun v H1=>td σ H1 fun x H2=>ty σ H2 fun y H3=>∃ a H4,x=.ref a∧DPut H3 a y v H4∧D.nx σ H4
section
variable {X:Cx}{o i e value:Expr}{pos pos' tpos:Pos}{td ty tv:TE}
theorem uA (hu:X.A.units+1<cLine) (ho:PE X o td) (hi:PE X i ty) (hs:zbq i):PE X (.Subscript o i pos) (Um td ty):=by
 intro pins s σ H Q I h
 refine subD_of PySem.F.slot_dict_getitem.lookup hs (thn (ho pins s σ H _ I h) fun u s1 ⟨x,H1,I1,rx,q1⟩=>thn (hi pins s1 σ H1 _ I1 q1) fun iv s2 hq0=>?_)
 obtain⟨y,H2,I2,ry,a,v,ex,g,q2⟩:=hq0
 subst ex
 obtain rfl:u=Value.ref a:=rx
 exact⟨uL I2 g,Y7 hu I2 g ry fun w' s3 I3 rw'=>⟨v,H2,I3,rw',q2⟩⟩
theorem WE (hu:X.A.units+1<cLine) (hi:PE X i ty) (ho:PE X o td):PC X .In i o (zbB ty td):=by
 intro pins s σ H Q I h
 refine thn (hi pins s σ H _ I h) fun iv s1 ⟨y,H1,I1,ry,q1⟩=>thn (ho pins s1 σ H1 _ I1 q1) fun u s2 hq0=>?_
 obtain⟨x,H2,I2,rx,a,ov,ex,g,q2⟩:=hq0
 subst ex
 obtain rfl:u=Value.ref a:=rx
 exact zcr hu I2 g ry fun s3 I3=>⟨.bl ov.isSome,H2,I3,rfl,q2⟩
theorem xk (hu:X.A.units+1<cLine) (hi:Bx (PE X i ty)) (ho:Bx (PE X o td)):Bx (PC X .NotIn i o (Vi ty td)):=by
 have hi:=hi.of
 have ho:=ho.of
 refine⟨?_⟩
 intro pins s σ H Q I h
 refine thn (hi pins s σ H _ I h) fun iv s1 ⟨y,H1,I1,ry,q1⟩=>thn (ho pins s1 σ H1 _ I1 q1) fun u s2 hq0=>?_
 obtain⟨x,H2,I2,rx,a,ov,ex,g,q2⟩:=hq0
 subst ex
 obtain rfl:u=Value.ref a:=rx
 exact V0 hu I2 g ry fun s3 I3=>⟨.bl (!ov.isSome),H2,I3,rfl,q2⟩
theorem uw (hu:X.A.units+1<cLine) (ho:PE X o td) (hi:PE X i ty) (hv:PE X value tv) (hs:swapsWith value (some (.Subscript o i pos')) pos.line X.env=pure false) :
  PS X (.Assign [.Subscript o i pos'] value pos) (Uw td ty tv):=by
 intro pins s σ H D I h
 refine wpAny_Assign_Subscript (thn (hv pins s σ H _ I h) fun r s1 ⟨v,H1,I1,rv,q1⟩=>thn (ho pins s1 σ H1 _ I1 q1) fun u s2 ⟨x,H2,I2,rx,q2⟩=>thn (hi pins s2 σ H2 _ I2 q2) fun iv s3 hq0=>?_) hs
 obtain⟨y,H3,I3,ry,a,H4,ex,g,q3⟩:=hq0
 subst ex
 obtain rfl:u=Value.ref a:=rx
 exact Y6 hu I3 g ry rv fun s4 I4=>⟨σ,H4,I4,q3⟩
end
theorem Zs {P:Program}{w:World}{H:Hp}(h:Heap) (hb:sysModules<h.objs.size):ObjOk P w H (h.push { cls:=.type "dict",data:=.dict #[] }) h.objs.size (.dK []) :=
 ⟨Nat.zero_le _,beq_eq_false_iff_ne.mpr (Ne.symm (Nat.ne_of_lt hb)),[],.nil,Heap.DictOf.new h⟩
theorem Wg {P:Program}{w:World}{H:Hp}(h:Heap) (hb:sysModules<h.objs.size):ObjOk P w H (h.push { cls:=.type "dict",data:=.dict #[] }) h.objs.size (.dT []) :=
 ⟨Nat.zero_le _,beq_eq_false_iff_ne.mpr (Ne.symm (Nat.ne_of_lt hb)),[],.nil,_,#[],0,Heap.get?_push_size _ rfl,⟨rfl,rfl,rfl⟩,rfl,rfl,List.nodup_nil⟩
def Wr:TE:=fun _ H Q=>∀ p,H p=none→Q (.ref p) (upd H p (.dK []))
def Wq:TE:=fun _ H Q=>∀ p,H p=none→Q (.ref p) (upd H p (.dT []))
section
variable {X:Cx}{pos:Pos}
theorem Zg:PE X (.Dict [] [] pos) Wr:=fun pins s σ H Q I h =>
 wpAny_Dict_empty ⟨.ref s.heap.objs.size,_,I.laid (a:=s.heap.objs.size) (o:=.dK []) (t':=s.toks) (fun _ _ q=>Heap.get?_push_of_some _ q) (Nat.le_refl _) (Zs s.heap I.big),rfl,h _ (I.hok.fresh (Nat.le_refl _))⟩
theorem Zf:PE X (.Dict [] [] pos) Wq:=fun pins s σ H Q I h =>
 wpAny_Dict_empty ⟨.ref s.heap.objs.size,_,I.laid (a:=s.heap.objs.size) (o:=.dT []) (t':=s.toks) (fun _ _ q=>Heap.get?_push_of_some _ q) (Nat.le_refl _) (Wg s.heap I.big),rfl,h _ (I.hok.fresh (Nat.le_refl _))⟩
end
def Z5:List (TE×TE)→St→Hp→(List (V×V)→Hp→Prop)→Prop
 |[],_,H,Q=>Q [] H
 |(tk,tv)::r,σ,H,Q=>tk σ H fun x H1=>tv σ H1 fun y H2=>Z5 r σ H2 fun ps H3=>Q ((x,y)::ps) H3
abbrev VV:List (V×V)→List (Value×Value)→Prop:=Paired fun p q=>RelV p.1 q.1∧RelV p.2 q.2
def PPs (X:Cx) (pos:Pos) (keys:List (Option Expr)) (values:List Expr) (trs:List (TE×TE)):Prop :=
 ∀ (pins:List (Addr×Obj)) (s:Shared) (σ:St) (H:Hp) (Q:List (V×V)→Hp→Prop),Inv X pins σ H s→Z5 trs σ H Q →
  wpAny (model X.prog X.w) X.A (evalPairs (pairTrees keys values X.env pos)) (fun vs s'=>∃ ps H',Inv X pins σ H' s'∧VV ps vs∧Q ps H') X.xe s
theorem ZT {X:Cx}{pos:Pos}:Bx (PPs X pos [] [] []):=by
 exact⟨fun pins s σ H Q I h=>pairTrees_nil_walk ⟨[],H,I,.nil,h⟩⟩
theorem Zz {X:Cx}{pos:Pos}{k v:Expr}{ks:List (Option Expr)}{vs:List Expr}{tk tv:TE}{trs:List (TE×TE)}(hk:Bx (PE X k tk)) (hv:Bx (PE X v tv)) (hr:Bx (PPs X pos ks vs trs)):Bx (PPs X pos (some k::ks) (v::vs) ((tk,tv)::trs)):=by
 have hk:=hk.of
 have hv:=hv.of
 have hr:=hr.of
 exact⟨fun pins s σ H Q I h =>
  pairTrees_cons_walk (thn (hk pins s σ H _ I h) fun u s1 ⟨x,H1,I1,rx,q1⟩=>thn (hv pins s1 σ H1 _ I1 q1) fun w2 s2 ⟨y,H2,I2,ry,q2⟩ =>
   thn (hr pins s2 σ H2 _ I2 q2) fun ws s3 ⟨ps,H3,I3,rel,q3⟩=>⟨(x,y)::ps,H3,I3,.cons ⟨rx,ry⟩ rel,q3⟩)⟩
def mergeK (kvs more:List (Key×V)):List (Key×V):=more.foldl (fun acc kv=>putK acc kv.1 kv.2) kvs
theorem KV.merge:∀ {more:List (Key×V)}{rs:List (Key×Value)}{kvs:List (Key×V)}{vs:List (Key×Value)},KV more rs→KV kvs vs→KV (mergeK kvs more) (merged vs rs):=by
 intro more rs kvs vs r
 unfold KV at r
 induction r generalizing kvs vs with
 |nil=>intro q;exact q
 | @cons p q ps qs h t ih =>
  intro r0
  have e:KV (putK kvs p.1 p.2) (stored vs q.1 q.2):=by
   have:=r0.put p.1 h.2
   rw[← h.1];exact this
  exact ih e
theorem xF:∀ (more kvs:List (Key×V)),(mergeK kvs more).length≤kvs.length+more.length
 |[],kvs=>by show kvs.length≤kvs.length+0;omega
 |p::r,kvs=>by
  have h1:=xF r (putK kvs p.1 p.2)
  have h2:=yy kvs p.1 p.2
  show(mergeK (putK kvs p.1 p.2) r).length≤_
  rw[List.length_cons];omega
theorem vc {P:Program}{w:World}:∀ {kvs:List (Key×V)}{ws:List (Value×Value)},VV (kvs.map fun kv=>(kV kv.1,kv.2)) ws→∃ rs,Carries (zI P w) ws rs∧KV kvs rs
 |[],_,r=>by rw[List.map_nil] at r;cases r;exact⟨[],True.intro,.nil⟩
 |p::kvs,_,r=>by
  rw[List.map_cons] at r
  cases r with
  | @cons a b as bs h t =>
   obtain⟨rs,c,q⟩:=vc (P:=P) (w:=w) t
   obtain⟨b1,b2⟩:=b
   exact⟨(p.1,b2)::rs,⟨wP h.1,rfl,c⟩,.cons ⟨rfl,h.2⟩ q⟩
def zay (trs:List (TE×TE)):TE:=fun σ H Q=>∀ p,H p=none→Z5 trs σ (upd H p (.dK [])) fun ps H2=>H2 p=some (.dK [])∧∃ kvs:List (Key×V),ps=kvs.map (fun kv=>(kV kv.1,kv.2))∧kvs.length≤15∧Q (.ref p) (upd H2 p (.dK (mergeK [] kvs)))
theorem ZV {X:Cx}{pos:Pos}{keys:List (Option Expr)}{values:List Expr}{trs:List (TE×TE)}(h:Bx (PPs X pos keys values trs)) (hall:keys.all (·.isSome)=true) (hl:keys.length=values.length) (h0:keys≠[]) (h15:keys.length≤15):Bx (PE X (.Dict keys values pos) (zay trs)):=by
 have h:=h.of
 refine⟨?_⟩
 intro pins s σ H Q I q
 have hn:=I.hok.fresh (Nat.le_refl s.heap.objs.size)
 have I1:=I.laid (a:=s.heap.objs.size) (o:=.dK []) (h':=s.heap.push { cls:=.type "dict",data:=.dict #[] }) (t':=s.toks) (fun _ _ q=>Heap.get?_push_of_some _ q) (Nat.le_refl _) (Zs s.heap I.big)
 refine wpAny_Dict_walk (knd:=zI X.prog X.w) hall hl h0 h15 (thn (h pins _ σ _ _ I1 (q _ hn)) fun ws s2 hq0=>?_)
 obtain⟨ps,H2,I2,rel,e,kvs,ep,lk,q2⟩:=hq0
 subst ep
 obtain⟨rs,c,rk⟩:=vc (P:=X.prog) (w:=X.w) rel
 obtain⟨z,hd,vs0,r0,dd⟩:=uK I2.hok e
 cases r0
 refine⟨rs,c,dd,fun h' dd' hs=>⟨.ref s.heap.objs.size,_,?_,rfl,q2⟩⟩
 have hz:(mergeK [] kvs).length≤sizeLine:=by
  have h1:=xF kvs []
  rw[List.length_nil] at h1
  rw[sizeLine_eq];omega
 have he:∃ q,h'.get? s.heap.objs.size=some q:=let ⟨q,_,_,hq,_⟩:=dd';⟨q,hq⟩
 exact xT I2 (by rw[e];exact True.intro) hs he (ua hz hd (rk.merge .nil) dd')
structure M1 (X:Cx) (o:Expr) (m:Str) (apos:Pos) (e:Expr) (cpos:Pos):Prop where
 base:attributeBase o m X.env (eval o X.env)=eval o X.env
 few:((backTo cpos (starEach [e] X.env)).all (fun x=>!x.1)&&(backToKw cpos (keywordEach [] X.env)).all (fun x=>x.1.isSome)
  && decide (([e]:List Expr).length+([]:List Keyword).length+(if ([]:List Keyword).isEmpty then 0 else 1)<30))=true
 line:(apos.endLine == cpos.line)=true
 trees:backTo cpos (starEach [e] X.env)=[(false,eval e X.env)]
structure M2 (X:Cx) (o:Expr) (m:Str) (apos:Pos) (e f:Expr) (cpos:Pos):Prop where
 base:attributeBase o m X.env (eval o X.env)=eval o X.env
 few:((backTo cpos (starEach [e,f] X.env)).all (fun x=>!x.1)&&(backToKw cpos (keywordEach [] X.env)).all (fun x=>x.1.isSome)
  && decide (([e,f]:List Expr).length+([]:List Keyword).length+(if ([]:List Keyword).isEmpty then 0 else 1)<30))=true
 line:(apos.endLine == cpos.line)=true
 trees:backTo cpos (starEach [e,f] X.env)=[(false,eval e X.env),(false,eval f X.env)]
def IsD (H:Hp) (a:Addr):Prop:=(∃ kvs,Rd H a (.dK kvs))∨∃ kvs,Rd H a (.dT kvs)
theorem va {X:Cx}{pins:List (Addr×Obj)}{σ:St}{H:Hp}{s:Shared}{a:Addr}(I:Inv X pins σ H s) (d:IsD H a) :
  s.TypeIs (.ref a) "dict" ∧ (∀ b,Value.ref a=.ref b→∃ ob,s.heap.get? b=some ob∧ob.dict=none)∧(a == sysModules)=false:=by
 rcases d with⟨kvs,e⟩ | ⟨kvs,e⟩
 ·obtain⟨_,hd,vs,_,dd⟩:=vB I.hok e
  refine⟨dd.typeIs,fun b q=>?_,hd⟩
  cases q
  obtain⟨ob,_,_,h1,h2,_⟩:=dd
  exact⟨ob,h1,h2.2.1⟩
 ·obtain⟨_,hd,xs,_,dd⟩:=wQ I.hok e
  refine⟨dd.typeIs,fun b q=>?_,hd⟩
  cases q
  obtain⟨ob,_,_,h1,h2,_⟩:=dd
  exact⟨ob,h1,h2.2.1⟩
section
variable {X:Cx}{pins:List (Addr×Obj)}{σ:St}{H:Hp}{s:Shared}{a:Addr}{y d:V}{u r:Value}{o:Option V}{A:Around}{E:Value→Shared→Prop}
theorem zag {Q:Value→Shared→Prop}(hu:A.units+1<cLine) (I:Inv X pins σ H s) (g:DGet H a y o) (ry:RelV y u) (h:∀ w' s',Inv X pins σ H s'→RelV (o.getD .non) w'→Q w' s') :
  wpAny (model X.prog X.w) A (call (.builtin "dict.get") [.ref a,u]) Q E s:=by
 rcases g with⟨kvs,k,e,ey,l⟩ | ⟨kvs,k,b,e,ey,eb,l⟩
 ·subst ey
  obtain⟨z,hd,vs,rel,dd⟩:=vB I.hok e
  refine call_meetsIn PySem.F.slot_dict_get dd.typeIs PySem.F.entry_dict_get (PySem.F.args_dict_get_2 _ _) (meets_dict_get (zI X.prog X.w) a (wP ry) hd) ⟨_,dd.mapOf,h _ _ (I.tok _) ?_⟩
  rw[l]
  exact(rel.val k).getD rfl
 ·subst ey
  cases (show u=Value.ref b from ry)
  obtain⟨z,hd,xs,rel,dd⟩:=wQ I.hok e
  refine call_meetsIn PySem.F.slot_dict_get dd.typeIs PySem.F.entry_dict_get (PySem.F.args_dict_get_2 _ _) (meetsH_dict_get (tupleKind (zI X.prog X.w)) a b hd) ⟨tupleKind_room_in1 hu,k,xs,xZ I.hok eb,dd,h _ _ (I.tok _) ?_⟩
  rw[l]
  exact(rel.val k).getD rfl
theorem zaf {Q:Value→Shared→Prop}(hu:A.units+1<cLine) (I:Inv X pins σ H s) (g:DGet H a y o) (ry:RelV y u) (rd:RelV d r) (h:∀ w' s',Inv X pins σ H s'→RelV (o.getD d) w'→Q w' s') :
  wpAny (model X.prog X.w) A (call (.builtin "dict.get") [.ref a,u,r]) Q E s:=by
 rcases g with⟨kvs,k,e,ey,l⟩ | ⟨kvs,k,b,e,ey,eb,l⟩
 ·subst ey
  obtain⟨z,hd,vs,rel,dd⟩:=vB I.hok e
  refine call_meetsIn PySem.F.slot_dict_get dd.typeIs PySem.F.entry_dict_get (PySem.F.args_dict_get_3 _ _ _) (meets_dict_get_default (zI X.prog X.w) a (wP ry) hd r) ⟨_,dd.mapOf,h _ _ (I.tok _) ?_⟩
  rw[l]
  exact(rel.val k).getD rd
 ·subst ey
  cases (show u=Value.ref b from ry)
  obtain⟨z,hd,xs,rel,dd⟩:=wQ I.hok e
  refine call_meetsIn PySem.F.slot_dict_get dd.typeIs PySem.F.entry_dict_get (PySem.F.args_dict_get_3 _ _ _) (meetsH_dict_get_default (tupleKind (zI X.prog X.w)) a b hd r) ⟨tupleKind_room_in1 hu,k,xs,xZ I.hok eb,dd,h _ _ (I.tok _) ?_⟩
  rw[l]
  exact(rel.val k).getD rd
end
def Ul (td ty:TE):TE:=fun σ H Q=>td σ H fun x H1=>∃ a,x=.ref a∧IsD H1 a∧ty σ H1 fun y H2=>∃ o,DGet H2 a y o∧Q (o.getD .non) H2
def Uk (td ty tx:TE):TE:=fun σ H Q=>td σ H fun x H1=>∃ a,x=.ref a∧IsD H1 a∧ty σ H1 fun y H2=>tx σ H2 fun z H3=>∃ o,DGet H3 a y o∧Q (o.getD z) H3
section
variable {X:Cx}{o e f:Expr}{apos cpos:Pos}{td ty tx:TE}
theorem wT (hu:X.A.units+1<cLine) (ho:Bx (PE X o td)) (he:Bx (PE X e ty)) (m:M1 X o "get" apos e cpos):Bx (PE X (.Call (.Attribute o "get" apos) [e] [] cpos) (Ul td ty)):=by
 have ho:=ho.of
 have he:=he.of
 refine⟨?_⟩
 intro pins s σ H Q I h
 refine wpAny_Call_method m.base m.few m.line PySem.F.plainAttrs_dict PySem.F.slot_dict_get PySem.F.type_dict_get (thn (ho pins s σ H _ I h) fun u s1 hq0=>?_)
 obtain⟨x,H1,I1,rx,a,ex,d,q1⟩:=hq0
 subst ex
 obtain rfl:u=Value.ref a:=rx
 obtain⟨t1,t2,_⟩:=va I1 d
 refine⟨t1,t2,?_⟩
 rw[m.trees]
 refine Calls.callWith_builtin rfl (Calls.evalArgs_plain (Calls.spliced_cons (thn (he pins s1 σ H1 _ I1 q1) fun iv s2 ⟨y,H2,I2,ry,ov,g,q2⟩=>Calls.spliced_nil ?_)))
 exact zag hu I2 g ry fun w' s3 I3 rw'=>⟨_,H2,I3,rw',q2⟩
theorem ZA (hu:X.A.units+1<cLine) (ho:Bx (PE X o td)) (he:Bx (PE X e ty)) (hf:Bx (PE X f tx)) (m:M2 X o "get" apos e f cpos):Bx (PE X (.Call (.Attribute o "get" apos) [e,f] [] cpos) (Uk td ty tx)):=by
 have ho:=ho.of
 have he:=he.of
 have hf:=hf.of
 refine⟨?_⟩
 intro pins s σ H Q I h
 refine wpAny_Call_method m.base m.few m.line PySem.F.plainAttrs_dict PySem.F.slot_dict_get PySem.F.type_dict_get (thn (ho pins s σ H _ I h) fun u s1 hq0=>?_)
 obtain⟨x,H1,I1,rx,a,ex,d,q1⟩:=hq0
 subst ex
 obtain rfl:u=Value.ref a:=rx
 obtain⟨t1,t2,_⟩:=va I1 d
 refine⟨t1,t2,?_⟩
 rw[m.trees]
 refine Calls.callWith_builtin rfl (Calls.evalArgs_plain (Calls.spliced_cons (thn (he pins s1 σ H1 _ I1 q1) fun iv s2 ⟨y,H2,I2,ry,q2⟩ =>
  Calls.spliced_cons (thn (hf pins s2 σ H2 _ I2 q2) fun fv s3 ⟨z,H3,I3,rz,ov,g,q3⟩=>Calls.spliced_nil ?_))))
 exact zaf hu I3 g ry rz fun w' s4 I4 rw'=>⟨_,H3,I4,rw',q3⟩
end
end L2
namespace Att
open PySem PySem.W PySem.Calls PyProof.Rows
theorem wF {P:Params}{h:Heap}:∀ (ns:LI) (vs:List Value),WellAll P h vs (ns.map WData.int)→IntsAre vs ns:=by
 intro ns
 induction ns with
 |nil =>
  intro vs w
  rw[List.map_nil] at w
  cases w
  exact .nil
 |cons n ns ih =>
  intro vs w
  rw[List.map_cons] at w
  cases w with
  |cons a b =>
   cases a
   exact .cons _ _ (ih _ b)
theorem Yj {l:OpenLaw}{n:Nat}(hn:l.most=some n){P:Params}{h:Heap}{args:List WData}{vals:List Value}
  (hpre:l.row.toRowW.claim.pre args=true) (hwl:WellAll P h vals args) :
  ∃ a vs ns,vals=[Value.ref a]∧args=[WData.list (ns.map WData.int)]∧h.get? a=some { cls:=.type "list",data:=.seq vs.toArray }∧IntsAre vs ns∧ns.length≤n:=by
 have hsh:WShape.hasAll [] args [.list .int]=true:=(pre_splitW hpre).1
 have hc:l.pre.holds [] { args:=args }=true:=(pre_splitW hpre).2
 obtain⟨d,r,rfl,h1,h2⟩:=hasAllW_cons hsh
 obtain rfl:=hasAllW_nil h2
 obtain⟨xs,rfl,h3⟩:=hasW_list h1
 obtain⟨ns,rfl⟩:=items_int h3
 have hlen:ns.length≤n:=by
  unfold OpenLaw.pre at hc
  have h4:(WTm.not (.lt (.lit (.int (n:Int))) (.len (.arg 0)))).holds [] { args:=[.list (ns.map .int)] }=true:=by
   have h4:=(holds_andW hc).1
   rw[hn] at h4
   exact h4
  have h5:=condW_of h4 (w_not (w_lt w_lit (w_len_list (w_arg rfl))))
  rw[List.length_map] at h5
  refine Nat.le_of_not_lt fun q=>?_
  have q':(n:Int)<((ns.length:Nat):Int):=by omega
  first
   |(rw[decide_eq_true q'] at h5;exact absurd h5 (by decide))
   |(simp at h5;omega)
 cases hwl with
 |cons w1 w2 =>
  cases w2
  cases w1 with
  |list ho hall=>exact⟨_,_,ns,rfl,rfl,ho,wF ns _ hall,hlen⟩
theorem Yn (l:OpenLaw) (args:List WData):l.row.toRowW.claim.post args (.bool true) args=true :=
 postW_of (r:=l.row.toRowW) (X:=(true == true))
  (show WShape.has [] (.bool true) .bool=true by first | rfl | decide | simp[WShape.has,WShape.arms,WShape.armsAll])
  (show(WTm.eq .res (.lit (.bool true))).value [] { args:=args,res:=some (.bool true),after:=args }=some (.bool (true == true)) from w_eq_bool (w_res rfl) w_lit) rfl
theorem attach_call {l:OpenLaw}{n:Nat}{q:Program}{loose:List Str}{XP:(Str→Option Value)→Heap→Prop}{YP:World→Heap→Prop}{d:DefRec}
  (hn:l.most=some n) (hdf:d.params.defaults=[])
  (call:∀ (w:World) (s₀ s₁:Shared) (mg mb:Str→Option Value) (fa:Addr) (o:Obj) (pm cd doc:Value) (a:Addr) (vs:List Value) (ns:LI),
   Ground q loose [] XP w s₀ mg mb s₁.heap→YP w s₁.heap →
   s₁.heap.get? fa=some o→o.data=.func (docDef d.name d.params d.body d.scope pm cd doc)→s₁.heap.CodeRec cd d.name→mg d.name=some (.ref fa) →
   s₁.heap.get? a=some { cls:=.type "list",data:=.seq vs.toArray }→IntsAre vs ns→ns.length≤n→s₁.gens = #[] →
   codeAny (model l.prog w) callerA (.call (.ref fa) ⟨[.ref a],[]⟩) (fun r s'=>r=.ok (.ret (.bool true))∧OldK s₁.heap s'.heap∧s'.os=s₁.os∧AllBare s'.gens) s₁) :
  WalkO q loose XP YP l.row.toRowW d [] (fun f vs=>PySem.call f vs):=by
 intro w s₀ s₁ mg mb G Y fa o pm cd doc dV kV ho hd hcd hD hmg hg args vals as hpre hlay hrd hwl hlo
 obtain rfl:dV=.none:=Dflts.none hD hdf
 obtain rfl:kV=.none:=Dflts.noKw hD
 obtain⟨a,vs,ns,rfl,rfl,hobj,hints,hlen⟩:=Yj hn hpre hwl
 refine enter_call (codeAny_mono (call w s₀ s₁ mg mb fa o pm cd doc a vs ns G Y ho (fd_plain hd) hcd hmg hobj hints hlen hg) fun r s' hq=>?_)
 obtain⟨rfl,h2,h3,h4⟩:=hq
 exact⟨.inl ⟨.bool true,.bool true,[],rfl,fun _=>rfl,.bool true,Yn l _,fun _=>⟨List.Pairwise.nil,fun _ hm=>(nomatch hm)⟩⟩,h2,h3,h4⟩
end Att
namespace L2
open PySem PySem.Spec PyProof.Rows
theorem vK:∀ {vs:List Value}{ns:LI},IntsAre vs ns→Vals (ns.map V.int) vs
 |_,_,.nil=>.nil
 |_,_,.cons n t h=>.cons ⟨t,rfl⟩ (vK h)
def zal (H:Hp):Prop:=∀ b,H b=none∨∃ o xs,H b=some (.frz o (.lst xs))
theorem XX {P:Program}{w:World}{K:PySem.W.Frag}{mg mb:Str→Option Value}{CX:CXT}{k:Nat}{fa a:Addr}{fd:FuncData}{x:Str}{sp:Sp}{s₁:Shared}{vs:List Value}{ns:LI}
  (KX:K.In s₁.heap) (hns:s₁.heap.Ns mainGlobals mg) (hb:s₁.heap.Ns builtinsNs mb) (hbb:∀ x:Str,x ≠ "__name__" → mb x=bootBuiltins x) (hlim:s₁.heap.NoLimit) (hg:s₁.gens = #[])
  (ha:s₁.heap.get? a=some { cls:=.type "list",data:=.seq vs.toArray }) (hi:IntsAre vs ns) (hl:ns.length≤sizeLine) (hr:Room k callerA)
  (F:∀ base:Heap,K.In base→base.Ns mainGlobals mg→FnOk P w K mg base CX k fa fd [x] sp) (hbind:∀ (s:Shared) (u:Value),BindsTo s fd ⟨[u],[]⟩ [(x,u)])
  (hsp:∀ H:Hp,zal H→SqL K H a (ns.map V.int)→sp [.ref a] H (fun v _=>v=.bl true) fun _ _ _=>False)
  (hCX:∀ H e s',CX [] H s₁ (fun _ _ _=>False) e s'→False) :
  codeAny (model P w) callerA (.call (.ref fa) ⟨[.ref a],[]⟩) (fun r s'=>r=.ok (.ret (.bool true))∧OldK s₁.heap s'.heap∧s'.os=s₁.os∧AllBare s'.gens) s₁:=by
 have rv:=vK hi
 have lenV:=hi.length
 -- from an abstract heap in which nothing but the script may be tracked
 have core:∀ H:Hp,zal H→SqL K H a (ns.map V.int)→HOk P w H s₁.heap→(∀ b,H b≠none→b=a)→(H a≠none→K.lookup a=none) →
   codeAny (model P w) callerA (.call (.ref fa) ⟨[.ref a],[]⟩) (fun r s'=>r=.ok (.ret (.bool true))∧OldK s₁.heap s'.heap∧s'.os=s₁.os∧AllBare s'.gens) s₁:=by
  intro H hO hS hok hA hK
  have base_of:∀ {b:Addr}{o:Obj},s₁.heap.get? b=some o→H b=none→(XZ s₁.heap H).get? b=some o:=fun e n=>XY e n
  have noA:∀ {b:Addr}{o:Obj}{es:Array DictEntry}{ep:Nat},s₁.heap.get? b=some o→o.data=.dict es ep→H b=none:=fun {b o es ep} e d=>by
   cases q:H b with
   |none=>rfl
   |some u =>
    have e':b=a:=hA b (by rw[q];simp)
    subst e'
    rw[ha] at e;cases e
    have d':Data.seq vs.toArray _=Data.dict es ep:=d
    cases d'
  have nsK:∀ {b:Addr}{m:Str→Option Value},s₁.heap.Ns b m→(XZ s₁.heap H).Ns b m:=fun {b m} ⟨o,es,ep,e,d,r⟩=>⟨o,es,ep,base_of e (noA e d),d,r⟩
  have hKb:K.In (XZ s₁.heap H):=fun b o e=>base_of (KX b o e) (by
   cases q:H b with
   |none=>rfl
   |some u =>
    have e':b=a:=hA b (by rw[q];simp)
    subst e'
    rw[hK (by rw[q];simp)] at e;cases e)
  have hM:Mod K mg (XZ s₁.heap H):=⟨hKb,nsK hns,⟨mb,nsK hb,hbb⟩,let ⟨mc,h1,h2⟩:=hlim;⟨mc,nsK h1,h2⟩⟩
  have e0:Env0 P w K mg (XZ s₁.heap H) callerA [] s₁ H:=⟨rfl,hM,fun b o e=>VJ e,Nat.le_of_eq (YT _ _),trivial,fun b hb=>absurd (show b∈([]:List Addr) from hb) (by simp),hok,.of_eq hg⟩
  refine codeAny_mono ((F _ hKb (nsK hns)).run callerA [] s₁ H ⟨[.ref a],[]⟩ [.ref a] [.ref a] _ _ hr e0 (hbind s₁ (.ref a)) (.cons rfl .nil) (hsp H hO hS)) fun r s' h=>?_
  cases r with
  |error e=>exact(hCX H e s' h).elim
  |ok fl =>
   cases fl with
   |next=>exact False.elim h
   |brk=>exact False.elim h
   |cont=>exact False.elim h
   |ret u =>
    obtain⟨v,H',os,bare,un,hok',r',q⟩:=h
    have q':v=.bl true:=q
    subst q'
    obtain rfl:u=Value.bool true:=r'
    refine⟨rfl,OldK.of_keep fun b o e=>?_,os,bare⟩
    cases q:H b with
    |none=>exact un.keep b o e q (by intro z;exact absurd (show b∈([]:List Addr) from z) (by simp)) (by simp)
    |some u =>
     rcases hO b with z | ⟨ob,xs,z⟩
     ·rw[q] at z;cases z
     ·have z2:=un.frzs b ob _ z
      obtain⟨e1,_⟩:=hok b _ z
      obtain⟨e2,_⟩:=hok' b _ z2
      rw[e] at e1;cases e1
      exact e2
 cases hk:K.lookup a with
 |some o =>
  -- the script is one of the module's own objects
  have e:=KX a o hk
  rw[ha] at e
  cases e
  refine core (fun _=>none) (fun _=>.inl rfl) (.inr ⟨_,vs.toArray,_,hk,rfl,rfl,rfl,by rw[List.size_toArray,lenV];exact hl,by simpa using rv⟩) (fun b u z=>by have z':(none:Option HO)=some u:=z;cases z') (fun b z=>absurd rfl z) fun z=>absurd rfl z
 |none =>
  refine core (fun b=>if b=a then some (.frz { cls:=.type "list",data:=.seq vs.toArray } (.lst (ns.map V.int))) else none) (fun b=>?_) (.inl (.inr ⟨{ cls:=.type "list",data:=.seq vs.toArray },if_pos rfl⟩)) (fun b u z=>?_) (fun b z=>?_) fun _=>hk
  ·by_cases hb:b=a
   ·exact .inr ⟨_,_,if_pos hb⟩
   ·exact .inl (if_neg hb)
  ·by_cases hb:b=a
   ·have z':=(if_pos hb).symm.trans z
    cases z'
    subst hb
    exact⟨ha,by rw[List.length_map];exact hl,vs,_,rv,ha⟩
   ·have z':=(if_neg hb).symm.trans z
    cases z'
  ·by_cases hb:b=a
   ·exact hb
   ·exact absurd (if_neg hb) z
noncomputable abbrev KOf {K:PySem.W.Frag}{h:Heap}(_:K.In h):PySem.W.Frag:=K
theorem W0 {l:PySem.W.OpenLaw}{n k:Nat}{q:Program}{loose:List Str}{XP:(Str→Option Value)→Heap→Prop}{YP:World→Heap→Prop}{d:DefRec}{K:Params→PySem.W.Frag}{CX:World→CXT}{sp:World→Sp}{x:Str}
  (hn:l.most=some n) (hn2:n≤sizeLine) (hdf:d.params.defaults=[]) (hr:Room k callerA)
  (hY:∀ (w:World) (h:Heap),YP w h→(K w.params).In h)
  (F:∀ (w:World) (mg:Str→Option Value) (fa:Addr) (h:Heap),(K w.params).In h→h.Ns mainGlobals mg→mg d.name=some (.ref fa) →
   ∃ fd:FuncData,(∀ (s:Shared) (u:Value),BindsTo s fd ⟨[u],[]⟩ [(x,u)]) ∧
    ∀ base:Heap,(K w.params).In base→base.Ns mainGlobals mg→FnOk l.prog w (K w.params) mg base (CX w) k fa fd [x] (sp w))
  (hsp:∀ (w:World) (H:Hp) (a:Addr) (ns:LI),ns.length≤n→zal H→SqL (K w.params) H a (ns.map V.int)→sp w [.ref a] H (fun v _=>v=.bl true) fun _ _ _=>False)
  (hCX:∀ (w:World) (H:Hp) (s:Shared) (e:Value) (s':Shared),CX w [] H s (fun _ _ _=>False) e s'→False) :
  PySem.W.WalkO q loose XP YP l.row.toRowW d [] (fun f vs=>PySem.call f vs):=by
 refine Att.attach_call hn hdf fun w s₀ s₁ mg mb fa o pm cd doc a vs ns G Y ho hd hcd hmg hobj hints hlen hg=>?_
 have KX:=hY w _ Y
 obtain⟨fd,hb,hF⟩:=F w mg fa _ KX G.T.g hmg
 exact XX KX G.T.g G.T.b G.T.builtins G.T.nolimit hg hobj hints (Nat.le_trans hlen hn2) hr hF hb (fun H hO hS=>hsp w H a ns hlen hO hS) fun H e s'=>hCX w H s₁ e s'
theorem walk_ofK {l:PySem.W.OpenLaw}{n k:Nat}{q:Program}{loose:List Str}{XP:(Str→Option Value)→Heap→Prop}{YP:World→Heap→Prop}{d:DefRec}{K:Params→PySem.W.Frag}{CX:CXT}{sp:PySem.W.Frag→Sp}{x:Str}
  (hn:l.most=some n) (hn2:n≤sizeLine) (hdf:d.params.defaults=[]) (hr:Room k callerA)
  (hY:∀ (w:World) (h:Heap),YP w h→(K w.params).In h)
  (F:∀ (w:World) (mg:Str→Option Value) (fa:Addr) (h:Heap),(K w.params).In h→h.Ns mainGlobals mg→mg d.name=some (.ref fa) →
   ∃ fd:FuncData,(∀ (s:Shared) (u:Value),BindsTo s fd ⟨[u],[]⟩ [(x,u)]) ∧
    ∀ base:Heap,(K w.params).In base→base.Ns mainGlobals mg→FnOk l.prog w (K w.params) mg base CX k fa fd [x] (sp (K w.params)))
  (hsp:∀ (K:PySem.W.Frag) (H:Hp) (a:Addr) (ns:LI),ns.length≤n→zal H→SqL K H a (ns.map V.int)→sp K [.ref a] H (fun v _=>v=.bl true) fun _ _ _=>False)
  (hCX:∀ (H:Hp) (s:Shared) (e:Value) (s':Shared),CX [] H s (fun _ _ _=>False) e s'→False) :
  PySem.W.WalkO q loose XP YP l.row.toRowW d [] (fun f vs=>PySem.call f vs) :=
 W0 (K:=K) (CX:=fun _=>CX) (sp:=fun w=>sp (K w.params)) hn hn2 hdf hr hY F (fun w H a ns h1 h2 h3=>hsp (K w.params) H a ns h1 h2 h3) fun _ H s e s'=>hCX H s e s'
noncomputable def inClass (s:Stmt) (j:Nat):Stmt:=match s with
 |.ClassDef _ _ _ body _ _ _ _ _ _ _=>body.getD j (.Pass ⟨0,0,0,0⟩)
 |_=>.Pass ⟨0,0,0,0⟩
noncomputable def defArgs (s:Stmt):Arguments:=match s with
 |.FunctionDef _ a _ _ _ _ _ _ _ _=>a
 |_=>{ posonlyargs:=[],args:=[],vararg:=none,kwonlyargs:=[],kw_defaults:=[],kwarg:=none,defaults:=[] }
noncomputable def defBody (s:Stmt):List Stmt:=match s with
 |.FunctionDef _ _ b _ _ _ _ _ _ _=>b
 |_=>[]
noncomputable def defScope (s:Stmt):Scope:=match s with
 |.FunctionDef _ _ _ _ _ _ sc _ _ _=>sc
 |_=>{ kind:=.function,names:=[],isGenerator:=false,isCoroutine:=false }
abbrev CX0:CXT:=fun _ _ _ _ _ _=>False
abbrev E0:XK:=fun _ _ _=>False
theorem XB {X:Cx}:wL CX0 X E0:=fun _ _ _ _ _ _ _ h=>h.elim
structure Fun (K:PySem.W.Frag) (x qual:Str) (st:Stmt) (f:Addr) (fd:FuncData):Prop where
 ex:∃ (oc:Value) (od:Option Addr) (kV doc pm:Value) (an:Option Addr) (cdv ct:Value) (osl:Array (Option Value)),
  fd=PySem.W.fnOf x qual (defArgs st) (defBody st) (defScope st) .none kV doc pm an cdv ct∧K.lookup f=some ⟨oc,od,.func fd,osl⟩∧PySem.W.codeIn K cdv qual=true
 kp:PySem.W.keepIn K (.ref f)=true
section
variable {P:Program}{w:World}{K:PySem.W.Frag}{mg:Str→Option Value}{base:Heap}
theorem Fun.ok {x qual:Str}{st:Stmt}{f:Addr}{fd:FuncData}{N ps:List Str}{k:Nat}{sp:Sp}(F:Fun K x qual st f fd) (S:FnScope N ps (defScope st)) (len:∀ vs H Q E,sp vs H Q E→vs.length=ps.length)
  (hbody:∀ (cdv:Value) (A:Around) (outer:List Env) (s:Shared) (H:Hp) (vs:List V) (Q:VK) (E:XK),Room k (A.deeper (envOfC qual (defScope st) s.heap.objs.size f cdv))→sp vs H Q E →
   ∃ t,PSs (V4 CX0 P w K mg base N qual (defScope st) f cdv A outer s H E).nox (defBody st) t∧t { nx:=fun _ H'=>Q .non H',rt:=Q } (start N vs) H):FnOk P w K mg base CX0 (k+1) f fd ps sp:=by
 obtain⟨oc,od,kV,doc,pm,an,cdv,ct,osl,rfl,lk,hcd⟩:=F.ex
 refine zbl lk hcd S len fun A outer s H vs Q E hr hsp=>?_
 obtain⟨t,h,q⟩:=hbody cdv A outer s H vs Q E hr hsp
 exact⟨t,h.nox,q⟩
end
theorem yA {A:Around}{k:Nat}(hr:Room k A):A.units+1<cLine:=Nat.lt_of_le_of_lt (Nat.add_le_add_left (by decide:1≤64) _) hr.units
theorem zu {n:Nat}(h:n≤1000):n<sizeLine:=Nat.lt_of_le_of_lt h (by decide)
section
variable {X:Cx}
theorem pv (i:Nat){x:Str}{pos:Pos}(hN:X.N[i]?=some x:=by rfl) (hv:Vis X.env.scope x:=by first | exact Or.inl rfl | exact Or.inr (Or.inl rfl) | exact Or.inr (Or.inr rfl)) (hd:(x == ("__debug__" : Str))=false:=by decide)
  (hcd:(x == ("__classdict__" : Str))=false:=by decide):PE X (.Name x pos) (Z4 i):=UG hN hv hd hcd
theorem ue:xr X (.builtin "len") (fun xs H Q=>∃ a kvs,xs=[V.ref a]∧H a=some (.dK kvs)∧Q (.int kvs.length) H):=by
 intro pins s σ H xs us Q I r h
 obtain⟨a,kvs,rfl,ha,q⟩:=h
 obtain⟨u,rfl,ru⟩:=Xs r
 cases ru
 exact zbm I (.inl ha) fun t s' I'=>⟨.int kvs.length,H,I',⟨t,rfl⟩,q⟩
end
theorem zb1 {A B:Prop}(h:B):if false=true then A else B:=by
 rw[if_neg Bool.false_ne_true]
 exact h
theorem wa {A B:Prop}(h:A):if true=true then A else B:=by
 rw[if_pos rfl]
 exact h
theorem ite2 {c A B:Prop} [Decidable c] (h1:c→A) (h2:¬ c→B):if c then A else B:=by
 by_cases h:c
 ·rw[if_pos h]
  exact h1 h
 ·rw[if_neg h]
  exact h2 h
def Same (H H':Hp):Prop:=∀ b o,H b=some o→H' b=some o
theorem Same.refl (H:Hp):Same H H:=fun _ _ h=>h
theorem Same.trans {H H1 H2:Hp}(a:Same H H1) (b:Same H1 H2):Same H H2:=fun c o h=>b c o (a c o h)
theorem Same.free {H H':Hp}(e:Same H H'){l:Addr}(h:H' l=Option.none):H l=Option.none:=by
 cases q:H l with
 |none=>rfl
 |some o =>
  rw[e l o q] at h
  cases h
section
variable {κ:Type} [DecidableEq κ]
theorem uY {kvs:List (κ×V)}{k:κ}(h:yE kvs k=none):¬ k∈kvs.map (·.1):=by
 intro m
 obtain⟨p,hp,e⟩:=List.mem_map.mp m
 have q:(kvs.any fun kv=>decide (kv.1=k))=true:=List.any_eq_true.mpr ⟨p,hp,decide_eq_true e⟩
 rw[yM,h] at q
 exact absurd q (by simp)
end
end L2
set_option maxHeartbeats 4000000
namespace L2
open PySem PySem.Spec PyProof.Rows
def zau (t u:TS):TS:=fun D σ H=>∃ M:St→Hp→Prop,t { D with nx:=M } σ H∧∀ σ' H',M σ' H'→u D σ' H'
theorem yS {X:Cx}{st:Stmt}{rest:List Stmt}{t u:TS}(h1:Bx (PS X st t)) (h2:Bx (PSs X rest u)):Bx (PSs X (st::rest) (zau t u)):=by
 have h1:=h1.of
 have h2:=h2.of
 refine⟨?_⟩
 intro pins s σ H D I h
 obtain⟨M,h,hM⟩:=h
 refine wpAny_execs_cons (thn (h1 pins s σ H { D with nx:=M } I h) fun f s1 q=>?_)
 cases f with
 |next =>
  obtain⟨σ',H',I',q⟩:=q
  exact h2 pins s1 σ' H' D I' (hM σ' H' q)
 |brk=>exact q
 |cont=>exact q
 |ret u=>exact q
theorem iteB {c:Bool}{A B:Prop}(hc:c=true) (h:A):if c=true then A else B:=by rw[if_pos hc];exact h
theorem iteN {c:Bool}{A B:Prop}(hc:c=false) (h:B):if c=true then A else B:=by rw[hc];exact zb1 h
def PTs (X:Cx) (ifs:List Expr) (t:TT):Prop :=
 ∀ (pins:List (Addr×Obj)) (s:Shared) (σ:St) (H:Hp) (Q:Bool→Hp→Prop),Inv X pins σ H s→t σ H Q →
  wpAny (model X.prog X.w) X.A (forIn ifs true fun c r=>if r=true then do let ok ← isTrue c X.env (eval c X.env);pure (ForInStep.yield ok) else pure (ForInStep.yield r)) (TP X pins σ Q) X.xe s
def zat:TT:=fun _ H Q=>Q true H
theorem vE {τ:St}{H:Hp}{A B:Hp→Prop}(h:A H):zat τ H (fun b H5=>if b=true then A H5 else B H5):=by
 show if true=true then A H else B H
 exact wa h
theorem yk {X:Cx}:Bx (PTs X [] zat):=by
 exact⟨fun _ _ _ H _ I h=>wpAny_tests_nil ⟨H,I,h⟩⟩
theorem yF {X:Cx}{c:Expr}{t:TT}(h:Bx (PT X c t)):Bx (PTs X [c] t):=by
 have h:=h.of
 exact⟨fun pins s σ H Q I hw=>wpAny_tests_one (h pins s σ H Q I hw)⟩
section
variable {prog:Program}{w:World}{A:Around}{R:Result→Shared→Prop}{s:Shared}
abbrev NoE:Value→Shared→Prop:=fun _ _=>False
theorem zbj {α:Type}{m:Sem α}{Q:α→Shared→Prop}{E:Value→Shared→Prop}{s:Shared}(h:wpAny (model prog w) A m Q NoE s):wpAny (model prog w) A m Q E s :=
 wpAny_mono h (fun _ _ q=>q) fun _ _ z=>z.elim
def Xd (prog:Program) (w:World) (A:Around) (env:Env) (tg:Expr) (ifs:List Expr) (elt:Expr) (it acc:Value) (again:Shared→Prop) (v:Value) (s1:Shared):Prop :=
 wpAny (model prog w) A (letOwnedTupleGo tg it v) (fun _ s2=>wpAny (model prog w) A (assign tg env v) (fun _ s3 =>
  wpAny (model prog w) A (forIn ifs true fun c r=>if r=true then do let ok ← isTrue c env (eval c env);pure (ForInStep.yield ok) else pure (ForInStep.yield r)) (fun ok s4 =>
   if ok=true then wpAny (model prog w) A (eval elt env) (fun x s5=>wpAny (model prog w) A (call (.builtin "list.append") [acc,x]) (fun _ s6=>again s6) NoE s5) NoE s4
   else again s4) NoE s3) NoE s2) NoE s1
theorem ZN {elt tg iter:Expr}{ifs:List Expr}{scope:Scope}{pos:Pos}{it acc:Value}{env:Env}(J:Nat→Shared→Prop)
  (turn:∀ n s,J n s→wpAny (model prog w) A (pyNext it) (fun r s1=>match r with
   |none=>R (.ok .next) s1
   |some v=>Xd prog w A env tg ifs elt it acc (fun s6=>∃ m,m<n∧J m s6) v s1) NoE s)
  (n:Nat) (h:J n s):codeAny (model prog w) A (.compLoop (.ListComp elt [⟨tg,iter,ifs,0⟩] scope pos) 0 it acc env) R s:=by
 refine codeAny_loop rfl J (fun n s hJ=>?_) n h
 show wpAny _ A ((compTurn (.ListComp elt [⟨tg,iter,ifs,0⟩] scope pos) 0 it acc env).onRaise (fun x=>do noteFrame x env;theTreesLotGoes x)) _ _ s
 refine wpAny_noted (zbj ?_)
 rw[compTurn_list]
 refine wpAny_bind (wpAny_standAt (wpAny_bind (thn (turn n s hJ) fun r s1 h1=>?_)))
 cases r with
 |none=>exact wpAny_pure h1
 |some v =>
  refine wpAny_bind (thn h1 fun _ s2 h2=>wpAny_bind (thn h2 fun _ s3 h3=>wpAny_bind (thn h3 fun ok s4 h4=>?_)))
  cases ok with
  |false=>exact wpAny_pure ⟨rfl,h4⟩
  |true=>exact wpAny_bind (wpAny_bind (thn h4 fun x s5 h5=>wpAny_bind (thn h5 fun _ s6 h6=>wpAny_pure (wpAny_pure ⟨rfl,h6⟩))))
end
theorem uN {env:Env}:∀ (names:List (Str×NameKind)) (acc:List (Str×Addr)),(∀ y∈names,y.2=.free→∃ c,env.cells.lookup y.1=some c)→(∀ x c,acc.lookup x=some c→env.cells.lookup x=some c) →
  ∃ cl,(forIn names acc (fun(y:Str×NameKind) (cs:List (Str×Addr))=>(if (y.2 == NameKind.free)=true then(do let c ← cellOf env y.1;pure (ForInStep.yield ((y.1,c)::cs))) else pure (ForInStep.yield cs):Sem (ForInStep (List (Str×Addr))))))=(pure cl:Sem (List (Str×Addr))) ∧
   (∀ x c,cl.lookup x=some c→env.cells.lookup x=some c)∧(∀ x,(acc.lookup x).isSome=true→(cl.lookup x).isSome=true)∧(∀ y∈names,y.2=.free→(cl.lookup y.1).isSome=true)
 |[],acc,_,h2=>⟨acc,rfl,h2,fun _ h=>h,fun y hy=>by cases hy⟩
 |(n,k)::r,acc,h1,h2=>by
  have h1':∀ y∈r,y.2=.free→∃ c,env.cells.lookup y.1=some c:=fun y hy=>h1 y (List.mem_cons_of_mem _ hy)
  by_cases hk:k=.free
  ·subst hk
   obtain⟨c,hc⟩:=h1 (n,.free) List.mem_cons_self rfl
   have h2':∀ x c',(((n,c)::acc:List (Str×Addr)).lookup x)=some c'→env.cells.lookup x=some c':=fun x c' e=>by
    rw[List.lookup_cons] at e
    by_cases hx:(x == n)=true
    ·rw[hx] at e
     cases e
     rw[beq_iff_eq.mp hx]
     exact hc
    ·rw[Bool.not_eq_true] at hx
     rw[hx] at e
     exact h2 x c' e
   obtain⟨cl,e,p1,p2,p3⟩:=uN r ((n,c)::acc) h1' h2'
   refine⟨cl,?_,p1,fun x hx=>p2 x ?_,fun y hy hf=>?_⟩
   ·rw[List.forIn_cons]
    have q:cellOf env n=pure c:=by unfold cellOf;rw[hc]
    simp only[beq_self_eq_true,if_true,q,pure_bind]
    exact e
   ·rw[List.lookup_cons]
    cases q:x == n with
    |true=>rfl
    |false=>exact hx
   ·rcases List.mem_cons.mp hy with rfl | hy
    ·exact p2 n (by rw[List.lookup_cons,beq_self_eq_true];rfl)
    ·exact p3 y hy hf
  ·obtain⟨cl,e,p1,p2,p3⟩:=uN r acc h1' h2
   have hb:(k == NameKind.free)=false:=by simpa using hk
   refine⟨cl,?_,p1,p2,fun y hy hf=>?_⟩
   ·rw[List.forIn_cons]
    simp only[hb,Bool.false_eq_true,if_false,pure_bind]
    exact e
   ·rcases List.mem_cons.mp hy with rfl | hy
    ·exact absurd hf hk
    ·exact p3 y hy hf
structure Clos (env:Env) (scope:Scope) (cl:List (Str×Addr)):Prop where
 eq:closureFor scope env=pure cl
 sub:∀ x c,cl.lookup x=some c→env.cells.lookup x=some c
 all:∀ y∈scope.names,y.2=.free→(cl.lookup y.1).isSome=true
theorem Y9 {env:Env}{scope:Scope}(h:∀ y∈scope.names,y.2=.free→∃ c,env.cells.lookup y.1=some c):∃ cl,Clos env scope cl:=by
 obtain⟨cl,e,p1,p2,p3⟩:=uN (env:=env) scope.names [] h (fun x c z=>by simp at z)
 refine⟨cl,⟨?_,p1,p3⟩⟩
 have q:closureFor scope env=(forIn scope.names [] (fun(y:Str×NameKind) (cs:List (Str×Addr))=>(if (y.2 == NameKind.free)=true then(do let c ← cellOf env y.1;pure (ForInStep.yield ((y.1,c)::cs))) else pure (ForInStep.yield cs):Sem (ForInStep (List (Str×Addr))))) >>= fun s=>pure s):=rfl
 rw[q,e,pure_bind]
noncomputable abbrev xh (X:Cx) (scope:Scope) (N':List Str) (cl:List (Str×Addr)) (C:Addr) (s₀:Shared) (H₀:Hp) (fp:List Addr):Cx :=
 { X with N:=N',s₀:=s₀,H₀:=H₀,env:=compEnvC scope cl C X.env,outer:=X.stack,ex:=fp,fn:=fun _=>false,pn:=[],xe:=NoE }
structure Blk where
 cl:List (Str×Addr)
 C:Addr
 s₀:Shared
 H₀:Hp
 fp:List Addr
abbrev cxB (X:Cx) (scope:Scope) (N':List Str) (b:Blk):Cx:=xh X scope N' b.cl b.C b.s₀ b.H₀ b.fp
noncomputable def YQ:Option NameKind→Bool
 |some .cell=>true
 |some .free=>true
 |_=>false
theorem wj {k:Option NameKind}(h:YQ k=true):k=some .cell∨k=some .free:=by
 cases k with
 |none=>cases h
 |some k=>cases k<;>first | exact .inl rfl | exact .inr rfl | cases h
def Wl (N:List Str) (kd kd':Str→Option NameKind) (N':List Str) (t:Nat):List Nat→Nat→Bool
 |[],k=>N'.length == t+k
 |j::r,k=>(match N[j]?,N'[t+k]? with
  |some x,some y=>(x == y)&&YQ (kd x)&&YQ (kd' x)
  |_,_=>false)&&Wl N kd kd' N' t r (k+1)
theorem ud {N:List Str}{kd kd':Str→Option NameKind}{N':List Str}{t:Nat}:∀ {caps:List Nat}{k:Nat},Wl N kd kd' N' t caps k=true→N'.length=t+k+caps.length
 |[],k,h=>by
  have:=beq_iff_eq.mp h
  simpa using this
 |j::r,k,h=>by
  have:=ud (Bool.and_eq_true_iff.mp h).2
  rw[List.length_cons]
  omega
theorem Zw {N:List Str}{kd kd':Str→Option NameKind}{N':List Str}{t:Nat}:∀ {caps:List Nat}{k i j:Nat},Wl N kd kd' N' t caps k=true→caps[i]?=some j →
  ∃ x,N[j]?=some x∧N'[t+k+i]?=some x∧YQ (kd x)=true∧YQ (kd' x)=true
 |[],_,_,_,_,e=>by simp at e
 |j::r,k,0,j',h,e=>by
  simp at e
  subst e
  have h1:=(Bool.and_eq_true_iff.mp h).1
  cases q:N[j]? with
  |none=>rw[q] at h1;cases h1
  |some x =>
   cases q':N'[t+k]? with
   |none=>rw[q,q'] at h1;cases h1
   |some y =>
    rw[q,q'] at h1
    obtain⟨h2,h3⟩:=Bool.and_eq_true_iff.mp h1
    obtain⟨h4,h5⟩:=Bool.and_eq_true_iff.mp h2
    obtain rfl:x=y:=beq_iff_eq.mp h4
    exact⟨x,rfl,rfl,h5,h3⟩
 |j::r,k,i+1,j',h,e=>by
  obtain⟨x,a,b,c,d⟩:=Zw (i:=i) (Bool.and_eq_true_iff.mp h).2 (by simpa using e)
  refine⟨x,a,?_,c,d⟩
  have q:t+(k+1)+i=t+k+(i+1):=by omega
  rw[← q]
  exact b
structure CompOk (X:Cx) (scope:Scope) (N':List Str) (t:Nat) (caps:List Nat):Prop where
 kind:scope.kind=.function
 shape:(scope.names.all fun y=>(y.2 == .local&&scope.names.lookup y.1 == some .local)||(y.2 == .free&&YQ (X.env.kindOf y.1))||(y.2 == .globalImplicit))=true
 cap:Wl X.N X.env.kindOf (compEnvC scope [] 0 X.env).kindOf N' t caps 0=true
theorem CompOk.at {X:Cx}{scope:Scope}{N':List Str}{t:Nat}{caps:List Nat}(S:CompOk X scope N' t caps){y:Str×NameKind}(hy:y∈scope.names) :
  y.2≠.cell∧(y.2=.local→scope.names.lookup y.1=some .local)∧(y.2=.free→YQ (X.env.kindOf y.1)=true):=by
 have h:=List.all_eq_true.mp S.shape y hy
 obtain⟨n,k⟩:=y
 cases k<;>simp at h<;>simp[h]
def zai (t:Nat) (caps:List Nat) (σ:St):St:=List.replicate t none++caps.map fun j=>(σ[j]?).join
theorem xO {scope:Scope}{env:Env}{x:Str}:∀ {names:List (Str×NameKind)},(∀ y∈names,y.2≠.cell)→YQ ((names.map fun(y:Str×NameKind)=>if (y.2 == NameKind.free&&env.scope.kind == .function&&env.kindOf y.1 == some .cell)=true then(y.1,NameKind.cell) else(y.1,y.2)).lookup x)=true →
  (x,NameKind.free)∈names
 |[],_,h=>by simp[YQ] at h
 |(n,k)::r,hn,h=>by
  have hr:∀ y∈r,y.2≠.cell:=fun y hy=>hn y (List.mem_cons_of_mem _ hy)
  have hk:k≠.cell:=hn (n,k) List.mem_cons_self
  rw[List.map_cons] at h
  by_cases hx:(x == n)=true
  ·obtain rfl:x=n:=beq_iff_eq.mp hx
   have q:k=.free:=by
    by_cases hf:k=.free
    ·exact hf
    ·exfalso
     have hb:(k == NameKind.free)=false:=by simpa using hf
     simp only[hb,Bool.false_and,Bool.false_eq_true,if_false,List.lookup_cons,beq_self_eq_true] at h
     cases k<;>simp[YQ] at h hk hf
   subst q
   exact List.mem_cons_self
  ·rw[Bool.not_eq_true] at hx
   refine List.mem_cons_of_mem _ (xO (scope:=scope) (env:=env) hr ?_)
   by_cases hc:(k == NameKind.free&&env.scope.kind == .function&&env.kindOf n == some .cell)=true
   ·simp only[hc,if_true,List.lookup_cons,hx] at h
    exact h
   ·rw[Bool.not_eq_true] at hc
    simp only[hc,Bool.false_eq_true,if_false,List.lookup_cons,hx] at h
    exact h
def ZQ (J:It) (g:TG) (tc:TT) (te:TE) (Q:VK) (D:Addr) (τ0:St) (H0:Hp):Prop :=
 ∃ W:Nat→Nat→List V→St→Hp→Prop,(∃ m,W 0 m [] τ0 H0)∧∀ i m ys τ H,W i m ys τ H →
  (J.stop i H∧Q (.ref D) H)∨(J.go i H∧∃ N:List V→St→Hp→Prop,(∀ zs τ' H',N zs τ' H'→∃ m',m'<m∧W (i+1) m' zs τ' H')∧∀ x H3,J.yld i H x H3→g x τ H3 fun τ2 H4=>tc τ2 H4 fun b H5 =>
   if b=true then te τ2 H5 fun y H6=>H6 D=some (.lst ys)∧ys.length<sizeLine∧N (ys++[y]) τ2 (upd H6 D (.lst (ys++[y]))) else N ys τ2 H5)
def Uo (wi:TI) (g:Blk→TG) (tc:Blk→TT) (te:Blk→TE) (t:Nat) (caps:List Nat):TE:=fun σ H Q =>
 wi σ H fun J H1=>∀ D,H1 D=none→∀ b:Blk,ZQ J (g b) (tc b) (te b) Q D (zai t caps σ) (upd H1 D (.lst []))
theorem uM {J:It}{g:TG}{tc:TT}{te:TE}{Q:VK}{D:Addr}{τ0:St}{H0:Hp}(n:Nat) (Pv:Nat→List V→St→Hp→Prop) (h0:Pv 0 [] τ0 H0)
  (hst:∀ zs τ H,Pv n zs τ H→J.stop n H∧Q (.ref D) H)
  (hgo:∀ i zs τ H,i<n→Pv i zs τ H→J.go i H∧∀ x H3,J.yld i H x H3→g x τ H3 fun τ2 H4=>tc τ2 H4 fun b H5 =>
   if b=true then te τ2 H5 fun y H6=>H6 D=some (.lst zs)∧zs.length<sizeLine∧Pv (i+1) (zs++[y]) τ2 (upd H6 D (.lst (zs++[y]))) else Pv (i+1) zs τ2 H5):ZQ J g tc te Q D τ0 H0:=by
 refine⟨fun i m zs τ H=>m=n-i∧i≤n∧Pv i zs τ H,⟨n,by simp,Nat.zero_le _,h0⟩,?_⟩
 rintro i m zs τ H ⟨rfl,hi,p⟩
 by_cases hlt:i<n
 ·obtain⟨go,step⟩:=hgo i zs τ H hlt p
  exact .inr ⟨go,Pv (i+1),fun zs' τ' H' p'=>⟨n-(i+1),by omega,rfl,hlt,p'⟩,step⟩
 ·have e:i=n:=by omega
  subst e
  exact .inl (hst zs τ H p)
theorem ya {K:PySem.W.Frag}{a:Addr}{xs:List V}{g:TG}{tc:TT}{te:TE}{Q:VK}{D:Addr}{τ0:St}{H0:Hp}(Pv:Nat→List V→St→Hp→Prop) (h0:Pv 0 [] τ0 H0) (hl:∀ i zs τ H,Pv i zs τ H→SqL K H a xs)
  (hs:∀ i x zs τ H,xs[i]?=some x→Pv i zs τ H→g x τ H fun τ2 H4=>tc τ2 H4 fun b H5 =>
   if b=true then te τ2 H5 fun y H6=>H6 D=some (.lst zs)∧zs.length<sizeLine∧Pv (i+1) (zs++[y]) τ2 (upd H6 D (.lst (zs++[y]))) else Pv (i+1) zs τ2 H5)
  (hd:∀ zs τ H,Pv xs.length zs τ H→Q (.ref D) H):ZQ (Itl K a) g tc te Q D τ0 H0 :=
 uM xs.length Pv h0 (fun zs τ H p=>⟨⟨xs,hl _ _ _ _ p,Nat.le_refl _⟩,hd zs τ H p⟩) fun i zs τ H hi p=>⟨⟨xs,xs[i],hl _ _ _ _ p,by simp[hi]⟩,fun x H3 y=>by
  obtain⟨e,y⟩:=y
  subst e
  exact hs i x zs τ _ (y xs (hl _ _ _ _ p)) p⟩
theorem Wj {K:PySem.W.Frag}{a:Addr}{xs:List V}{g:TG}{tc:TT}{te:TE}{Q:VK}{D:Addr}{τ0:St}{H0:Hp}(Pv:Nat→List V→St→Hp→Prop) (h0:Pv 0 [] τ0 H0) (hl:∀ i zs τ H,Pv i zs τ H→SqT K H a xs)
  (hs:∀ i x zs τ H,xs[i]?=some x→Pv i zs τ H→g x τ H fun τ2 H4=>tc τ2 H4 fun b H5 =>
   if b=true then te τ2 H5 fun y H6=>H6 D=some (.lst zs)∧zs.length<sizeLine∧Pv (i+1) (zs++[y]) τ2 (upd H6 D (.lst (zs++[y]))) else Pv (i+1) zs τ2 H5)
  (hd:∀ zs τ H,Pv xs.length zs τ H→Q (.ref D) H):ZQ (Itt K a) g tc te Q D τ0 H0 :=
 uM xs.length Pv h0 (fun zs τ H p=>⟨⟨xs,hl _ _ _ _ p,Nat.le_refl _⟩,hd zs τ H p⟩) fun i zs τ H hi p=>⟨⟨xs,xs[i],hl _ _ _ _ p,by simp[hi]⟩,fun x H3 y=>by
  obtain⟨e,y⟩:=y
  subst e
  exact hs i x zs τ _ (y xs (hl _ _ _ _ p)) p⟩
section
variable {X:Cx}{tg iter elt:Expr}{ifs:List Expr}{scope:Scope}{pos:Pos}{N':List Str}{t:Nat}{caps:List Nat}{g:Blk→TG}{tc:Blk→TT}{te:Blk→TE}{wi:TI}
theorem FpOk.heap {pins:List (Addr×Obj)}{H H':Hp}{b:Addr}(f:FpOk X pins H b) (h:H' b=none):FpOk X pins H' b:=⟨h,f.2⟩
theorem ub {cl:List (Str×Addr)}{J:It}{fp:List Addr}{it:Addr}{tn:Nat→Heap→Prop}{pins:List (Addr×Obj)}{σ:St}{H2:Hp}{s2:Shared}{Q:VK}{E:Value→Shared→Prop}
  (hc:X.calm=true) (S:CompOk X scope N' t caps) (L:Clos X.env scope cl)
  (hg:∀ b,PG (cxB X scope N' b) tg (g b)) (ht:∀ b,PTs (cxB X scope N' b) ifs (tc b)) (he:∀ b,PE (cxB X scope N' b) elt (te b))
  (I2:Inv X pins σ H2 s2) (T:Turn X.prog X.w X.K tg J fp it tn) (st2:tn 0 s2.heap) (f2:∀ b∈fp,FpOk X pins H2 b)
  (R:∀ D,H2 D=none→∀ b,ZQ J (g b) (tc b) (te b) Q D (zai t caps σ) (upd H2 D (.lst []))) :
  wpAny (model X.prog X.w) X.A (newList []) (fun acc s3=>wpAny (model X.prog X.w) X.A (newFunctionEnv scope X.env.globals cl [] X.env.qual none .none (some X.env)) (fun cenv s4 =>
   codeAny (model X.prog X.w) X.A (.compStart (.ListComp elt [⟨tg,iter,ifs,0⟩] scope pos) 0 (.ref it) acc { cenv with scope:=relabel scope X.env })
    (fun r s'=>∃ (D:Addr) (H':Hp) (m:Str→Option Value),acc=.ref D∧r=.ok .next∧Inv X pins σ H' s'∧s'.heap.Ns cenv.locals m∧FpOk X pins H' cenv.locals∧Q (.ref D) H') s4) E s3) E s2:=by
 refine wpAny_newObj_type ?_
 have I3:Inv X pins σ (upd H2 s2.heap.objs.size (.lst [])) { s2 with heap:=s2.heap.push { cls:=.type "list",data:=.seq ([]:List Value).toArray } }:=I2.lnew (t':=s2.toks) .nil (Nat.zero_le _)
 have hD:H2 s2.heap.objs.size=none:=I2.fresh
 have R:=R _ hD
 generalize hs3:({ s2 with heap:=s2.heap.push { cls:=.type "list",data:=.seq ([]:List Value).toArray } }:Shared)=s3 at I3 ⊢
 generalize hH3:upd H2 s2.heap.objs.size (.lst [])=H3 at I3 R
 generalize hDD:s2.heap.objs.size=D at R ⊢
 have k3:∀ b o,s2.heap.get? b=some o→s3.heap.get? b=some o:=fun b o e=>by rw[← hs3];exact Heap.get?_push_of_some _ e
 have st3:tn 0 s3.heap:=T.keep 0 _ _ st2 fun b _ o e=>k3 b o e
 have fpn:∀ b∈fp,H3 b=none:=fun b hb=>by
  obtain⟨o,e,_⟩:=T.obj 0 _ st2 b hb
  rw[← hH3,upd_ne (Nat.ne_of_lt (Heap.lt_size e))]
  exact(f2 b hb).1
 have f3:∀ b∈fp,FpOk X pins H3 b:=fun b hb=>(f2 b hb).heap (fpn b hb)
 refine wpAny_newFunctionEnv (fun y hy=>(S.at hy).1) (by intro y hy;simp at hy) (fun h4 hns hsb=>?_) S.kind
 generalize hC:s3.heap.objs.size=C at hns hsb ⊢
 have k4:∀ b o,s3.heap.get? b=some o→h4.get? b=some o:=fun b o e=>hsb.extBut b o (by rw[← hC];exact Nat.ne_of_lt (Heap.lt_size e)) (Heap.get?_push_of_some _ e)
 have cellsub:∀ x c,(xh X scope N' cl C s3 H3 fp).env.cells.lookup x=some c→X.env.cells.lookup x=some c:=L.sub
 have hnc:∀ y∈scope.names,y.2≠.cell:=fun y hy=>(S.at hy).1
 have fC:∀ {H':Hp},H' C=none→FpOk X pins H' C:=fun h=>by rw[← hC] at h ⊢;exact I3.fpOk (Nat.le_refl _) h
 have I4:Inv (xh X scope N' cl C s3 H3 fp) [] (zai t caps σ) H3 { s3 with heap:=h4,toks:=s3.toks+([]:List (Str×Value)).length }:=by
  refine⟨⟨I3.ok.mod,S.kind,I3.ok.glob,I3.ok.blt,Nat.le_of_eq hC,fun x y c h1 h2=>I3.ok.inj x y c (L.sub _ _ h1) (L.sub _ _ h2),fun x hx=>?_,fun x c h _=>absurd (show false=true from h) Bool.false_ne_true,I3.ok.hd,I3.ok.frames,.inl rfl,fun b hb=>⟨?_,fun x c e=>(f3 b hb).2.2.2.2.1 x c (L.sub x c e)⟩,
    I3.bs,Nat.le_trans I3.ok.bsz I3.sz,fun b o e hb=>?_,fun b hb z=>?_,I3.stack,I3.stkFree⟩,
   rfl,I3.bare,Un.kept k4,⟨_,hns,fun i x v e1 e2 e3=>?_⟩,fun x c e=>?_,(by rw[← hC];exact I3.fresh),fun x c e=>I3.freeC x c (L.sub x c e),fun p hp=>?_,I3.hok.kept k4,?_⟩
  ·have hx':YQ ((relabel scope X.env).names.lookup x)=true:=by
    rcases hx with q | q
    ·rw[show(relabel scope X.env).names.lookup x=some .cell from q];rfl
    ·rw[show(relabel scope X.env).names.lookup x=some .free from q];rfl
   exact Option.isSome_iff_exists.mp (L.all _ (xO (scope:=scope) hnc hx') rfl)
  ·obtain⟨o,e,_⟩:=T.obj 0 _ st3 b hb
   rw[← hC]
   exact Nat.ne_of_lt (Heap.lt_size e)
  ·rcases(f3 b hb).2.2.2.1 with z | z
   ·exact I3.ok.noex b o e z
   ·exact absurd (Nat.lt_of_lt_of_le (Nat.lt_of_lt_of_le (Heap.lt_size e) I3.ok.bsz) z) (Nat.lt_irrefl _)
  ·rcases List.mem_cons.mp (I3.stkSub b z) with q | q
   ·exact(f3 b hb).2.1 q
   ·exact(f3 b hb).2.2.1 q
  ·-- a name that was taken over
   unfold zai at e2
   by_cases hi:i<t
   ·rw[List.getElem?_append_left (by simpa using hi),List.getElem?_replicate] at e2
    simp[hi] at e2
   ·rw[List.getElem?_append_right (by simpa using hi),List.length_replicate,List.getElem?_map] at e2
    cases q:caps[i-t]? with
    |none=>rw[q] at e2;simp at e2
    |some j =>
     rw[q] at e2
     obtain⟨y,c1,c2,c3,c4⟩:=Zw S.cap q
     have ei:t+0+(i-t)=i:=by omega
     rw[ei] at c2
     have exy:x=y:=Option.some.inj ((show N'[i]?=some x from e1).symm.trans c2)
     subst exy
     have e2':σ[j]?=some (some v):=by
      have e2:(σ[j]?).join=some v:=Option.some.inj e2
      cases r:σ[j]? with
      |none=>rw[r] at e2;cases e2
      |some z =>
       rw[r] at e2
       have e2:z=some v:=e2
       rw[e2]
     obtain⟨m,hn,hl⟩:=I3.loc
     have cf:=wj c3
     obtain⟨u,ru,lk⟩:=hl j x v c1 e2' (.inr (by
      rcases cf with z | z
      ·exact .inl z
      ·exact .inr z))
     refine⟨u,ru,.inr ⟨wj c4,?_⟩⟩
     rcases lk with⟨z,_⟩ | ⟨_,c,ec,zc⟩
     ·rcases cf with w | w<;>(rw[z] at w;cases w)
     ·have hfree:=xO (scope:=scope) (env:=X.env) (x:=x) hnc c4
      obtain⟨c',ec'⟩:=Option.isSome_iff_exists.mp (L.all _ hfree rfl)
      have:=L.sub _ _ ec'
      rw[show X.env.cells.lookup x=some c from ec] at this
      cases this
      obtain⟨o,ho,hd⟩:=zc
      exact⟨c,ec',o,k4 _ _ ho,hd⟩
  ·obtain⟨v,o,ho,hd⟩:=I3.cell x c (L.sub x c e)
   exact⟨v,o,k4 _ _ ho,hd⟩
  ·exact absurd (show p∈([]:List (Addr×Obj)) from hp) (by simp)
  ·unfold zai
   rw[List.length_append,List.length_replicate,List.length_map,ud S.cap]
   omega
 obtain⟨W,⟨m0,w0⟩,turn⟩:=R ⟨cl,C,s3,H3,fp⟩
 -- back to the frame outside
 have back:∀ {τ:St}{H':Hp}{s':Shared},Inv (xh X scope N' cl C s3 H3 fp) [] τ H' s'→Inv X pins σ H' s':=fun {τ H' s'} J=>by
  refine I3.call' (ch:=fp) (J.os.trans ?_) J.base J.hok J.bare fun b hb=>⟨(f3 b hb).2.2.2.1,(f3 b hb).2.1,(f3 b hb).2.2.2.2.1,(f3 b hb).2.2.2.2.2⟩
  rfl
 have stat:∀ {H':Hp},(∀ b∈fp,H' b=none)→∀ b∈fp,FpOk (xh X scope N' cl C s3 H3 fp) [] H' b:=fun {H'} hn b hb=>by
  refine⟨hn b hb,(I4.ok.exf b hb).1,I4.ok.exfs b hb,.inl hb,(I4.ok.exf b hb).2,fun p hp=>?_⟩
  exact absurd (show p∈([]:List (Addr×Obj)) from hp) (by simp)
 have loop:codeAny (model X.prog X.w) X.A (.compLoop (.ListComp elt [⟨tg,iter,ifs,0⟩] scope pos) 0 (.ref it) (.ref D) (compEnvC scope cl C X.env))
   (fun r s'=>∃ (D':Addr) (H':Hp) (m:Str→Option Value),Value.ref D=.ref D'∧r=.ok .next∧Inv X pins σ H' s'∧s'.heap.Ns C m∧FpOk X pins H' C∧Q (.ref D') H') { s3 with heap:=h4,toks:=s3.toks+([]:List (Str×Value)).length }:=by
  refine ZN (fun n s'=>∃ i ys τ H',Inv (xh X scope N' cl C s3 H3 fp) [] τ H' s'∧tn i s'.heap∧(∀ b∈fp,H' b=none)∧W i n ys τ H') ?_ m0 ⟨0,[],_,H3,I4,T.keep 0 _ _ st3 fun b _ o e=>k4 b o e,fpn,w0⟩
  rintro n s5 ⟨i,ys,τ,H5,I5,st5,fr5,w5⟩
  rcases turn i n ys τ H5 w5 with⟨stop,q⟩ | ⟨go,N,hN,step⟩
  ·refine thn (T.done (xh X scope N' cl C s3 H3 fp) rfl rfl rfl hc i [] s5 τ H5 NoE I5 (stat fr5) st5 stop) fun r s6 ⟨hr,I6⟩=>?_
   subst hr
   obtain⟨m,hm,_⟩:=id I6.loc
   exact⟨D,H5,m,rfl,rfl,back I6,hm,fC I6.free,q⟩
  ·refine thn (T.item (xh X scope N' cl C s3 H3 fp) rfl rfl rfl hc i [] s5 τ H5 NoE I5 (stat fr5) st5 go) fun r s6 ⟨u,hr,h6⟩=>?_
   subst hr
   refine thn h6 fun _ s7 hq0=>?_
   obtain⟨x,H7,I7,r7,y7,st7,fr7⟩:=hq0
   have I7':=I7.pinned (stat fr7) (T.obj _ _ st7)
   have again:∀ {τ9:St}{H9:Hp}{s9:Shared}{ys9:List V}{m':Nat},Inv (xh X scope N' cl C s3 H3 fp) ([]++vW fp s7.heap) τ9 H9 s9→m'<n→W (i+1) m' ys9 τ9 H9 →
     ∃ m,m<n∧∃ i ys τ H',Inv (xh X scope N' cl C s3 H3 fp) [] τ H' s9∧tn i s9.heap∧(∀ b∈fp,H' b=none)∧W i m ys τ H':=fun {τ9 H9 s9 ys9 m'} I9 hm w9=>by
    refine⟨m',hm,i+1,ys9,τ9,H9,I9.unpinned,T.keep _ _ _ st7 fun b hb o e=>(I9.pin (b,o) (List.mem_append_right _ (List.mem_append_right _ (y8 hb e)))).1,fun b hb=>?_,w9⟩
    obtain⟨o,e,_⟩:=T.obj _ _ st7 b hb
    exact(I9.pin (b,o) (List.mem_append_right _ (List.mem_append_right _ (y8 hb e)))).2.1
   refine thn (hg ⟨cl,C,s3,H3,fp⟩ _ s7 τ H7 x u _ I7' r7 (step x H7 y7)) fun _ s8 hq0=>?_
   obtain⟨τ8,H8,I8,q8⟩:=hq0
   refine thn (ht ⟨cl,C,s3,H3,fp⟩ _ s8 τ8 H8 _ I8 q8) fun ok s9 hq0=>?_
   obtain⟨H9,I9,q9⟩:=hq0
   cases ok with
   |false =>
    obtain⟨m',hm,w9⟩:=hN _ _ _ (show N ys τ8 H9 from q9)
    exact again I9 hm w9
   |true =>
    refine thn (he ⟨cl,C,s3,H3,fp⟩ _ s9 τ8 H9 _ I9 q9) fun y s10 hq0=>?_
    obtain⟨z,H10,I10,r10,hl,hz,q10⟩:=hq0
    refine thn (zU _ s10 τ8 H10 (.ref D) [z] (.ref D) [y] (fun v H11=>v=.non∧H11=upd H10 D (.lst (ys++[z]))) I10 rfl (.cons r10 .nil) ⟨D,ys,z,rfl,rfl,hl,hz,rfl,rfl⟩) fun _ s11 hq0=>?_
    obtain⟨v,H11,I11,_,_,e11⟩:=hq0
    subst e11
    obtain⟨m',hm,w10⟩:=hN _ _ _ q10
    exact again I11 hm w10
 exact codeAny_compStart_list loop (T.self _ 0 _ _ _ (T.keep 0 _ _ st3 fun b _ o e=>k4 b o e) loop)
theorem yd (hc:X.calm=true) (S:CompOk X scope N' t caps) (hi:Bx (PI X tg iter wi)) (hg:∀ b,Bx (PG (cxB X scope N' b) tg (g b))) (ht:∀ b,Bx (PTs (cxB X scope N' b) ifs (tc b))) (he:∀ b,Bx (PE (cxB X scope N' b) elt (te b))) (hs:∀ x,foldedSetIterable iter X.env x=pure x:=by intro _;rfl):Bx (PE X (.ListComp elt [⟨tg,iter,ifs,0⟩] scope pos) (Uo wi g tc te t caps)):=by
 have hi:=hi.of
 have hg:=fun x0=>(hg x0).of
 have ht:=fun x0=>(ht x0).of
 have he:=fun x0=>(he x0).of
 refine⟨?_⟩
 intro pins s σ H Q I h
 obtain⟨cl,L⟩:=Y9 (env:=X.env) (scope:=scope) fun y hy hf=>I.ok.has y.1 (wj ((S.at hy).2.2 hf))
 rw[eval_ListComp]
 refine wpAny_comprehension_free (use:=none) rfl hs L.eq S.kind (fun y hy=>(S.at hy).2.1) (thn (hi pins s σ H _ I h) fun x s1 h1=>thn h1 fun itv s2 h2=>?_)
 obtain⟨it,fp,tn,J,H2,rfl,I2,T,st2,f2,R⟩:=h2
 refine thn (ub hc S L hg ht he I2 T st2 f2 R) fun acc s3 h3=>thn h3 fun cenv s4 h4=>codeAny_mono h4 fun r s' hr=>?_
 obtain⟨D,H',m,rfl,rfl,I',hm,fC,q⟩:=hr
 obtain⟨c0,c1,c2,c3,c4,c5⟩:=fC
 exact⟨m,hm,fun h' sb=>⟨.ref D,H',I'.turned (t':=s'.toks) (fun b o hb e=>sb.extBut b o hb e) c0 c1 c3 c4 c5,rfl,q⟩⟩
theorem yC {i:Nat}{y:Str}{py spos:Pos}(hc:X.calm=true) (hN:X.N.Nodup) (hiy:X.N[i]?=some y) (hy:Loc X.env.scope y) (S:CompOk X scope N' t caps) (hi:Bx (PI X tg iter wi)) (hg:∀ b,Bx (PG (cxB X scope N' b) tg (g b))) (ht:∀ b,Bx (PTs (cxB X scope N' b) ifs (tc b))) (he:∀ b,Bx (PE (cxB X scope N' b) elt (te b))) (hsw:swapsWith (.ListComp elt [⟨tg,iter,ifs,0⟩] scope pos) (some (.Name y py)) spos.line X.env=pure true:=by rfl) (hs:∀ x,foldedSetIterable iter X.env x=pure x:=by intro _;rfl) (hf:X.fn y=true∨X.env.scope.names.lookup y=some .local:=by first | exact .inl rfl | exact .inr rfl | assumption):Bx (PS X (.Assign [.Name y py] (.ListComp elt [⟨tg,iter,ifs,0⟩] scope pos) spos) (zaB (Uo wi g tc te t caps) (v9 i))):=by
 have hi:=hi.of
 have hg:=fun x0=>(hg x0).of
 have ht:=fun x0=>(ht x0).of
 have he:=fun x0=>(he x0).of
 refine⟨?_⟩
 intro pins s σ H D' I h
 obtain⟨cl,L⟩:=Y9 (env:=X.env) (scope:=scope) fun y hy hf=>I.ok.has y.1 (wj ((S.at hy).2.2 hf))
 rw[exec_Assign_Name_used _ _ _ _ hsw]
 refine wpAny_bind (wpAny_standAt (wpAny_bind ?_))
 show wpAny _ X.A (comprehension (.ListComp elt [⟨tg,iter,ifs,0⟩] scope pos) scope X.env _ (newList []) false (eval iter X.env) (some (assign (.Name y py) X.env)) >>= fun _=>pure ()) _ _ s
 refine wpAny_bind (thn (Q:=fun _ s'=>SP X pins D' .next s') ?_ fun _ s' hq=>wpAny_pure (wpAny_pure hq))
 refine wpAny_comprehension_free (use:=some (assign (.Name y py) X.env)) rfl hs L.eq S.kind (fun y hy=>(S.at hy).2.1) (thn (hi pins s σ H _ I h) fun x s1 h1=>thn h1 fun itv s2 h2=>?_)
 obtain⟨it,fp,tn,J,H2,rfl,I2,T,st2,f2,R⟩:=h2
 refine thn (ub hc S L hg ht he I2 T st2 f2 R) fun acc s3 h3=>thn h3 fun cenv s4 h4=>codeAny_mono h4 fun r s' hr=>?_
 obtain⟨D,H',m,rfl,rfl,I',hm,fC,q⟩:=hr
 obtain⟨c0,c1,c2,c3,c4,c5⟩:=fC
 show wpAny _ X.A (assign (.Name y py) X.env (.ref D)) _ _ _
 refine wpAny_assign_Name (vP I' hN hiy hy (show RelV (.ref D) (.ref D) from rfl) (fun s'' I'' hq0=>?_) hf)
 obtain⟨a,sb,ha⟩:=hq0
 have hne:cenv.locals≠a:=by
  rcases ha with z | z
  ·rw[z];exact c1
  ·exact fun z'=>c4 y a z z'.symm
 refine⟨m,hm.sameBut sb hne,fun h' sb'=>?_⟩
 exact⟨_,H',I''.turned (t':=s''.toks) (fun b o hb e=>sb'.extBut b o hb e) c0 c1 c3 c4 c5,q⟩
end
def zbs (i j:Int):Prop:=0<j∧j.natAbs.log2<9000
section
variable {X:Cx}
theorem vv:OpR X (binaryOp .FloorDiv) (rI zbs fun i j=>.int (i/j)):=opI fun i j _ _ _ _ _ hc q=>by
 have e:i.fdiv j=i/j:=Int.fdiv_eq_ediv_of_nonneg i (Int.le_of_lt hc.1)
 exact floordiv_int (Ne.symm (Int.ne_of_lt hc.1)) (by rw[e];exact q) (.inl (PyProof.noPylong_of_log2 hc.2))
noncomputable def zbo:V→Option Value
 |.ty n=>some (.type n)
 |.ref a=>some (.ref a)
 |_=>none
theorem Wk {c:V}{cv u:Value}(h:zbo c=some cv) (r:RelV c u):u=cv:=by
 cases c<;>simp[zbo] at h
 ·exact(show u=Value.ref _ from r).trans h
 ·exact(show u=Value.type _ from r).trans h
def zcj (K:PySem.W.Frag):List V→Hp→VK→Prop:=fun xs H Q=>∃ x c t cv b,xs=[x,c]∧zbo c=some cv∧TyOf K H x t∧PySem.W.kitOne K t cv=some b∧Q (.bl b) H
theorem zY:xr X (.builtin "isinstance") (zcj X.K):=by
 intro pins s σ H xs us Q I r h
 obtain⟨x,c,t,cv,b,rfl,hc,ty,e,q⟩:=h
 obtain⟨u,v,rfl,r1,r2⟩:=r.two
 obtain rfl:=Wk hc r2
 exact YO I r1 ty e fun tk=>⟨.bl b,H,I.tok tk,rfl,q⟩
inductive EqD (K:PySem.W.Frag) (H:Hp):V→V→Bool→Nat→Prop where
 |flat {x y:V}{n:Nat}(fx:wG x=true) (fy:wG y=true):EqD K H x y (eqV x y) n
 |same {a:Addr}{n:Nat}:EqD K H (.ref a) (.ref a) true n
 |lst {a b:Addr}{xs ys:List V}{e:Nat→Bool}{n:Nat}(hne:a≠b) (ha:SqL K H a xs) (hb:SqL K H b ys) (hl:xs.length=ys.length) (h:∀ (j:Nat) x y,xs[j]?=some x→ys[j]?=some y→EqD K H x y (e j) n) :
   EqD K H (.ref a) (.ref b) ((List.range xs.length).all e) (n+1)
 |tup {a b:Addr}{xs ys:List V}{e:Nat→Bool}{n:Nat}(hne:a≠b) (ha:SqT K H a xs) (hb:SqT K H b ys) (hl:xs.length=ys.length) (h:∀ (j:Nat) x y,xs[j]?=some x→ys[j]?=some y→EqD K H x y (e j) n) :
   EqD K H (.ref a) (.ref b) ((List.range xs.length).all e) (n+1)
theorem yg (A:Around):A.in1.units=A.units+1:=rfl
theorem EqD.at {pins:List (Addr×Obj)}{σ:St}{H:Hp}{s:Shared}{x y:V}{b:Bool}{n:Nat}(I:Inv X pins σ H s) (h:EqD X.K H x y b n) :
  ∀ (A:Around) (u v:Value),A.units+n<cLine→RelV x u→RelV y v→SeqAt.EqAt A s u v b:=by
 induction h with
 |flat fx fy=>intro A u v _ rx ry;exact eqAt_V rx ry fx fy
 |same=>intro A u v _ rx ry;cases rx;cases ry;exact SeqAt.EqAt.same _
 | @lst a b xs ys e n hne ha hb hl h ih =>
  intro A u v hu rx ry
  cases rx;cases ry
  obtain⟨i1,r1,p1,_⟩:=I.list ha
  obtain⟨i2,r2,p2,_⟩:=I.list hb
  have l1:=r1.length
  have l2:=r2.length
  refine SeqAt.EqAt.of_refs hne ?_
  have q:=SeqAt.RcAt.lists (A:=A) (s:=s) (e:=e) p1.isList p2.isList (by simp;omega) (by omega) (fun j h1 h2=>?_)
  ·rw[List.size_toArray,← l1] at q
   exact q
  ·have g1:j<xs.length:=by rw[l1];simpa using h1
   have g2:j<ys.length:=by rw[l2];simpa using h2
   obtain⟨u1,e1,q1⟩:=r1.get (i:=j) (x:=xs[j]) (by simp[g1])
   obtain⟨u2,e2,q2⟩:=r2.get (i:=j) (x:=ys[j]) (by simp[g2])
   have f1:i1.toArray[j]=u1:=by
    have:=List.getElem?_eq_some_iff.mp e1
    obtain⟨_,z⟩:=this
    simpa using z
   have f2:i2.toArray[j]=u2:=by
    have:=List.getElem?_eq_some_iff.mp e2
    obtain⟨_,z⟩:=this
    simpa using z
   rw[f1,f2]
   exact ih j _ _ (by simp[g1]) (by simp[g2]) A.in1 u1 u2 (by rw[yg];omega) q1 q2
 | @tup a b xs ys e n hne ha hb hl h ih =>
  intro A u v hu rx ry
  cases rx;cases ry
  obtain⟨i1,r1,p1,_⟩:=I.tuple ha
  obtain⟨i2,r2,p2,_⟩:=I.tuple hb
  have l1:=r1.length
  have l2:=r2.length
  refine SeqAt.EqAt.of_refs hne ?_
  have q:=SeqAt.RcAt.tuples (A:=A) (s:=s) (e:=e) (show s.heap.IsTuple a i1.toArray from p1) (show s.heap.IsTuple b i2.toArray from p2) (by omega) (fun j h1 h2=>?_)
  ·have z:i1.toArray.size=i2.toArray.size:=by simp;omega
   rw[← z,Nat.min_self,beq_self_eq_true,Bool.and_true,List.size_toArray,← l1] at q
   exact q
  ·have g1:j<xs.length:=by rw[l1];simpa using h1
   have g2:j<ys.length:=by rw[l2];simpa using h2
   obtain⟨u1,e1,q1⟩:=r1.get (i:=j) (x:=xs[j]) (by simp[g1])
   obtain⟨u2,e2,q2⟩:=r2.get (i:=j) (x:=ys[j]) (by simp[g2])
   have f1:i1.toArray[j]=u1:=by
    have:=List.getElem?_eq_some_iff.mp e1
    obtain⟨_,z⟩:=this
    simpa using z
   have f2:i2.toArray[j]=u2:=by
    have:=List.getElem?_eq_some_iff.mp e2
    obtain⟨_,z⟩:=this
    simpa using z
   rw[f1,f2]
   exact ih j _ _ (by simp[g1]) (by simp[g2]) A.in1 u1 u2 (by rw[yg];omega) q1 q2
def zaR (K:PySem.W.Frag) (A:Around) (neg:Bool):R2:=fun x y H Q=>∃ (a b:Addr) (xs ys:List V) (e:Nat→Bool) (n:Nat),x=.ref a∧y=.ref b∧((SqL K H a xs∧SqL K H b ys)∨(SqT K H a xs∧SqT K H b ys))∧xs.length=ys.length ∧
 A.units+n+2<cLine∧(∀ (j:Nat) x y,xs[j]?=some x→ys[j]?=some y→EqD K H x y (e j) n)∧Q (.bl (if neg then !(List.range xs.length).all e else(List.range xs.length).all e)) H
theorem wg {pins:List (Addr×Obj)}{σ:St}{H:Hp}{s:Shared}{A:Around}{xs ys:List V}{i1 i2:List Value}{e:Nat→Bool}{n:Nat}(I:Inv X pins σ H s) (r1:Vals xs i1) (r2:Vals ys i2) (hu:A.units+n+2<cLine)
  (h:∀ (j:Nat) x y,xs[j]?=some x→ys[j]?=some y→EqD X.K H x y (e j) n):∀ (j:Nat) (h1:j<i1.toArray.size) (h2:j<i2.toArray.size),SeqAt.EqAt A.in1 s i1.toArray[j] i2.toArray[j] (e j):=fun j h1 h2=>by
 have g1:j<xs.length:=by rw[r1.length];simpa using h1
 have g2:j<ys.length:=by rw[r2.length];simpa using h2
 obtain⟨u1,e1,q1⟩:=r1.get (i:=j) (x:=xs[j]) (by simp[g1])
 obtain⟨u2,e2,q2⟩:=r2.get (i:=j) (x:=ys[j]) (by simp[g2])
 have f1:i1.toArray[j]=u1:=by
  obtain⟨_,z⟩:=List.getElem?_eq_some_iff.mp e1
  simpa using z
 have f2:i2.toArray[j]=u2:=by
  obtain⟨_,z⟩:=List.getElem?_eq_some_iff.mp e2
  simpa using z
 rw[f1,f2]
 exact(h j _ _ (by simp[g1]) (by simp[g2])).at I A.in1 u1 u2 (by rw[yg];omega) q1 q2
theorem WJ:OpR X (compareOp .Eq) (zaR X.K X.A false):=by
 intro pins s σ H x y v u Q I rx ry h
 obtain⟨a,b,xs,ys,e,n,rfl,rfl,hq,hl,hu,hi,q⟩:=h
 cases rx;cases ry
 rcases hq with⟨h1,h2⟩ | ⟨h1,h2⟩
 ·obtain⟨i1,r1,p1,_⟩:=I.list h1
  obtain⟨i2,r2,p2,_⟩:=I.list h2
  refine SeqAt.eq_listAt p1.isList p2.isList (by simp;rw[← r1.length,← r2.length,hl]) (by omega) (wg I r1 r2 hu hi) ⟨.bl _,H,I,rfl,?_⟩
  rw[List.size_toArray,← r1.length]
  exact q
 ·obtain⟨i1,r1,p1,_⟩:=I.tuple h1
  obtain⟨i2,r2,p2,_⟩:=I.tuple h2
  have z:i1.toArray.size=i2.toArray.size:=by simp;rw[← r1.length,← r2.length,hl]
  refine SeqAt.eq_tupleAt (show s.heap.IsTuple a i1.toArray from p1) (show s.heap.IsTuple b i2.toArray from p2) (by omega) (wg I r1 r2 hu hi) ⟨.bl _,H,I,rfl,?_⟩
  rw[← z,Nat.min_self,beq_self_eq_true,Bool.and_true,List.size_toArray,← r1.length]
  exact q
theorem WH:OpR X (compareOp .NotEq) (zaR X.K X.A true):=by
 intro pins s σ H x y v u Q I rx ry h
 obtain⟨a,b,xs,ys,e,n,rfl,rfl,hq,hl,hu,hi,q⟩:=h
 cases rx;cases ry
 rcases hq with⟨h1,h2⟩ | ⟨h1,h2⟩
 ·obtain⟨i1,r1,p1,_⟩:=I.list h1
  obtain⟨i2,r2,p2,_⟩:=I.list h2
  refine SeqAt.RcNeAt.lists p1.isList p2.isList (by simp;rw[← r1.length,← r2.length,hl]) (by omega) (wg I r1 r2 hu hi) _ _ _ _ ⟨.bl _,H,I,rfl,?_⟩
  rw[List.size_toArray,← r1.length]
  exact q
 ·obtain⟨i1,r1,p1,_⟩:=I.tuple h1
  obtain⟨i2,r2,p2,_⟩:=I.tuple h2
  have z:i1.toArray.size=i2.toArray.size:=by simp;rw[← r1.length,← r2.length,hl]
  refine SeqAt.RcNeAt.tuples (show s.heap.IsTuple a i1.toArray from p1) (show s.heap.IsTuple b i2.toArray from p2) (by omega) (wg I r1 r2 hu hi) _ _ _ _ ⟨.bl _,H,I,rfl,?_⟩
  rw[← z,Nat.min_self,beq_self_eq_true,Bool.and_true,List.size_toArray,← r1.length]
  exact q
theorem uZ {κ:Type} [DecidableEq κ]:∀ {kvs:List (κ×V)}{k:κ}{v:V},(kvs.map (·.1)).Nodup→(k,v)∈kvs→yE kvs k=some v
 |(k',v')::r,k,v,nd,h=>by
  rw[List.map_cons] at nd
  obtain⟨n1,n2⟩:=List.nodup_cons.mp nd
  rcases List.mem_cons.mp h with e | h
  ·cases e
   exact xw (p:=(k',v')) rfl
  ·have hk:¬ k'=k:=fun z=>n1 (List.mem_map.mpr ⟨(k,v),h,z.symm⟩)
   rw[xx (p:=(k',v')) hk]
   exact uZ n2 h
end
structure Callee (P:Program) (w:World) (K:PySem.W.Frag) (mg:Str→Option Value) (base:Heap) (x:Str) (f:Addr) (fd:FuncData) (ps:List Str) (k:Nat) (sp:Sp):Prop where
 ok:FnOk P w K mg base CX0 k f fd ps sp
 g:mg x=some (.ref f)
 kp:PySem.W.keepIn K (.ref f)=true
 b:Binds K fd ps []
structure Maker (P:Program) (w:World) (K:PySem.W.Frag) (mg:Str→Option Value) (base:Heap) (x:Str) (C f:Addr) (fd:FuncData) (ps:List Str) (k:Nat) (sp:Sp):Prop where
 ok:FnOk P w K mg base CX0 k f fd ps sp
 g:mg x=some (.ref C)
 mm:Mk K C f
 b:Binds K fd ps []
section
variable {X:Cx}{k:Nat}{f C:Addr}{fd:FuncData}{ps:List Str}{sp:Sp}{x m:Str}{p pos apos:Pos}{e o:Expr}{es:List Expr}{ta:TE}{t:TA}
theorem WD (c:Callee X.prog X.w X.K X.mg X.base x f fd ps k sp) (hr:Room k X.A) (ha:PA X (e::es) t) (hg:Gl X x:=by rfl) (hdb:(x == ("__debug__" : Str))=false:=by decide)
  (he:starEach (e::es) X.env=(false,eval e X.env)::starEach es X.env:=by rfl) (hpl:(backTo pos (starEach es X.env)).any (·.1)=false:=by rfl):PE X (.Call (.Name x p) (e::es) [] pos) (ZD sp [] E0 t) :=
 Vx c.ok hr hg c.g c.kp c.b .nil XB ha hdb he hpl
theorem uU (c:Maker X.prog X.w X.K X.mg X.base x C f fd ps k sp) (hr:Room (k+1) X.A) (ha:Bx (PA X (e::es) t)) (hg:Gl X x:=by rfl) (hdb:(x == ("__debug__" : Str))=false:=by decide) (he:starEach (e::es) X.env=(false,eval e X.env)::starEach es X.env:=by rfl) (hpl:(backTo pos (starEach es X.env)).any (·.1)=false:=by rfl):Bx (PE X (.Call (.Name x p) (e::es) [] pos) (Ui C sp [] E0 t)):=by
 have ha:=ha.of
 exact⟨Vw c.mm c.ok hr hg c.g c.b .nil XB ha hdb he hpl⟩
def vN (X:Cx) (m:Str) (ta:TE) (t:TA):TE:=fun σ H Q=>ta σ H fun x H1=>∃ (a C dx:Addr) (fs:List (Str×V)) (f:Addr) (fd:FuncData) (ps:List Str) (k:Nat) (sp:Sp),x=.ref a∧H1 a=some (.ins C dx fs)∧fs.lookup m=none∧Cls X.K C∧Meth X.K C m f ∧
 FnOk X.prog X.w X.K X.mg X.base CX0 k f fd ps sp∧Room k X.A∧Binds X.K fd ps []∧t σ H1 fun vs H2=>sp (x::(vs++[])) H2 Q E0
theorem XA {pl:Sem Bool}(he:PE X o ta) (ha:PA X (e::es) t)
  (hst:starEach (e::es) X.env=(false,eval e X.env)::starEach es X.env:=by rfl) (hpl:(backTo pos (starEach es X.env)).any (·.1)=false:=by rfl)
  (ht:eval (.Call (.Attribute o m apos) (e::es) [] pos) X.env=(do
   let ov ← eval o X.env
   standAt apos.atName
   let (f,first) ← holding [ov] (getMethod ov m pl)
   callWith pos f first (backTo pos (starEach (e::es) X.env)) (backToKw pos (keywordEach [] X.env))):=by rfl) :
  PE X (.Call (.Attribute o m apos) (e::es) [] pos) (vN X m ta t):=by
 intro pins s σ H Q I h
 refine PySem.W.methodCall_KW (pl:=pl) (thn (he pins s σ H _ I h) fun u s1 hq0=>?_) ht
 obtain⟨x,H1,I1,rx,a,C,dx,fs,f,fd,ps,k,sp,ex,ea,l,cl,hm,F,hr,hb,q⟩:=hq0
 subst ex
 obtain rfl:u=Value.ref a:=rx
 refine xa I1 ea cl hm l ?_
 refine PySem.W.callWith_K (first:=[.ref a]) (h₀:=X.base) I.ok.mod.kin hm.kp (thn (ha pos pins s1 σ H1 _ I1 q) fun us s2 ⟨vs,H2,I2,r,q2⟩=>⟨I2.kIn,?_⟩) hst hpl
 exact Zb (us:=.ref a::us) (vs:=.ref a::vs) F hr hb .nil XB I2 (.cons rfl r) q2
theorem Yr {pl:Sem Bool}(he:PE X o ta)
  (ht:eval (.Call (.Attribute o m apos) [] [] pos) X.env=(do
   let ov ← eval o X.env
   standAt apos.atName
   let (f,first) ← holding [ov] (getMethod ov m pl)
   callWith pos f first (backTo pos (starEach [] X.env)) (backToKw pos (keywordEach [] X.env))):=by rfl) :
  PE X (.Call (.Attribute o m apos) [] [] pos) (vN X m ta Xw):=by
 intro pins s σ H Q I h
 refine PySem.W.methodCall_KW (pl:=pl) (thn (he pins s σ H _ I h) fun u s1 hq0=>?_) ht
 obtain⟨x,H1,I1,rx,a,C,dx,fs,f,fd,ps,k,sp,ex,ea,l,cl,hm,F,hr,hb,q⟩:=hq0
 subst ex
 obtain rfl:u=Value.ref a:=rx
 refine xa I1 ea cl hm l ?_
 exact PySem.W.callWith_K0 (first:=[.ref a]) I1.kIn hm.kp (Zb (us:=[.ref a]) (vs:=[.ref a]) F hr hb .nil XB I1 (.cons rfl .nil) q)
end
section
variable {X:Cx}{pins:List (Addr×Obj)}{σ:St}{H:Hp}{s:Shared}{a b:Addr}{xs ys:List V}
theorem Inv.turnedLaid {h':Heap}{t':Nat}{ch:List Addr}{T:Addr}{o:HO}(I:Inv X pins σ H s) (hf:∀ b∈ch,FpOk X pins H b) (k:∀ b u,b∉ch→s.heap.get? b=some u→h'.get? b=some u) (hT:s.heap.objs.size≤T)
  (new:ObjOk X.prog X.w (upd H T o) h' T o):Inv X pins σ (upd H T o) { s with heap:=h',toks:=t' }:=by
 have hn:H T=none:=I.hok.fresh hT
 have nch:∀ b u,H b=some u→b∉ch:=fun b u e hb=>by rw[(hf b hb).1] at e;cases e
 have neT:∀ b u,s.heap.get? b=some u→b≠T:=fun b u e=>Nat.ne_of_lt (Nat.lt_of_lt_of_le (Heap.lt_size e) hT)
 refine I.step (g':=s.gens) (d':=s.drawn) (ch:=ch) (fun b hb=>?_) (fun b u _ _ hc e _=>k b u hc e) (fun b u _ _ hc e _=>⟨u.slots,k b u hc e⟩) (fun b u _ e n=>?_) (fun b u hc e=>⟨u,k b u hc e⟩)
  (fun b zs e=>?_) (fun b ob u e=>?_) (fun b ps e=>⟨#[],?_⟩) (fun m hm=>?_) (fun b u e=>?_) I.bare
 ·exact⟨(hf b hb).2.2.2.1,(hf b hb).2.1,(hf b hb).2.2.2.2.1,(hf b hb).2.2.2.2.2⟩
 ·rw[upd_ne (neT b u e)];exact n
 ·rw[upd_ne (ne_of_none e hn)];exact e
 ·rw[upd_ne (ne_of_none e hn)];exact e
 ·rw[upd_ne (ne_of_none e hn),e];simp
 ·obtain⟨ob,es,ep,ho,r⟩:=hm
  exact⟨ob,es,ep,k _ ob (fun hb=>(hf _ hb).2.1 rfl) ho,r⟩
 ·by_cases hb:b=T
  ·subst hb
   rw[upd_same] at e
   cases e
   exact new
  ·rw[upd_ne hb] at e
   refine(I.hok b u e).stay (fun c v hc q=>k c v ?_ q) (fun c q=>by rw[upd_ne (ne_of_none q hn)];exact q) fun c zs q=>by rw[upd_ne (ne_of_none q hn)];exact q
   rcases hc with z | z
   ·rw[z];exact nch b u e
   ·exact nch c _ z
end
theorem Xn {X:Cx}{x:Str}{C:Addr}{pos:Pos}(hm:X.mg x=some (.ref C)) (hg:Gl X x:=by rfl) (hd:(x == ("__debug__" : Str))=false:=by decide):Bx (PE X (.Name x pos) (tC (.ref C))):=by
 exact⟨uz hg hm rfl hd⟩
theorem wW {X:Cx}{x:Str}{n:String}{pos:Pos}(hm:X.mg x=none) (hv:bootBuiltins x=some (.type n)) (hg:Gl X x:=by rfl) (hn:x ≠ "__name__" := by decide) (hd:(x == ("__debug__" : Str))=false:=by decide):PE X (.Name x pos) (tC (.ty n)):=Vz hg hm hv rfl hn hd
theorem yj:bootBuiltins "len" = some (.builtin "len"):=by decide +kernel
theorem WZ:bootBuiltins "int" = some (.type "int"):=by decide +kernel
theorem zA:bootBuiltins "isinstance" = some (.builtin "isinstance"):=by decide +kernel
theorem bt_list:bootBuiltins "list" = some (.type "list"):=by decide +kernel
theorem wI:bootBuiltins "dict" = some (.type "dict"):=by decide +kernel
theorem zW:bootBuiltins "sorted" = some (.builtin "sorted"):=by decide +kernel
theorem uP:bootBuiltins "bool" = some (.type "bool"):=by decide +kernel
theorem xb:bootBuiltins "tuple" = some (.type "tuple"):=by decide +kernel
end L2
namespace K04
open PySem L2
def Ext (l:Addr) (H H':Hp):Prop:=∀ b o,H b=some o→b≠l→H' b=some o
theorem Ext.refl {l:Addr}{H:Hp}:Ext l H H:=fun _ _ e _=>e
theorem Ext.trans {l:Addr}{H H1 H2:Hp}(a:Ext l H H1) (b:Ext l H1 H2):Ext l H H2:=fun c o e n=>b c o (a c o e n) n
theorem Ext.same {l:Addr}{H H':Hp}(a:Same H H'):Ext l H H':=fun c o e _=>a c o e
theorem Ext.new {l p:Addr}{H:Hp}{o:HO}(h:H p=none):Ext l H (upd H p o):=fun c u e _=>by rw[upd_ne (ne_of_none e h)];exact e
theorem Ext.at {l:Addr}{H:Hp}{o:HO}:Ext l H (upd H l o):=fun c u e n=>by rw[upd_ne n];exact e
theorem Same.new {p:Addr}{H:Hp}{o:HO}(h:H p=none):Same H (upd H p o):=fun c u e=>by rw[upd_ne (ne_of_none e h)];exact e
theorem X7 {i:Nat}{v:V}{τ:St}{H:Hp}{A B:St→Hp→Prop}(h:A (τ.set i (some v)) H):v9 i v τ H fun τ2 H4=>zat τ2 H4 fun b H5=>if b=true then A τ2 H5 else B τ2 H5:=by
 show if true=true then A (τ.set i (some v)) H else B (τ.set i (some v)) H
 exact wa h
theorem XW:((1009:Int).natAbs.log2<9000):=by decide
theorem XV:((2003:Int).natAbs.log2<9000):=by decide
end K04
namespace L2
open PySem PySem.Spec PyProof.Rows
section
variable {X:Cx}
theorem yW:∀ {ns:LI}{its:List Value},Vals (ns.map V.int) its→IntsAre its ns
 |[],_,r=>by cases r;exact .nil
 |n::ns,_,r=>by
  cases r with
  |cons h t =>
   obtain⟨k,rfl⟩:=h
   exact .cons _ _ (yW t)
theorem uD:∀ {ns:LI}{its:List Value},IntsAre its ns→Vals (ns.map V.int) its
 |_,_,.nil=>.nil
 |_,_,.cons _ _ t=>.cons ⟨_,rfl⟩ (uD t)
def UB (K:PySem.W.Frag):List V→Hp→VK→Prop:=fun xs H Q=>∃ (a:Addr) (ns:LI),xs=[V.ref a]∧SqL K H a (ns.map V.int)∧ns.length<64∧∀ (p:Addr) (ms:LI),H p=none→ms.Perm ns→ms.Pairwise (· ≤ ·)→Q (.ref p) (upd H p (.lst (ms.map V.int)))
theorem yo:xr X (.builtin "sorted") (UB X.K):=by
 intro pins s σ H xs us Q I r h
 obtain⟨a,ns,rfl,ha,h64,q⟩:=h
 obtain⟨u,rfl,ru⟩:=r.one
 cases ru
 obtain⟨its,rv,p,hz⟩:=I.list ha
 have hl:=rv.length
 rw[List.length_map] at hl hz
 refine sorted_ints p.isList (yW rv) (by omega) fun out ms a1 a2 a3=>?_
 have hn:H (s.heap.objs.size+1)=none:=I.hok.fresh (Nat.le_succ _)
 obtain⟨c,hc⟩:=sortedAll_at s.heap its out
 refine⟨.ref _,_,I.laid (a:=s.heap.objs.size+1) (o:=.lst (ms.map V.int)) (t':=s.toks) (fun _ _ e=>sortedAll_old e) (Nat.le_succ _) ⟨?_,out.toList,c,uD a1,?_⟩,rfl,q _ ms hn a2 a3⟩
 ·rw[List.length_map,a2.length_eq];exact hz
 ·exact hc
end
theorem WL {X:Cx}{f:Value→Value→Sem Value}{r1 r2:R2}(h1:OpR X f r1) (h2:OpR X f r2):OpR X f (fun x y H Q=>r1 x y H Q∨r2 x y H Q):=by
 intro pins s σ H x y v u Q I rx ry h
 rcases h with h | h
 ·exact h1 pins s σ H x y v u Q I rx ry h
 ·exact h2 pins s σ H x y v u Q I rx ry h
section
variable {P:Program}{w:World}{H H':Hp}{h h':Heap}{a:Addr}{o:HO}
theorem ObjOk.thr (x:ObjOk P w H h a o):∃ u,h.get? a=some u:=by
 cases o with
 |lst xs=>obtain⟨_,_,_,_,e⟩:=x;exact⟨_,e⟩
 |tup xs=>obtain⟨_,_,_,_,e,_⟩:=x;exact⟨_,e⟩
 |dK kvs=>obtain⟨_,_,_,_,o,_,_,e,_⟩:=x;exact⟨_,e⟩
 |dT kvs=>obtain⟨_,_,_,_,o,_,_,e,_⟩:=x;exact⟨_,e⟩
 |set S n=>obtain⟨o,_,_,_,e,_⟩:=x;exact⟨_,e⟩
 |ins C dx fs=>obtain⟨_,_,_,e,_⟩:=x;exact⟨_,e⟩
 |own y=>obtain⟨_,e⟩:=x;exact⟨_,e⟩
 |xd fs=>obtain⟨_,⟨_,_,_,e,_⟩,_⟩:=x;exact⟨_,e⟩
 |rng lo hi=>obtain⟨_,_,_,e⟩:=x;exact⟨_,e⟩
 |frz ob u=>obtain⟨e,_⟩:=x;exact⟨_,e⟩
 |tbl ps=>exact⟨_,show h.get? a=some _ from x⟩
 |met f y=>exact⟨_,show h.get? a=some _ from x⟩
 |ext φ=>obtain⟨_,⟨_,e⟩,_⟩:=x;exact⟨_,e⟩
theorem HOk.thr (x:HOk P w H h) (e:H a=some o):∃ u,h.get? a=some u:=(x a o e).thr
theorem HOk.untr (x:HOk P w H h) (e:h.get? a=none):H a=none:=by
 cases q:H a with
 |none=>rfl
 |some u =>
  obtain⟨v,hv⟩:=x.thr q
  rw[e] at hv
  cases hv
end
noncomputable abbrev zaj:List Value:=[.type "ValueError",.type "Exception",.type "BaseException",.type "object"]
end L2
namespace L2
open PySem
section
variable {X:Cx}{es:List Expr}{t:TA}{te:TE}
theorem yx {c j pos}(ha:Bx (PE X (.Constant c j pos) te)) (hr:Bx (PA X es t)):Bx (PA X (.Constant c j pos::es) (xl te t)):=by
 have ha:=ha.of
 have hr:=hr.of
 exact⟨yU ha hr rfl⟩
theorem xv {xs c pos}(ha:Bx (PE X (.Tuple xs c pos) te)) (hr:Bx (PA X es t)):Bx (PA X (.Tuple xs c pos::es) (xl te t)):=by
 have ha:=ha.of
 have hr:=hr.of
 exact⟨yU ha hr rfl⟩
theorem zQ {f xs ks pos}(ha:Bx (PE X (.Call f xs ks pos) te)) (hr:Bx (PA X es t)):Bx (PA X (.Call f xs ks pos::es) (xl te t)):=by
 have ha:=ha.of
 have hr:=hr.of
 exact⟨yU ha hr rfl⟩
theorem vI {l o r pos}(ha:Bx (PE X (.BinOp l o r pos) te)) (hr:Bx (PA X es t)):Bx (PA X (.BinOp l o r pos::es) (xl te t)):=by
 have ha:=ha.of
 have hr:=hr.of
 exact⟨yU ha hr rfl⟩
theorem xV {x pos}(ha:PE X (.Name x pos) te) (hr:PA X es t):PA X (.Name x pos::es) (xl te t):=yU ha hr rfl
end
end L2
namespace L2
open PySem PySem.Spec PyProof.Rows
section
variable {X:Cx}{tg:Expr}
theorem vC:bootBuiltins "reversed" = some (.type "reversed"):=by decide +kernel
end
noncomputable def zbt (K:PySem.W.Frag) (C C1:Addr):Option Bool:=match K.lookup C with
 |some ⟨_,_,.cls cd,_⟩=>some (cd.mro.contains (.ref C1))
 |_=>none
theorem entry_dul:entryFor table "dict.update.loop" = some Builtin.«dict.update.loop»:=entryFor_of_tree (by kernel_rfl)
theorem plain_dul:plainId "dict.update.loop" = true:=by decide +kernel
theorem YH:typeLookup (.type "list") "keys" = pure none:=am_miss_of_fast (by kernel_rfl)
section
variable {P:Program}{w:World}{A:Around}{E:Value→Shared→Prop}{s:Shared}
theorem VL {a:Addr}{xs:Array Value}{Q:Option Value→Shared→Prop}(hl:PlainL s.heap a xs) (hA:A.handled=none)
  (q:∀ h' tk,(∀ b o,s.heap.get? b=some o→h'.get? b=some o)→Q none { s with heap:=h',toks:=tk }):wpAny (model P w) A (getAttr? (.ref a) "keys") Q E s:=by
 obtain⟨o,n,hx,hc,hd,hs⟩:=hl
 obtain⟨c,dct,dat,sl⟩:=o
 dsimp only at hc hd hs
 subst hc hd hs
 obtain⟨hp,g,dr,tk0,os⟩:=s
 have hT:∀ tk',(⟨hp,g,dr,tk',os⟩:Shared).TypeIs (.ref a) "list" := fun _=>⟨_,hx,rfl⟩
 have f1:=sub_AttributeError
 have f3:=F.slot_list_getattribute.lookup
 have f4:=F.slot_list_getattribute.bind (.ref a)
 have f5:=am_list_getattr_none
 unfold getAttr? getAttrBy? getAttrBy
 repeat (any_goals (first | assumption | exact hT _ | ((with_reducible show wpAny _ _ (call (Value.builtin "list.__getattribute__") _ _) _ _ _);refine call_meets F.slot_list_getattribute (hT _) am_entry_list_getattribute (F.args_list_getattribute_2 _ _) (meets_getattribute_miss_list a xs n sl "keys" _ YH (by decide +kernel) (by decide +kernel)) ⟨hx,hA,fun h1 tk1 e1 ne=>?_⟩) | wp_step))
 obtain⟨t',u',he⟩:=ne.there
 show wpAny _ _ (getattributeRaised _ _ _ _ _ _ _) _ _ _
 unfold getattributeRaised hookOrError attributeErrorLeaves
 repeat (any_goals (first | assumption | wp_step))
 exact q _ _ ne.keeps
variable {K:Type} [DecidableEq K]{knd:KeyKind P w K}
theorem zae {d I:Addr}{fp wr:List Addr}{n:Nat}{Is:Nat→Value→Prop}{St:Nat→Heap→Prop}{R:Except Value Flow→Shared→Prop}(W:Walks P w A.in1 I fp wr n Is St) (nf:d∉fp) (kvs:List (K×Value)) (hk:kvs.length=n) (hz:n≤1000)
  (h0:Heap) (hI:∀ i v,Is i v→∃ q k,v=.ref q∧(∃ o x,h0.get? q=some o∧o.cls=.type "tuple" ∧ o.data=.seq #[k,(kvs[i]?.map (·.2)).getD .none] x)∧∃ kk,(kvs[i]?.map (·.1))=some kk∧knd.is kk k=true)
  (hq:∀ i v q,Is i v→v=.ref q→q∉wr∧q≠d) :
  ∀ (r j:Nat) (t:Shared) (tk0:Tok),j+r=n→St j t.heap→t.heap.DictOf knd d (merged [] (kvs.take j))→(∀ b o,b∉wr→b≠d→h0.get? b=some o→t.heap.get? b=some o) →
   (∀ h' tk,h'.DictOf knd d (merged [] kvs)→(∀ b o,b∉wr→b≠d→t.heap.get? b=some o→h'.get? b=some o)→R (.ok (.ret .none)) { t with heap:=h',toks:=tk }) →
   codeAny (model P w) A (.builtin "dict.update.loop" ⟨[.ref d,.ref I,.int (j:Int) tk0,.none],[]⟩) R t:=by
 have nw:d∉wr:=fun z=>nf (W.sub _ z)
 intro r
 induction r with
 |zero =>
  intro j t tk0 hj st hd keep fin
  have ej:j=n:=by omega
  subst ej
  refine codeAny_builtin entry_dul (by
   rw[Around.under_plainId plain_dul _]
   show wpAny _ A.in1 (pyNext (.ref I) >>= _) _ _ t
   refine wpAny_bind (W.done t _ _ st fun h1 tk kk=>?_)
   show wpAny _ A.in1 (Builtin.Dict.addKeywords d [] >>= _) _ _ _
   rw[← hk,List.take_length] at hd
   obtain⟨o,ho,hdo⟩:=Heap.dictOf_iff.mp hd
   exact wpAny_bind (wpAny_pure (wpAny_pure (fin h1 tk (Heap.dictOf_iff.mpr ⟨o,kk d o nw ho,hdo⟩) fun b o n1 _ e=>kk b o n1 e))))
 |succ r ih =>
  intro j t tk0 hj st hd keep fin
  refine codeAny_builtin entry_dul (by
   rw[Around.under_plainId plain_dul _]
   show wpAny _ A.in1 (pyNext (.ref I) >>= _) _ _ t
   refine wpAny_bind (W.item j t _ _ (by omega) st fun v h1 tk iv st1 kk=>?_)
   obtain⟨q,k,rfl,⟨o,x,hq0,hc,hs⟩,kx,hkx,hki⟩:=hI j v iv
   obtain⟨nq1,nq2⟩:=hq j _ q iv rfl
   have hq1:=kk q o nq1 (keep q o nq1 nq2 hq0)
   obtain⟨od,hod,hdo⟩:=Heap.dictOf_iff.mp hd
   have hd1:h1.DictOf knd d (merged [] (kvs.take j)):=Heap.dictOf_iff.mpr ⟨od,kk d od nw hod,hdo⟩
   obtain⟨⟨k2,v2⟩,hkv⟩:∃ kv,kvs[j]?=some kv:=⟨kvs[j]'(by omega),by simp[show j<kvs.length by omega]⟩
   rw[hkv] at hs hkx
   cases hkx
   show wpAny _ A.in1 (holding [Value.ref q] (tryCatch (Builtin.Dict.pairItems (Value.ref q)) _ >>= _) >>= _) _ _ _
   refine wpAny_bind (wpAny_holding (wpAny_bind (wpAny_tryCatch ?_)))
   unfold Builtin.Dict.pairItems
   refine wpAny_bind (wpAny_typeOf (T := "tuple") ⟨o,hq1,hc⟩ ?_)
   rw[if_pos (by decide)]
   refine wpAny_bind (wpAny_seqItems hq1 hs (wpAny_pure ?_))
   show wpAny _ A.in1 (holding [k,v2] (dictSet d k v2)) _ _ _
   refine wpAny_holding (wpAny_dictSet_pairs hki hd1 (fun h2 hd2 sb=>?_) ?_)
   ·show wpAny _ A.in1 (pure _) _ _ _
    have hm:=merged_take_succ ([]:List (K×Value)) kvs j (k2,v2) hkv
    refine wpAny_pure ⟨plainId_quiet plain_dul _,ih (j+1) _ _ (by omega) (W.frame _ _ _ st1 fun b hb o e=>?_) (by rw[hm];exact hd2) (fun b o n1 n2 e=>?_) fun h3 tk3 hd3 kk3=>fin h3 tk3 hd3 fun b o n1 n2 e=>kk3 b o n1 n2 ?_⟩
    ·exact(sb.2 b fun z=>nf (z ▸ hb)).trans e
    ·exact(sb.2 b n2).trans (kk b o n1 (keep b o n1 n2 e))
    ·exact(sb.2 b n2).trans (kk b o n1 e)
   ·have:=merged_length_le ([]:List (K×Value)) (kvs.take j)
    rw[List.length_take] at this
    simp only[List.length_nil] at this
    exact Nat.le_trans (show _≤1000 by omega) (by decide))
end
section
variable {X:Cx}
theorem uX:∀ {xs:List V}{us:List Value}{i:Nat}{u:Value},Vals xs us→us[i]?=some u→∃ x,xs[i]?=some x∧RelV x u
 |_,_,0,_,.cons r _,h=>by cases h;exact⟨_,rfl,r⟩
 |_,_,i+1,_,.cons _ t,h=>by
  obtain⟨x,e,r⟩:=uX t (by simpa using h)
  exact⟨x,by simpa using e,r⟩
theorem Zi {pins:List (Addr×Obj)}{σ:St}{H:Hp}{s:Shared}(I:Inv X pins σ H s):∀ (qs:List Addr) (kvs:List (Key×V)),qs.length=kvs.length→(∀ (i:Nat) (q:Addr) (kv:Key×V),qs[i]?=some q→kvs[i]?=some kv→H q=some (.tup [kV kv.1,kv.2])) →
  ∃ vs:List (Key×Value),KV kvs vs∧∀ (i:Nat) (q:Addr),qs[i]?=some q→∃ o x k kv,s.heap.get? q=some o∧o.cls=.type "tuple" ∧ o.data=.seq #[k,kv.2] x∧vs[i]?=some kv∧(zI X.prog X.w).is kv.1 k=true
 |[],[],_,_=>⟨[],.nil,fun i q h=>by simp at h⟩
 |q::qs,kv::kvs,hl,h=>by
  obtain⟨vs,r,hv⟩:=Zi I qs kvs (by simpa using hl) fun i q' kv' h1 h2=>h (i+1) q' kv' (by simpa using h1) (by simpa using h2)
  have h0:=h 0 q kv rfl rfl
  obtain⟨its,rv,it,_⟩:=I.tuple (SqT.of h0)
  obtain⟨uk,ux,rfl,rk,rx⟩:∃ uk ux,its=[uk,ux]∧RelV (kV kv.1) uk∧RelV kv.2 ux:=by
   cases rv with | cons r1 rv =>
   cases rv with | cons r2 rv =>
   cases rv
   exact⟨_,_,rfl,r1,r2⟩
  obtain⟨o,e,oc,n,od⟩:=it
  refine⟨(kv.1,ux)::vs,.cons ⟨rfl,rx⟩ r,fun i q' hi=>?_⟩
  cases i with
  |zero =>
   cases hi
   exact⟨o,n,uk,(kv.1,ux),e,oc,od,rfl,wP rk⟩
  |succ i=>exact hv i q' (by simpa using hi)
def UE (K:PySem.W.Frag):List V→Hp→VK→Prop:=fun xs H Q=>∃ (a:Addr) (qs:List Addr) (kvs:List (Key×V)),xs=[V.ref a]∧H a=some (.lst (qs.map V.ref))∧qs.length=kvs.length∧kvs.length≤1000∧(∀ (i:Nat) (q:Addr) (kv:Key×V),qs[i]?=some q→kvs[i]?=some kv→H q=some (.tup [kV kv.1,kv.2])) ∧
 ∀ p,H p=none→Q (.ref p) (upd H p (.dK (mergeK [] kvs)))
theorem ve (hc:X.calm=true):xr X (.type "dict") (UE X.K):=by
 intro pins s σ H xs us Q I r h
 obtain⟨a,qs,kvs,rfl,ha,hl,hz,hq,k⟩:=h
 obtain⟨u,rfl,ru⟩:=r.one
 cases ru
 obtain⟨its,rv,pl,_⟩:=I.list (SqL.of ha)
 have hA:X.A.handled=none:=I.ok.hd hc
 refine callType_codes (Q₁:=fun obj s₁=>obj=.ref s.heap.objs.size∧s₁={ s with heap:=s.heap.push { cls:=.type "dict",data:=.dict #[] } }) F.kt_called_dict (F.kt_typeCall_dict_1 _) F.entry_dict_init (kt_code_dict_new _ ⟨rfl,rfl⟩) ?_
 rintro obj s₁ ⟨rfl,rfl⟩
 have hnew:(s.heap.push { cls:=.type "dict",data:=.dict #[] }).DictOf (zI X.prog X.w) s.heap.objs.size []:=Heap.DictOf.new s.heap
 have lt:a<s.heap.objs.size:=by
  obtain⟨_,e,_⟩:=pl.isList
  exact Heap.lt_size e
 have pl1:PlainL (s.heap.push { cls:=.type "dict",data:=.dict #[] }) a its.toArray:=by
  obtain⟨o,n,e,r⟩:=pl
  exact⟨o,n,Heap.get?_push_of_some _ e,r⟩
 refine⟨hnew.typeIs,F.args_dict_init_2 _ _,?_⟩
 unfold Builtin.«dict.__init__»
 refine wpAny_bind ?_
 unfold Builtin.Dict.selfAndRest
 refine wpAny_bind (wpAny_notOrdered_dict hnew.typeIs ?_)
 show wpAny _ _ (pure (s.heap.objs.size,[Value.ref a])) _ _ _
 refine wpAny_pure ?_
 show wpAny _ _ (Builtin.Dict.updateFrom "dict.__init__" s.heap.objs.size (.ref a) [] .none) _ _ _
 unfold Builtin.Dict.updateFrom
 obtain⟨o,n,e,oc,od,os⟩:=pl1
 refine wpAny_bind (wpAny_typeOf (T := "list") ⟨o,e,oc⟩ ?_)
 rw[if_pos (by decide)]
 refine wpAny_bind (VL ⟨o,n,e,oc,od,os⟩ hA fun h1 tk1 kk1=>?_)
 obtain⟨vs,rel,hvs⟩:=Zi I qs kvs hl hq
 have hl1:h1.IsList a its.toArray:=⟨o,kk1 _ _ e,oc,n,os⟩
 show wpAny _ _ (rule _ >>= _) _ _ _
 refine wpAny_bind (wpAny_rule (wpAny_bind (wpAny_pyIter_list hl1 ?_)))
 have nd0:(s.heap.push { cls:=.type "dict",data:=.dict #[] }).get? s.heap.objs.size=some { cls:=.type "dict",data:=.dict #[] }:=Heap.get?_push_size _ rfl
 have nd1:=kk1 _ _ nd0
 have ltd:s.heap.objs.size<h1.objs.size:=Heap.lt_size nd1
 have lta:a<h1.objs.size:=Nat.lt_trans lt ltd
 have len:its.toArray.size=vs.length:=by
  have e1:=rv.length
  rw[List.length_map] at e1
  have e2:=rel.length
  simp
  omega
 have lvs:vs.length=kvs.length:=(rel.length).symm
 have W:=Walks.list (prog:=X.prog) (w:=X.w) (A:=X.A.in1.in1) hA h1.objs.size a (Nat.ne_of_lt lta) its.toArray
 have st:((h1.push { cls:=.type "list_iterator",data:=.fields #[.ref a,.int 0 0] }).IsListIter h1.objs.size a 0∧(h1.push { cls:=.type "list_iterator",data:=.fields #[.ref a,.int 0 0] }).IsList a its.toArray):=⟨⟨_,Heap.get?_push_size _ rfl,rfl,rfl⟩,hl1.push _⟩
 have nf:s.heap.objs.size∉[h1.objs.size,a]:=by
  intro z
  rcases List.mem_cons.mp z with z | z
  ·exact Nat.lt_irrefl _ (z ▸ ltd)
  ·exact Nat.lt_irrefl _ ((List.mem_singleton.mp z) ▸ lt)
 have item:∀ (i:Nat) (v:Value),its.toArray[i]?=some v→∃ q:Addr,v=Value.ref q∧qs[i]?=some q:=fun i v hv=>by
  have hv:its[i]?=some v:=by simpa using hv
  obtain⟨x,hx,rx⟩:=uX rv hv
  rw[List.getElem?_map] at hx
  obtain⟨q,hq,rfl⟩:=Option.map_eq_some_iff.mp hx
  exact⟨q,rx,hq⟩
 have hd0:(h1.push { cls:=.type "list_iterator",data:=.fields #[.ref a,.int 0 0] }).DictOf (zI X.prog X.w) s.heap.objs.size []:=by
  obtain⟨od,hod,hdo⟩:=Heap.dictOf_iff.mp hnew
  exact Heap.dictOf_iff.mpr ⟨od,Heap.get?_push_of_some _ (kk1 _ _ hod),hdo⟩
 refine wpAny_pure ⟨plainId_quiet plain_dul _,zae (A:=X.A.in1) (knd:=zI X.prog X.w) W nf vs len.symm (by omega) s.heap ?_ ?_ its.toArray.size 0 _ 0 (by omega) st hd0 ?_ ?_⟩
 ·intro i v hv
  obtain⟨q,rfl,hq'⟩:=item i v hv
  obtain⟨o,x,k',kv,e1,e2,e3,e4,e5⟩:=hvs i q hq'
  exact⟨q,k',rfl,⟨o,x,e1,e2,by rw[e4];exact e3⟩,kv.1,by rw[e4];rfl,e5⟩
 ·intro i v q hv ev
  obtain⟨q',rfl,hq'⟩:=item i v hv
  cases ev
  obtain⟨o,x,k',kv,e1,_⟩:=hvs i _ hq'
  have l1:=Heap.lt_size e1
  exact⟨fun z=>by rw[List.mem_singleton.mp z] at l1;exact Nat.lt_irrefl _ (Nat.lt_trans l1 ltd),fun z=>by rw[z] at l1;exact Nat.lt_irrefl _ l1⟩
 ·intro b o n1 n2 e
  exact Heap.get?_push_of_some _ (kk1 _ _ (Heap.get?_push_of_some _ e))
 ·intro h' tk hd' kk'
  refine⟨rfl,?_⟩
  refine⟨.ref s.heap.objs.size,_,I.laid (a:=s.heap.objs.size) (o:=.dK (mergeK [] kvs)) (t':=tk) (fun b o e=>?_) (Nat.le_refl _) (ua ?_ (beq_eq_false_iff_ne.mpr (Ne.symm (Nat.ne_of_lt I.big))) (KV.merge rel .nil) hd'),rfl,k _ (I.hok.fresh (Nat.le_refl _))⟩
  ·have l1:=Heap.lt_size e
   refine kk' b o (fun z=>?_) (fun z=>?_) (Heap.get?_push_of_some _ (kk1 _ _ (Heap.get?_push_of_some _ e)))
   ·rw[List.mem_singleton.mp z] at l1
    exact Nat.lt_irrefl _ (Nat.lt_trans l1 ltd)
   ·rw[z] at l1
    exact Nat.lt_irrefl _ l1
  ·have e1:=(KV.merge rel (.nil:KV ([]:List (Key×V)) [])).length
   have e2:=merged_length_le ([]:List (Key×Value)) vs
   simp only[List.length_nil] at e2
   exact Nat.le_trans (show _≤1000 by omega) (by decide)
end
def zaz (td ty:TE):TE:=fun σ H Q=>td σ H fun x H1=>∃ a,x=.ref a∧IsD H1 a∧ty σ H1 fun y H2=>∃ b kvs more,y=.ref b∧a≠b∧H2 a=some (.dK kvs)∧H2 b=some (.dK more)∧kvs.length+more.length≤1000∧Q .non (upd H2 a (.dK (mergeK kvs more)))
section
variable {X:Cx}{o e:Expr}{apos cpos:Pos}{td ty:TE}
theorem vH (ho:Bx (PE X o td)) (he:Bx (PE X e ty)) (m:M1 X o "update" apos e cpos):Bx (PE X (.Call (.Attribute o "update" apos) [e] [] cpos) (zaz td ty)):=by
 have ho:=ho.of
 have he:=he.of
 refine⟨?_⟩
 intro pins s σ H Q I h
 refine wpAny_Call_method m.base m.few m.line PySem.F.plainAttrs_dict PySem.F.slot_dict_update PySem.F.type_dict_update (thn (ho pins s σ H _ I h) fun u s1 hq0=>?_)
 obtain⟨x,H1,I1,rx,a,ex,d,q1⟩:=hq0
 subst ex
 obtain rfl:u=Value.ref a:=rx
 obtain⟨t1,t2,_⟩:=va I1 d
 refine⟨t1,t2,?_⟩
 rw[m.trees]
 refine Calls.callWith_builtin rfl (Calls.evalArgs_plain (Calls.spliced_cons (thn (he pins s1 σ H1 _ I1 q1) fun iv s2 ⟨y,H2,I2,ry,b,kvs,more,ey,ne,ha,hb,hz,q2⟩=>Calls.spliced_nil ?_)))
 subst ey
 obtain rfl:iv=Value.ref b:=ry
 obtain⟨z1,hd1,vs1,rel1,dd1⟩:=uK I2.hok ha
 obtain⟨z2,hd2,vs2,rel2,dd2⟩:=uK I2.hok hb
 have l1:=rel1.length
 have l2:=rel2.length
 have rm:=KV.merge rel2 rel1
 have lm:=merged_length_le vs1 vs2
 have lm2:=rm.length
 refine call_meetsIn PySem.F.slot_dict_update dd1.typeIs PySem.F.entry_dict_update (PySem.F.args_dict_update_2 _ _) (meets_dict_update (zI X.prog X.w) a b ne hd2) ⟨vs1,vs2,dd1,dd2,Nat.le_trans (show _≤1000 by omega) (by decide),fun h' dd' _ hs=>?_⟩
 have he':∃ q,h'.get? a=some q:=let ⟨q,_,_,hq,_⟩:=dd';⟨q,hq⟩
 exact⟨.non,_,xT (t':=s2.toks) I2 (by rw[ha];exact True.intro) hs he' (ua (Nat.le_trans (show _≤1000 by omega) (by decide)) hd1 rm dd'),rfl,q2⟩
end
section
variable {X:Cx}
def zbW (K:PySem.W.Frag) (A:Around):R2:=fun x y H Q=>∃ (a b:Addr) (xs ys:List V),x=.ref a∧y=.ref b∧SqL K H a xs∧SqL K H b ys∧xs.length≠ys.length∧A.units<cLine∧Q (.bl false) H
theorem WK:OpR X (compareOp .Eq) (zbW X.K X.A):=by
 intro pins s σ H x y v u Q I rx ry h
 obtain⟨a,b,xs,ys,rfl,rfl,h1,h2,hl,hu,q⟩:=h
 cases rx;cases ry
 obtain⟨i1,r1,p1,_⟩:=I.list h1
 obtain⟨i2,r2,p2,_⟩:=I.list h2
 exact SeqAt.RcAt.lists_lengths p1.isList p2.isList (by simp;rw[← r1.length,← r2.length];exact hl) hu _ _ _ _ ⟨.bl _,H,I,rfl,q⟩
def EqP (X:Cx) (H:Hp) (x y:V) (b:Bool) (n:Nat):Prop:=∀ (pins:List (Addr×Obj)) (σ:St) (s:Shared),Inv X pins σ H s→∀ (A:Around) (u v:Value),A.units+n<cLine→RelV x u→RelV y v→SeqAt.EqAt A s u v b
theorem EqP.of {H:Hp}{x y:V}{b:Bool}{n:Nat}(h:EqD X.K H x y b n):EqP X H x y b n:=fun pins σ s I A u v hu r1 r2=>h.at I A u v hu r1 r2
theorem EqP.same {H:Hp}{a:Addr}{n:Nat}:EqP X H (.ref a) (.ref a) true n:=fun pins σ s I A u v hu rx ry=>by
 cases rx;cases ry
 exact SeqAt.EqAt.same _
theorem wZ {pins:List (Addr×Obj)}{σ:St}{H:Hp}{s:Shared}{A:Around}{xs ys:List V}{i1 i2:List Value}{e:Nat→Bool}{n:Nat}(I:Inv X pins σ H s) (r1:Vals xs i1) (r2:Vals ys i2) (hu:A.units+n+2<cLine)
  (h:∀ (j:Nat) x y,xs[j]?=some x→ys[j]?=some y→EqP X H x y (e j) n):∀ (j:Nat) (h1:j<i1.toArray.size) (h2:j<i2.toArray.size),SeqAt.EqAt A.in1 s i1.toArray[j] i2.toArray[j] (e j):=fun j h1 h2=>by
 have g1:j<xs.length:=by rw[r1.length];simpa using h1
 have g2:j<ys.length:=by rw[r2.length];simpa using h2
 obtain⟨u1,e1,q1⟩:=r1.get (i:=j) (x:=xs[j]) (by simp[g1])
 obtain⟨u2,e2,q2⟩:=r2.get (i:=j) (x:=ys[j]) (by simp[g2])
 have f1:i1.toArray[j]=u1:=by
  obtain⟨_,z⟩:=List.getElem?_eq_some_iff.mp e1
  simpa using z
 have f2:i2.toArray[j]=u2:=by
  obtain⟨_,z⟩:=List.getElem?_eq_some_iff.mp e2
  simpa using z
 rw[f1,f2]
 exact(h j _ _ (by simp[g1]) (by simp[g2])) _ _ _ I A.in1 u1 u2 (by rw[yg];omega) q1 q2
theorem EqP.lst {H:Hp}{a b:Addr}{xs ys:List V}{n:Nat}(ha:SqL X.K H a xs) (hb:SqL X.K H b ys) (hl:xs.length=ys.length) (h:∀ (j:Nat) x y,xs[j]?=some x→ys[j]?=some y→EqP X H x y true n):EqP X H (.ref a) (.ref b) true (n+2):=fun pins σ s I A u v hu rx ry=>by
 by_cases hne:a=b
 ·subst hne;exact EqP.same _ _ _ I A u v hu rx ry
 ·cases rx;cases ry
  obtain⟨i1,r1,p1,_⟩:=I.list ha
  obtain⟨i2,r2,p2,_⟩:=I.list hb
  have l1:=r1.length
  have l2:=r2.length
  refine SeqAt.EqAt.of_refs hne ?_
  have q:=SeqAt.RcAt.lists (A:=A) (s:=s) (e:=fun _=>true) p1.isList p2.isList (by simp;omega) (by omega) (wZ I r1 r2 (by omega) h)
  have e:((List.range i1.toArray.size).all fun _=>true)=true:=by simp
  rw[e] at q
  exact q
theorem EqP.tup {H:Hp}{a b:Addr}{xs ys:List V}{n:Nat}(ha:SqT X.K H a xs) (hb:SqT X.K H b ys) (hl:xs.length=ys.length) (h:∀ (j:Nat) x y,xs[j]?=some x→ys[j]?=some y→EqP X H x y true n):EqP X H (.ref a) (.ref b) true (n+2):=fun pins σ s I A u v hu rx ry=>by
 by_cases hne:a=b
 ·subst hne;exact EqP.same _ _ _ I A u v hu rx ry
 ·cases rx;cases ry
  obtain⟨i1,r1,p1,_⟩:=I.tuple ha
  obtain⟨i2,r2,p2,_⟩:=I.tuple hb
  have l1:=r1.length
  have l2:=r2.length
  refine SeqAt.EqAt.of_refs hne ?_
  have q:=SeqAt.RcAt.tuples (A:=A) (s:=s) (e:=fun _=>true) (show s.heap.IsTuple a i1.toArray from p1) (show s.heap.IsTuple b i2.toArray from p2) (by omega) (wZ I r1 r2 (by omega) h)
  have z:i1.toArray.size=i2.toArray.size:=by simp;omega
  have e:((List.range i1.toArray.size).all fun _=>true)=true:=by simp
  rw[← z,Nat.min_self,beq_self_eq_true,Bool.and_true,e] at q
  exact q
def zbV (X:Cx) (neg:Bool):R2:=fun x y H Q=>∃ (a b:Addr) (xs ys:List V) (n:Nat),x=.ref a∧y=.ref b∧((SqL X.K H a xs∧SqL X.K H b ys)∨(SqT X.K H a xs∧SqT X.K H b ys))∧xs.length=ys.length∧X.A.units+n+2<cLine ∧
 (∀ (j:Nat) x y,xs[j]?=some x→ys[j]?=some y→EqP X H x y true n)∧Q (.bl (!neg)) H
theorem zbY:OpR X (compareOp .Eq) (zbV X false):=by
 intro pins s σ H x y v u Q I rx ry h
 obtain⟨a,b,xs,ys,n,rfl,rfl,hq,hl,hu,hi,q⟩:=h
 cases rx;cases ry
 rcases hq with⟨h1,h2⟩ | ⟨h1,h2⟩
 ·obtain⟨i1,r1,p1,_⟩:=I.list h1
  obtain⟨i2,r2,p2,_⟩:=I.list h2
  refine SeqAt.eq_listAt (e:=fun _=>true) p1.isList p2.isList (by simp;rw[← r1.length,← r2.length,hl]) (by omega) (wZ I r1 r2 hu hi) ⟨.bl true,H,I,?_,q⟩
  have e:((List.range i1.toArray.size).all fun _=>true)=true:=by simp
  rw[e]
  rfl
 ·obtain⟨i1,r1,p1,_⟩:=I.tuple h1
  obtain⟨i2,r2,p2,_⟩:=I.tuple h2
  have z:i1.toArray.size=i2.toArray.size:=by simp;rw[← r1.length,← r2.length,hl]
  refine SeqAt.eq_tupleAt (e:=fun _=>true) (show s.heap.IsTuple a i1.toArray from p1) (show s.heap.IsTuple b i2.toArray from p2) (by omega) (wZ I r1 r2 hu hi) ⟨.bl true,H,I,?_,q⟩
  have e:((List.range i1.toArray.size).all fun _=>true)=true:=by simp
  rw[← z,Nat.min_self,beq_self_eq_true,Bool.and_true,e]
  rfl
theorem WI:OpR X (compareOp .NotEq) (zbV X true):=by
 intro pins s σ H x y v u Q I rx ry h
 obtain⟨a,b,xs,ys,n,rfl,rfl,hq,hl,hu,hi,q⟩:=h
 cases rx;cases ry
 rcases hq with⟨h1,h2⟩ | ⟨h1,h2⟩
 ·obtain⟨i1,r1,p1,_⟩:=I.list h1
  obtain⟨i2,r2,p2,_⟩:=I.list h2
  refine SeqAt.RcNeAt.lists (e:=fun _=>true) p1.isList p2.isList (by simp;rw[← r1.length,← r2.length,hl]) (by omega) (wZ I r1 r2 hu hi) _ _ _ _ ⟨.bl false,H,I,?_,q⟩
  have e:((List.range i1.toArray.size).all fun _=>true)=true:=by simp
  rw[e]
  rfl
 ·obtain⟨i1,r1,p1,_⟩:=I.tuple h1
  obtain⟨i2,r2,p2,_⟩:=I.tuple h2
  have z:i1.toArray.size=i2.toArray.size:=by simp;rw[← r1.length,← r2.length,hl]
  refine SeqAt.RcNeAt.tuples (e:=fun _=>true) (show s.heap.IsTuple a i1.toArray from p1) (show s.heap.IsTuple b i2.toArray from p2) (by omega) (wZ I r1 r2 hu hi) _ _ _ _ ⟨.bl false,H,I,?_,q⟩
  have e:((List.range i1.toArray.size).all fun _=>true)=true:=by simp
  rw[← z,Nat.min_self,beq_self_eq_true,Bool.and_true,e]
  rfl
end
section
variable {X:Cx}{pins:List (Addr×Obj)}{σ:St}{H G:Hp}{s:Shared}{d:Addr}{od:Obj}{kvs:List (Key×V)}
theorem Inv.froz (I:Inv X pins σ H s) (e:H d=some (.dK kvs)) (q0:s.heap.get? d=some od):Inv X pins σ (upd H d (.frz od (.dK kvs))) s:=by
 have ne:∀ {b:Addr}{o:HO},H b=some o→(∀ kvs,o≠.dK kvs)→upd H d (.frz od (.dK kvs)) b=some o:=fun {b o} q n=>by
  rw[upd_ne (fun z=>by rw[z,e] at q;injection q with q;exact n _ q.symm)];exact q
 have no:∀ {b:Addr},H b=none→upd H d (.frz od (.dK kvs)) b=none:=fun {b} q=>by
  rw[upd_ne (fun z=>by rw[z,e] at q;cases q)];exact q
 refine⟨I.ok,I.os,I.bare,⟨I.base.keep,I.base.slot,fun b o q n x=>no (I.base.free b o q n x),I.base.there,fun b xs q=>ne (I.base.tups b xs q) (fun _ z=>by cases z),fun b o u q=>ne (I.base.frzs b o u q) (fun _ z=>by cases z),fun b ps q=>?_⟩,I.loc,I.cell,no I.free,fun x c q=>no (I.freeC x c q),fun p hp=>?_,fun b o q=>?_,I.len⟩
 ·obtain⟨m,q⟩:=I.base.tbls b ps q
  exact⟨m,ne q (fun _ z=>by cases z)⟩
 ·obtain⟨p1,p2,p3⟩:=I.pin p hp
  exact⟨p1,no p2,p3⟩
 ·have st:∀ {b:Addr}{o:HO},H b=some o→ObjOk X.prog X.w (upd H d (.frz od (.dK kvs))) s.heap b o:=fun {b o} q=>(I.hok b o q).stay (fun c u _ q=>q) (fun c q=>ne q (fun _ z=>by cases z)) fun c xs q=>ne q (fun _ z=>by cases z)
  by_cases c:b=d
  ·subst c
   rw[upd_same] at q
   cases q
   exact⟨q0,st e⟩
  ·rw[upd_ne c] at q
   exact st q
theorem Inv.thaw (I:Inv X pins σ G s) (S:∀ o u,X.H₀ d≠some (.frz o u)) (g:G d=some (.frz od (.dK kvs))):Inv X pins σ (upd G d (.dK kvs)) s:=by
 have ne:∀ {b:Addr}{o:HO},G b=some o→(∀ ob u,o≠.frz ob u)→upd G d (.dK kvs) b=some o:=fun {b o} q n=>by
  rw[upd_ne (fun z=>by rw[z,g] at q;injection q with q;exact n _ _ q.symm)];exact q
 have no:∀ {b:Addr},G b=none→upd G d (.dK kvs) b=none:=fun {b} q=>by
  rw[upd_ne (fun z=>by rw[z,g] at q;cases q)];exact q
 refine⟨I.ok,I.os,I.bare,⟨I.base.keep,I.base.slot,fun b o q n x=>no (I.base.free b o q n x),I.base.there,fun b xs q=>ne (I.base.tups b xs q) (fun _ _ z=>by cases z),fun b o u q=>?_,fun b ps q=>?_⟩,I.loc,I.cell,no I.free,fun x c q=>no (I.freeC x c q),fun p hp=>?_,fun b o q=>?_,I.len⟩
 ·rw[upd_ne (fun(z:b=d)=>S o u (by rw[← z];exact q))]
  exact I.base.frzs b o u q
 ·obtain⟨m,q⟩:=I.base.tbls b ps q
  exact⟨m,ne q (fun _ _ z=>by cases z)⟩
 ·obtain⟨p1,p2,p3⟩:=I.pin p hp
  exact⟨p1,no p2,p3⟩
 ·have st:∀ {b:Addr}{o:HO},ObjOk X.prog X.w G s.heap b o→ObjOk X.prog X.w (upd G d (.dK kvs)) s.heap b o:=fun {b o} q=>q.stay (fun c u _ q=>q) (fun c q=>ne q (fun _ _ z=>by cases z)) fun c xs q=>ne q (fun _ _ z=>by cases z)
  by_cases c:b=d
  ·subst c
   rw[upd_same] at q
   cases q
   exact st (I.hok b _ g).2
  ·rw[upd_ne c] at q
   exact st (I.hok b o q)
theorem KV.getAt:∀ {kvs:List (Key×V)}{vs:List (Key×Value)},KV kvs vs→∀ {i:Nat}{p:Key×V},kvs[i]?=some p→∃ u,vs[i]?=some (p.1,u)∧RelV p.2 u
 |_,_,.nil,i,p,h=>by cases h
 |_,_,.cons (b:=q) r t,0,p,h=>by
  cases h
  exact⟨q.2,by rw[r.1];rfl,r.2⟩
 |_,_,.cons r t,i+1,p,h=>KV.getAt t (i:=i) h
end
theorem zT {X:Cx}{body:List Stmt}{q:TS→Prop}{t:TS}(h:Bx (PSs X body t)) (k:q t):∃ t,PSs X body t∧q t:=⟨t,h.of,k⟩
theorem we {X:Cx}{e:Expr}{t:TT}(h:Bx (PW X e t)):Bx (PT X e t):=⟨h.of.pt⟩
section
variable {X:Cx}
theorem zi {i j pos}:Bx (PE X (.Constant (.int i) j pos) (tC (.int i))):=⟨xg⟩
theorem zE {b j pos}:Bx (PE X (.Constant (.bool b) j pos) (tC (.bl b))):=⟨wM⟩
variable {a b:Expr}{ta tb:TE}{pos:Pos}
theorem wc {op:CmpOp}{t:TE}(h:Bx (PC X op a b t)) (h1:behindInMarks op b=false:=by first | exact nobehind _ (by decide) (by decide) | rfl):Bx (PT X (.Compare a [op] [b] pos) (tB t)):=⟨Wz h.of h1⟩
theorem zJ {e:Expr}{t:TE}(h:Bx (PE X e t)) (he:∀ whole,isTrue e X.env whole=(do let v ← whole;standAt e.pos;holding [v] (truthy v)):=by intro _;rfl):Bx (PT X e (tB t)):=⟨xc h.of he⟩
variable {a b:Expr}{ta tb:TE}{pos:Pos}
variable {tA tB':TT}{rest:List Expr}
theorem z6 (ha:Bx (PT X a tA)):Bx (PW X (.BoolOp .Or [a] pos) tA):=⟨wV ha.of⟩
theorem yc (ha:Bx (PT X a tA)) (hb:Bx (PW X (.BoolOp .Or (b::rest) pos) tB')):Bx (PW X (.BoolOp .Or (a::b::rest) pos) (tOr tA tB')):=⟨vT ha.of hb.of⟩
theorem zN (ha:Bx (PT X a tA)):Bx (PT X (.UnaryOp .Not a pos) (zbx tA)):=⟨xf ha.of⟩
theorem yL {op}{t:TE}(h:Bx (PE X a t)):Bx (PE X (.BoolOp op [a] pos) t):=⟨Yq h.of⟩
theorem xu (ha:Bx (PE X a ta)) (hb:Bx (PE X (.BoolOp .And (b::rest) pos) tb)):Bx (PE X (.BoolOp .And (a::b::rest) pos) (tAndV ta tb)):=⟨Zh ha.of hb.of⟩
theorem Xk (ha:Bx (PE X a ta)):Bx (PE X (.UnaryOp .Not a pos) (Uf ta)):=⟨WB ha.of⟩
end
section
variable {X:Cx}{st:Stmt}{rest:List Stmt}{t u:TS}{e:Expr}{te:TE}{pos:Pos}
theorem zo  : Bx (PSs X [] Ug):=⟨yO⟩
theorem w_pss_cons (h1:Bx (PS X st t)) (h2:Bx (PSs X rest u)):Bx (PSs X (st::rest) (zbv t u)):=⟨zS h1.of h2.of⟩
theorem ze (h1:Bx (PS X st t)):Bx (PSs X [st] t):=⟨yb h1.of⟩
theorem zO (he:Bx (PE X e te)) (hs:swapsWith e none pos.line X.env=pure false:=by rfl):Bx (PS X (.Expr e pos) (Uj te)):=⟨uv he.of hs⟩
theorem zj (he:Bx (PE X e te)):Bx (PS X (.Return (some e) pos) (zbw te)):=⟨yQ he.of⟩
theorem zB {c:Expr}{a b:List Stmt}{tc:TT}(hc:Bx (PT X c tc)) (ha:Bx (PSs X a t)) (hb:Bx (PSs X b u)):Bx (PS X (.If c a b pos) (zbz tc t u)):=⟨vo hc.of ha.of hb.of⟩
theorem wS  : Bx (PS X st Wp):=⟨vn⟩
end
section
variable {X:Cx}{pos:Pos}
theorem zk {i:Nat}{x:Str}(hN:X.N.Nodup) (hi:X.N[i]?=some x) (hx:Loc X.env.scope x) (hf:X.fn x=true∨X.env.scope.names.lookup x=some .local:=by first | exact .inl rfl | exact .inr rfl | assumption):Bx (PG X (.Name x pos) (v9 i)):=⟨xQ hN hi hx hf⟩
theorem zP  : Bx (PGs X [] gNil):=⟨Yo⟩
theorem zp {e:Expr}{es:List Expr}{t:TG}{u:TGs}(h1:Bx (PG X e t)) (h2:Bx (PGs X es u)) (hs:(assignEach (e::es) X.env).map (·.2)=assign e X.env::(assignEach es X.env).map (·.2):=by rfl):Bx (PGs X (e::es) (zab t u)):=⟨vp h1.of h2.of hs⟩
theorem zZ {es:List Expr}{k:Nat}{t:TGs}{n:Nat}(hc:X.calm=true) (h:Bx (PGs X es t)) (hn:(assignEach es X.env).length=n:=by rfl) (hst:(assignEach es X.env).findIdx? (·.1)=none:=by rfl):Bx (PG X (.Tuple es k pos) (zb2 X.K n t)):=⟨WA hc h.of hn hst⟩
theorem w_ps_set {i:Nat}{x:Str}{e:Expr}{te:TE}{pos':Pos}(hN:X.N.Nodup) (hi:X.N[i]?=some x) (hx:Loc X.env.scope x) (he:Bx (PE X e te)) (hs:swapsWith e (some (.Name x pos')) pos.line X.env=pure false:=by rfl) (hf:X.fn x=true∨X.env.scope.names.lookup x=some .local:=by first | exact .inl rfl | exact .inr rfl | assumption):Bx (PS X (.Assign [.Name x pos'] e pos) (zaB te (v9 i))):=⟨vU hN hi hx he.of hs hf⟩
end
section
variable {X:Cx}{tg:Expr}
theorem zy {l:Expr}{tl:TE}(hl:Bx (PE X l tl)):Bx (PI X tg l (U9 X.K tl)):=⟨wy hl.of⟩
theorem zG {iter:Expr}{body:List Stmt}{wi:TI}{g:TG}{tb:TS}{pos:Pos}(hp:PassesOwn (model X.prog X.w) X.A X.env X.xe) (hc:X.calm=true) (hi:Bx (PI X tg iter wi)) (hg:Bx (PG X tg g)) (hb:Bx (PSs X body tb)) (hs:∀ x,foldedSetIterable iter X.env x=pure x:=by intro _;rfl):Bx (PS X (.For tg iter body [] pos) (zbA wi g tb)):=⟨vV hp hc hi.of hg.of hb.of hs⟩
end
section
variable {X:Cx}{a b c:Expr}{ta tb tc:TE}{pos:Pos}
theorem xj {op:UnaryOp}{r:V→Hp→VK→Prop}(ho:UnR X (unaryOp op) r) (ha:Bx (PE X a ta)):Bx (PE X (.UnaryOp op a pos) (tUn r ta)):=⟨UH ho ha.of⟩
theorem z7 {op:CmpOp}{r:R2}(ho:OpR X (compareOp op) r) (ha:Bx (PE X a ta)) (hb:Bx (PE X b tb)) (hm:behindInMarks op b=false):Bx (PE X (.Compare a [op] [b] pos) (tOp r ta tb)):=⟨vq ho ha.of hb.of hm⟩
theorem zn {op:CmpOp}{r:R2}(ho:OpR X (compareOp op) r) (ha:Bx (PE X a ta)) (hb:Bx (PE X b tb)) (hm:behindInMarks op b=false):Bx (PT X (.Compare a [op] [b] pos) (Ue (tOp r ta tb))):=⟨xP ho ha.of hb.of hm⟩
end
section
variable {X:Cx}{o e value:Expr}{f:Str}{pos pos' tpos:Pos}{ta tv:TE}
theorem uS (ha:Bx (PE X o ta)) (hv:Bx (PE X value tv)) (hs:swapsWith value (some (.Attribute o f pos')) pos.line X.env=pure false):Bx (PS X (.Assign [.Attribute o f pos'] value pos) (zbT X.K ta tv f)):=⟨Zc ha.of hv.of hs⟩
end
section
variable {X:Cx}{e:Expr}{es:List Expr}{te:TE}{t:TA}{pos:Pos}
theorem zd  : Bx (PA X [] Xw):=⟨yf⟩
theorem zr (ha:Bx (PE X e te)) (hr:Bx (PA X es t)) (hs:starEach (e::es) X.env=(false,eval e X.env)::starEach es X.env:=by rfl):Bx (PA X (e::es) (xl te t)):=⟨yU ha.of hr.of hs⟩
theorem zM (h:Bx (PA X es t)):Bx (PE X (.List es pos) (zby t)):=⟨WC h.of⟩
end
section
variable {X:Cx}{CX:CXT}{k:Nat}{f C:Addr}{fd:FuncData}{ps:List Str}{sp:Sp}{dvs:List V}{ds:List Value}{E:XK}{x m:Str}{p pos apos:Pos}{e o:Expr}{es:List Expr}{ta:TE}{t:TA}
theorem V5 {pl:Sem Bool}(he:Bx (PE X o ta)) (c:Cls X.K C) (hm:Meth X.K C m f) (F:FnOk X.prog X.w X.K X.mg X.base CX k f fd ps sp) (hr:Room k X.A) (hb:Binds X.K fd ps ds) (hd:Vals dvs ds) (hx:wL CX X E) (ha:Bx (PA X (e::es) t)) (hst:starEach (e::es) X.env=(false,eval e X.env)::starEach es X.env:=by rfl) (hpl:(backTo pos (starEach es X.env)).any (·.1)=false:=by rfl) (ht:eval (.Call (.Attribute o m apos) (e::es) [] pos) X.env=(do
   let ov ← eval o X.env
   standAt apos.atName
   let (f,first) ← holding [ov] (getMethod ov m pl)
   callWith pos f first (backTo pos (starEach (e::es) X.env)) (backToKw pos (keywordEach [] X.env))):=by rfl):Bx (PE X (.Call (.Attribute o m apos) (e::es) [] pos) (Uh C m sp dvs E ta t)):=⟨Vv he.of c hm F hr hb hd hx ha.of hst hpl ht⟩
end
section
variable {X:Cx}{x:Str}{p pos:Pos}{e:Expr}{es:List Expr}{t:TA}{id T:String}{r:List V→Hp→VK→Prop}
theorem zm (hc:xr X (.builtin id) r) (hg:Gl X x) (hm:X.mg x=none) (hv:bootBuiltins x=some (.builtin id)) (ha:Bx (PA X (e::es) t)) (hn:x ≠ "__name__" := by decide) (hdb:(x == ("__debug__" : Str))=false:=by decide) (he:starEach (e::es) X.env=(false,eval e X.env)::starEach es X.env:=by rfl) (hpl:(backTo pos (starEach es X.env)).any (·.1)=false:=by rfl):Bx (PE X (.Call (.Name x p) (e::es) [] pos) (tCB r t)):=⟨yq hc hg hm hv ha.of hn hdb he hpl⟩
theorem yn (hc:xr X (.type T) r) (hg:Gl X x) (hm:X.mg x=none) (hv:bootBuiltins x=some (.type T)) (ha:Bx (PA X (e::es) t)) (hn:x ≠ "__name__" := by decide) (hdb:(x == ("__debug__" : Str))=false:=by decide) (he:starEach (e::es) X.env=(false,eval e X.env)::starEach es X.env:=by rfl) (hpl:(backTo pos (starEach es X.env)).any (·.1)=false:=by rfl):Bx (PE X (.Call (.Name x p) (e::es) [] pos) (tCB r t)):=⟨vX hc hg hm hv ha.of hn hdb he hpl⟩
end
section
variable {X:Cx}{a b:Expr}{ta tb:TE}{pos:Pos}
theorem zL {r:R2}(hr:IxR X r) (ha:Bx (PE X a ta)) (hb:Bx (PE X b tb)) (hs:Xg b):Bx (PE X (.Subscript a b pos) (tOp r ta tb)):=⟨uy hr ha.of hb.of hs⟩
variable {o e:Expr}{es:List Expr}{to:TE}{t:TA}{name:Str}{apos cpos:Pos}{T id:String}{r:V→List V→Hp→VK→Prop}
theorem yi (pa:PlainAttrs T) (slot:Slot T name id) (hty:typeOf (.builtin id)=pure (.type "method_descriptor")) (hm:MtR X id r) (ho:Bx (PE X o to)) (ha:Bx (PA X (e::es) t)) (hbase:attributeBase o name X.env (eval o X.env)=eval o X.env:=by rfl) (hfew:((backTo cpos (starEach (e::es) X.env)).all (fun x=>!x.1)&&(backToKw cpos (keywordEach [] X.env)).all (fun x=>x.1.isSome)
   && decide ((e::es).length+([]:List Keyword).length+(if ([]:List Keyword).isEmpty then 0 else 1)<30))=true:=by rfl) (hline:(apos.endLine == cpos.line)=true:=by rfl) (hs:starEach (e::es) X.env=(false,eval e X.env)::starEach es X.env:=by rfl) (hplain:(backTo cpos (starEach es X.env)).any (·.1)=false:=by rfl):Bx (PE X (.Call (.Attribute o name apos) (e::es) [] cpos) (tBM X.K T r to t)):=⟨Vy pa slot hty hm ho.of ha.of hbase hfew hline hs hplain⟩
end
section
variable {X:Cx}{o i e value:Expr}{pos pos' tpos:Pos}{td ty tv:TE}
theorem zH (hu:X.A.units+1<cLine) (ho:Bx (PE X o td)) (hi:Bx (PE X i ty)) (hs:zbq i):Bx (PE X (.Subscript o i pos) (Um td ty)):=⟨uA hu ho.of hi.of hs⟩
theorem uV (hu:X.A.units+1<cLine) (hi:Bx (PE X i ty)) (ho:Bx (PE X o td)):Bx (PC X .In i o (zbB ty td)):=⟨WE hu hi.of ho.of⟩
theorem wk (hu:X.A.units+1<cLine) (ho:Bx (PE X o td)) (hi:Bx (PE X i ty)) (hv:Bx (PE X value tv)) (hs:swapsWith value (some (.Subscript o i pos')) pos.line X.env=pure false):Bx (PS X (.Assign [.Subscript o i pos'] value pos) (Uw td ty tv)):=⟨uw hu ho.of hi.of hv.of hs⟩
end
section
variable {X:Cx}{pos:Pos}
theorem xI  : Bx (PE X (.Dict [] [] pos) Wr):=⟨Zg⟩
theorem yY  : Bx (PE X (.Dict [] [] pos) Wq):=⟨Zf⟩
end
section
variable {X:Cx}
theorem zh (i:Nat){x:Str}{pos:Pos}(hN:X.N[i]?=some x:=by rfl) (hv:Vis X.env.scope x:=by first | exact Or.inl rfl | exact Or.inr (Or.inl rfl) | exact Or.inr (Or.inr rfl)) (hd:(x == ("__debug__" : Str))=false:=by decide) (hcd:(x == ("__classdict__" : Str))=false:=by decide):Bx (PE X (.Name x pos) (Z4 i)):=⟨pv i hN hv hd hcd⟩
end
section
variable {X:Cx}{k:Nat}{f C:Addr}{fd:FuncData}{ps:List Str}{sp:Sp}{x m:Str}{p pos apos:Pos}{e o:Expr}{es:List Expr}{ta:TE}{t:TA}
theorem zq (c:Callee X.prog X.w X.K X.mg X.base x f fd ps k sp) (hr:Room k X.A) (ha:Bx (PA X (e::es) t)) (hg:Gl X x:=by rfl) (hdb:(x == ("__debug__" : Str))=false:=by decide) (he:starEach (e::es) X.env=(false,eval e X.env)::starEach es X.env:=by rfl) (hpl:(backTo pos (starEach es X.env)).any (·.1)=false:=by rfl):Bx (PE X (.Call (.Name x p) (e::es) [] pos) (ZD sp [] E0 t)):=⟨WD c hr ha.of hg hdb he hpl⟩
theorem zx {pl:Sem Bool}(he:Bx (PE X o ta)) (ha:Bx (PA X (e::es) t)) (hst:starEach (e::es) X.env=(false,eval e X.env)::starEach es X.env:=by rfl) (hpl:(backTo pos (starEach es X.env)).any (·.1)=false:=by rfl) (ht:eval (.Call (.Attribute o m apos) (e::es) [] pos) X.env=(do
   let ov ← eval o X.env
   standAt apos.atName
   let (f,first) ← holding [ov] (getMethod ov m pl)
   callWith pos f first (backTo pos (starEach (e::es) X.env)) (backToKw pos (keywordEach [] X.env))):=by rfl):Bx (PE X (.Call (.Attribute o m apos) (e::es) [] pos) (vN X m ta t)):=⟨XA he.of ha.of hst hpl ht⟩
theorem zK {pl:Sem Bool}(he:Bx (PE X o ta)) (ht:eval (.Call (.Attribute o m apos) [] [] pos) X.env=(do
   let ov ← eval o X.env
   standAt apos.atName
   let (f,first) ← holding [ov] (getMethod ov m pl)
   callWith pos f first (backTo pos (starEach [] X.env)) (backToKw pos (keywordEach [] X.env))):=by rfl):Bx (PE X (.Call (.Attribute o m apos) [] [] pos) (vN X m ta Xw)):=⟨Yr he.of ht⟩
end
section
theorem yh {X:Cx}{x:Str}{n:String}{pos:Pos}(hm:X.mg x=none) (hv:bootBuiltins x=some (.type n)) (hg:Gl X x:=by rfl) (hn:x ≠ "__name__" := by decide) (hd:(x == ("__debug__" : Str))=false:=by decide):Bx (PE X (.Name x pos) (tC (.ty n))):=⟨wW hm hv hg hn hd⟩
end
section
variable {X:Cx}{es:List Expr}{t:TA}{te:TE}
theorem zg {x pos}(ha:Bx (PE X (.Name x pos) te)) (hr:Bx (PA X es t)):Bx (PA X (.Name x pos::es) (xl te t)):=⟨xV ha.of hr.of⟩
end
def Th (G:Hp) (Q:Hp→Prop) (H:Hp):Prop:=Q H∨∃ (d:Addr) (od:Obj) (kvs:List (Key×V)),(∀ o u,G d≠some (.frz o u))∧H d=some (.frz od (.dK kvs))∧Q (upd H d (.dK kvs))
def zb7 (G:Hp) (t:TE):TE:=fun σ H Q=>t σ H fun v=>Th G (Q v)
def zb6 (G:Hp) (t:TS):TS:=fun D σ H=>t ⟨fun σ=>Th G (D.nx σ),fun v=>Th G (D.rt v),fun σ=>Th G (D.bk σ),fun σ=>Th G (D.ct σ)⟩ σ H
section
variable {X:Cx}{pins:List (Addr×Obj)}{σ:St}{H G:Hp}{s:Shared}{d:Addr}{od:Obj}{kvs:List (Key×V)}
theorem Th.inv {Q:Hp→Prop}(I:Inv X pins σ H s) (h:Th X.H₀ Q H):∃ H',Inv X pins σ H' s∧Q H':=by
 rcases h with h | ⟨d,od,kvs,S,g,h⟩
 ·exact⟨_,I,h⟩
 ·exact⟨_,I.thaw S g,h⟩
theorem ZU {e:Expr}{t:TE}(h:Bx (PE X e t)):Bx (PE X e (zb7 X.H₀ t)):=by
 have h:=h.of
 refine⟨?_⟩
 intro pins s σ H Q I q
 refine thn (h pins s σ H _ I q) fun u s' hq0=>?_
 obtain⟨v,H',I',r,q'⟩:=hq0
 obtain⟨H2,I2,q2⟩:=Th.inv I' q'
 exact⟨v,H2,I2,r,q2⟩
theorem vF {st:Stmt}{t:TS}(h:Bx (PS X st t)):Bx (PS X st (zb6 X.H₀ t)):=by
 have h:=h.of
 refine⟨?_⟩
 intro pins s σ H D I q
 refine thn (h pins s σ H _ I q) fun f s' q'=>?_
 cases f with
 |next=>obtain⟨σ',H',I',q'⟩:=q';obtain⟨H2,I2,q2⟩:=Th.inv I' q';exact⟨_,_,I2,q2⟩
 |cont=>obtain⟨σ',H',I',q'⟩:=q';obtain⟨H2,I2,q2⟩:=Th.inv I' q';exact⟨_,_,I2,q2⟩
 |brk=>obtain⟨σ',H',I',q'⟩:=q';obtain⟨H2,I2,q2⟩:=Th.inv I' q';exact⟨_,_,I2,q2⟩
 |ret v=>obtain⟨x,σ',H',I',r,q'⟩:=q';obtain⟨H2,I2,q2⟩:=Th.inv I' q';exact⟨_,_,_,I2,r,q2⟩
theorem VP {P:Program}{w:World}{k:Key}{u:Value}(h:(zI P w).is k u=true):RelV (kV k) u:=by
 rw[ZF] at h
 cases k with
 |inl i=>cases u<;>simp[vz,Value.isInt] at h<;>(subst h;exact⟨_,rfl⟩)
 |inr x=>cases u<;>simp[vz,Value.isStrOf] at h<;>(subst h;exact⟨_,rfl⟩)
theorem xp:entryFor table "dict_itemiterator.__iter__" = some Builtin.«dict_keyiterator.__iter__» :=
 entryFor_alias (id' := "dict_keyiterator.__iter__") (by kernel_rfl) rfl (by decide +kernel) (by kernel_rfl)
theorem ww {prog:Program}{w:World}{A:Around}{E:Value→Shared→Prop}{s:Shared}{it d:Addr}{i n ep:Nat}{ok ov:Value}{Q:Value→Shared→Prop}(hit:IsItemIter s.heap it d i n ep ok ov) (h:Q (.ref it) s):wpAny (model prog w) A (pyIter (.ref it)) Q E s:=by
 have ti:s.TypeIs (.ref it) "dict_itemiterator" := ⟨_,hit,rfl⟩
 refine wpAny_pyIter_slot ti F.slot_dict_itemiterator_iter (wpAny_call_entry F.slot_dict_itemiterator_iter ti xp ?_ (F.args_dict_itemiterator_iter_1 _))
 show wpAny _ _ (ret (.ref it)) _ _ s
 exact wpAny_pure ⟨_,rfl, "dict_itemiterator",_,ti,F.slot_dict_itemiterator_next.lookup,h⟩
abbrev YL:=Key×V→V→Hp→Hp→Prop
def yI:YL:=fun kv x H H'=>∃ p,H p=none∧x=.ref p∧H'=upd H p (.tup [kV kv.1,kv.2])
noncomputable def Itd (yl:YL) (d:Addr) (od:Obj) (kvs:List (Key×V)):It :=
 ⟨fun i H=>H d=some (.frz od (.dK kvs))∧i<kvs.length,fun i H x H'=>∃ kv,kvs[i]?=some kv∧yl kv x H H',fun i H=>H d=some (.frz od (.dK kvs))∧kvs.length≤i⟩
theorem ur {P:Program}{w:World}{K:PySem.W.Frag}{es:List Expr}{n:Nat}{tp:Pos}{it d:Addr}{od:Obj}{kvs:List (Key×V)}{vs:List (Key×Value)}{ep:Nat}(rel:KV kvs vs)
  (da:∀ h:Heap,h.get? d=some od→Heap.DictAt (zI P w) h d vs ep):Turn P w K (.Tuple es n tp) (Itd yI d od kvs) [it] it (fun i h=>∃ ok ov,IsItemIter h it d i vs.length ep ok ov) where
 mem:=by simp
 obj:=fun i h ⟨ok,ov,st⟩ b hb=>by
  rw[List.mem_singleton.mp hb]
  exact⟨_,st,fun v z=>by
   have z':Data.fields _=Data.cell v:=z
   cases z'⟩
 keep:=fun i h h' ⟨ok,ov,st⟩ k=>⟨ok,ov,k it (by simp) _ st⟩
 item:=by
  intro X hP hw hK hc i pins s σ H E I hf st hg
  subst hP hw hK
  obtain⟨ok,ov,st⟩:=st
  have fi:=hf it (by simp)
  have d3:=(I.hok d _ hg.1).1
  have hx:kvs[i]?=some (kvs[i]'hg.2):=List.getElem?_eq_getElem hg.2
  obtain⟨u,hu,ru⟩:=rel.getAt hx
  refine wpAny_pyNext_items_item st (da _ d3) hu fun key h1 hkey O1 T1 z1 kk=>?_
  refine⟨_,rfl,wpAny_letOwnedTupleGo_items (s:={ s with heap:=h1 }) O1 fun h2 E2 sb=>?_⟩
  have te:s.heap.objs.size≠it:=(Nat.ne_of_lt (Heap.lt_size st)).symm
  have T2:=sb.extBut _ _ te T1
  have k2:∀ c o,c∉[it]→s.heap.get? c=some o→h2.get? c=some o:=fun c o hc q=>by
   have hc:c≠it:=by simpa using hc
   exact sb.extBut c o hc (kk c o hc q)
  have hn:H s.heap.objs.size=none:=I.fresh
  refine⟨.ref s.heap.objs.size,upd H s.heap.objs.size (.tup [kV (kvs[i]'hg.2).1,(kvs[i]'hg.2).2]),I.turnedLaid (t':=s.toks) (ch:=[it]) hf k2 (Nat.le_refl _) ⟨by show 2≤sizeLine;decide,[key,u],.cons (VP hkey) (.cons ru .nil),⟨_,T2,rfl,_,rfl⟩⟩,rfl,
   ⟨_,hx,_,hn,rfl,rfl⟩,⟨_,_,E2⟩,fun c hc=>?_⟩
  rw[List.mem_singleton.mp hc,upd_ne te.symm]
  exact fi.1
 done:=by
  intro X hP hw hK hc i pins s σ H E I hf st hg
  subst hP hw hK
  obtain⟨ok,ov,st⟩:=st
  obtain⟨f0,f1,f2,f3,f4,f5⟩:=hf it (by simp)
  have d3:=(I.hok d _ hg.1).1
  have lv:=rel.length
  exact wpAny_pyNext_items_end (I.ok.hd hc) st (da _ d3) (List.getElem?_eq_none (by have:=hg.2;omega)) fun h' kk=>⟨rfl,I.turned (t':=s.toks) (fun b o hb q=>kk b o hb q) f0 f1 f3 f4 f5⟩
 self:=fun _ _ _ _ _ ⟨_,_,st⟩ h=>ww st h
def zcp (yl:YL) (G:Hp) (td:TE):TI:=fun σ H R=>td σ H fun x H1=>∃ (d:Addr) (kvs:List (Key×V)),x=.ref d∧H1 d=some (.dK kvs)∧∀ od:Obj,(∀ o u,G d≠some (.frz o u))→R (Itd yl d od kvs) (upd H1 d (.frz od (.dK kvs)))
theorem VU {x:Addr}(I:Inv X pins σ H s) (e:H d=some (.dK kvs)):∀ o u,X.H₀ d≠some (.frz o u):=fun o u z=>by
 have:=I.base.frzs d o u z
 rw[e] at this;cases this
theorem xi {o:Expr}{es:List Expr}{n:Nat}{tp:Pos}{td:TE}{apos cpos:Pos}(ho:Bx (PE X o td)) (hbase:attributeBase o "items" X.env (eval o X.env)=eval o X.env:=by rfl) (hline:(apos.endLine == cpos.line)=true:=by rfl):Bx (PI X (.Tuple es n tp) (.Call (.Attribute o "items" apos) [] [] cpos) (zcp yI X.H₀ td)):=by
 have ho:=ho.of
 refine⟨?_⟩
 intro pins s σ H R I h
 refine wpAny_Call_method0_late hbase hline (thn (ho pins s σ H _ I h) fun v s1 hq0=>?_)
 obtain⟨x,H1,I1,rx,d,kvs,ex,e,q⟩:=hq0
 subst ex
 obtain rfl:v=Value.ref d:=rx
 obtain⟨t1,t2,_⟩:=va I1 (.inl ⟨_,.inl e⟩)
 obtain⟨z,hd,vs,rel,dd⟩:=uK I1.hok e
 refine⟨"dict", "dict.items",PySem.F.plainAttrs_dict,PySem.F.slot_dict_items,PySem.F.type_dict_items,t1,t2,Calls.callWith_builtin rfl (PySem.evalArgs_none ?_)⟩
 refine call_meetsIn PySem.F.slot_dict_items dd.typeIs PySem.F.entry_dict_items (PySem.F.args_dict_items_1 _) (meets_dict_items (zI X.prog X.w) d hd) ⟨⟨vs,dd⟩,?_⟩
 obtain⟨od,es',ep,q1,q2,q3,q4,q5,q6⟩:=dd
 have da:∀ h':Heap,h'.get? d=some od→Heap.DictAt (zI X.prog X.w) h' d vs ep:=fun _ q=>⟨od,es',q,q2,q3,q4,q5,q6⟩
 refine wpAny_pyIter_items (s:={ s1 with heap:=s1.heap.push _ }) (d:=d) ⟨_,Heap.get?_push_size _ rfl,rfl,rfl⟩ (da _ (Heap.get?_push_of_some _ q1)) ?_
 have hle:s1.heap.objs.size≤(s1.heap.push { cls:=.type "dict_items",data:=.fields #[.ref d] }).objs.size:=by rw[Heap.size_push];exact Nat.le_succ _
 have I1f:=I1.froz e q1
 refine⟨_,[(s1.heap.push { cls:=.type "dict_items",data:=.fields #[.ref d] }).objs.size],_,_,_,rfl,I1f.kept (t':=s1.toks) fun b u q=>Heap.get?_push_of_some _ (Heap.get?_push_of_some _ q),ur rel da,⟨_,_,Heap.get?_push_size _ rfl⟩,fun b hb=>?_,q od (VU (x:=d) I1 e)⟩
 rw[List.mem_singleton.mp hb]
 exact I1f.fpOk hle (I1f.hok.fresh hle)
end
theorem Zq {yl:YL}{d:Addr}{od:Obj}{kvs:List (Key×V)}{g:TG}{tb:TS}{D:Ends}{σ:St}{H:Hp}(Pv:Nat→St→Hp→Prop) (h0:Pv 0 σ H) (hf:∀ i σ H,Pv i σ H→H d=some (.frz od (.dK kvs)))
  (hs:∀ i kv x σ H H',kvs[i]?=some kv→Pv i σ H→yl kv x H H'→g x σ H' fun σ2 H2=>tb { D with nx:=Pv (i+1),ct:=Pv (i+1),bk:=D.nx } σ2 H2) (hd:∀ σ H,Pv kvs.length σ H→D.nx σ H) :
  ∃ W:Nat→Nat→St→Hp→Prop,(∃ m,W 0 m σ H)∧∀ i m σ H,W i m σ H →
   ((Itd yl d od kvs).stop i H∧D.nx σ H)∨((Itd yl d od kvs).go i H∧∃ N:St→Hp→Prop,(∀ σ' H',N σ' H'→∃ m',m'<m∧W (i+1) m' σ' H')∧∀ x H',(Itd yl d od kvs).yld i H x H'→g x σ H' fun σ2 H2=>tb { D with nx:=N,ct:=N,bk:=D.nx } σ2 H2):=by
 refine⟨fun i m σ H=>m=kvs.length-i∧i≤kvs.length∧Pv i σ H,⟨_,rfl,Nat.zero_le _,h0⟩,?_⟩
 rintro i m σ H ⟨rfl,hi,p⟩
 have q:=hf i σ H p
 by_cases hlt:i<kvs.length
 ·refine .inr ⟨⟨q,hlt⟩,Pv (i+1),fun σ' H' z=>⟨_,by omega,rfl,hlt,z⟩,fun x H' ⟨kv,hk,y⟩=>hs i kv x σ H H' hk p y⟩
 ·have e:i=kvs.length:=by omega
  subst e
  exact .inl ⟨⟨q,Nat.le_refl _⟩,hd σ H p⟩
theorem Y8 {yl:YL}{d:Addr}{od:Obj}{kvs:List (Key×V)}{g:TG}{tc:TT}{te:TE}{Q:VK}{D:Addr}{τ0:St}{H0:Hp}(Pv:Nat→List V→St→Hp→Prop) (h0:Pv 0 [] τ0 H0) (hf:∀ i zs τ H,Pv i zs τ H→H d=some (.frz od (.dK kvs)))
  (hs:∀ i kv x zs τ H H',kvs[i]?=some kv→Pv i zs τ H→yl kv x H H'→g x τ H' fun τ2 H4=>tc τ2 H4 fun b H5 =>
   if b=true then te τ2 H5 fun y H6=>H6 D=some (.lst zs)∧zs.length<sizeLine∧Pv (i+1) (zs++[y]) τ2 (upd H6 D (.lst (zs++[y]))) else Pv (i+1) zs τ2 H5)
  (hd:∀ zs τ H,Pv kvs.length zs τ H→Q (.ref D) H):ZQ (Itd yl d od kvs) g tc te Q D τ0 H0 :=
 uM kvs.length Pv h0 (fun zs τ H p=>⟨⟨hf _ _ _ _ p,Nat.le_refl _⟩,hd zs τ H p⟩) fun i zs τ H hi p=>⟨⟨hf _ _ _ _ p,hi⟩,fun x H3 ⟨kv,hk,y⟩=>hs i kv x zs τ H H3 hk p y⟩
theorem ZP {K:Type} [DecidableEq K]{xs:List (K×Addr×Value)}{k:K}(h:∀ (j:Nat) (p:Addr×Value),xs[j]?≠some (k,p)):atKey xs k=none:=by
 unfold atKey
 rw[Option.map_eq_none_iff,List.find?_eq_none]
 intro x hx e
 obtain⟨j,hj⟩:=List.getElem?_of_mem hx
 have e:x.1=k:=by simpa using e
 exact h j x.2 (by rw[hj,← e])
theorem ZO {K:Type} [DecidableEq K]{xs:List (K×Addr×Value)}{k:K}{j:Nat}{p:Addr×Value}(nd:(xs.map (·.1)).Nodup) (h:xs[j]?=some (k,p)):atKey xs k=some p:=by
 unfold atKey
 have hm:=List.mem_of_getElem? h
 cases hf:xs.find? (fun x=>decide (x.1=k)) with
 |none =>
  rw[List.find?_eq_none] at hf
  exact absurd (hf _ hm) (by simp)
 |some y =>
  have h1:=List.find?_some hf
  have h2:=List.mem_of_find?_eq_some hf
  have e:y.1=k:=by simpa using h1
  obtain⟨i,hi⟩:=List.getElem?_of_mem h2
  have z:i=j:=by
   have a1:(xs.map (·.1))[i]?=some k:=by rw[List.getElem?_map,hi,← e];rfl
   have a2:(xs.map (·.1))[j]?=some k:=by rw[List.getElem?_map,h];rfl
   obtain⟨l1,q1⟩:=List.getElem?_eq_some_iff.mp a1
   obtain⟨l2,q2⟩:=List.getElem?_eq_some_iff.mp a2
   exact(List.getElem?_inj l1 nd).mp (a1.trans a2.symm)
  subst z
  rw[hi] at h
  cases h
  rfl
theorem Wh {prog:Program}{w:World}{K:Type} [DecidableEq K]{knd:HeapKind prog w K}{A:Around}{E:Value→Shared→Prop}{s:Shared}{d a:Addr}{xs:List (K×Addr×Value)}{k:K}{v:Value}{Q:Value→Shared→Prop}
  (hr:knd.room A) (hk:knd.is s.heap k a) (hd:Heap.DictOfH knd s.heap d xs)
  (h1:∀ p,atKey xs k=some p→Q p.2 { s with toks:=s.toks+knd.draws k })
  (h2:atKey xs k=none→∀ h',Heap.DictOfH knd h' d (storedH xs k a v)→Heap.SameBut d s.heap h'→Q v { s with heap:=h',toks:=s.toks+knd.draws k })
  (hz:xs.length≤sizeLine):wpAny (model prog w) A (dictSetDefault d (.ref a) v) Q E s:=by
 obtain⟨o,es,ep,ho,ex,hdat,hes,his,nd⟩:=hd
 unfold dictSetDefault
 refine wpAny_holding (wpAny_bind (knd.pyHash hr hk ?_))
 refine wpAny_bind (wpAny_dictFind_heap hr (s:={ s with toks:=s.toks+knd.draws k }) hk ho hdat hes his nd (fun hn=>?_) fun j p hj=>?_)
 ·have hn':=ZP hn
  refine wpAny_bind (wpAny_rule (wpAny_bind (wpAny_updateDictKeys (s:={ s with toks:=s.toks+knd.draws k }) ho hdat (wpAny_pure (h2 hn' _ ?_ ?_)) ?_ ?_)))
  ·have sb:Heap.SameBut d s.heap (s.heap.update d (Obj.mapDictKeys fun x=>x.push { hash:=knd.hash k,key:=.ref a,val:=v })):=⟨Heap.size_update _ _ _,fun b hb=>Heap.get?_update_ne _ _ _ _ hb⟩
   refine⟨_,es.push { hash:=knd.hash k,key:=.ref a,val:=v },ep+1,Heap.get?_update_self _ ho (by obtain⟨c,dd,dt,sl⟩:=o;cases hdat;rfl),?_,?_,?_,?_,?_⟩
   ·obtain⟨c,dd,dt,sl⟩:=o
    cases hdat
    exact ex
   ·obtain⟨c,dd,dt,sl⟩:=o
    cases hdat
    rfl
   ·rw[storedH_new hn',Array.toList_push,hes,List.map_append]
    rfl
   ·rw[storedH_new hn']
    intro x hx
    rcases List.mem_append.mp hx with z | z
    ·exact knd.keeps (his x z) ho hdat sb
    ·rw[List.mem_singleton.mp z]
     exact knd.keeps hk ho hdat sb
   ·rw[storedH_new hn',List.map_append,List.nodup_append]
    refine⟨nd,by simp,fun x hx y hy e=>?_⟩
    have hy:y=k:=by simpa using hy
    obtain⟨z,hz1,hz2⟩:=List.mem_map.mp hx
    obtain⟨j,hj⟩:=List.getElem?_of_mem hz1
    exact hn j z.2 (by rw[hj,← hy,← e,← hz2])
  ·exact⟨Heap.size_update _ _ _,fun b hb=>Heap.get?_update_ne _ _ _ _ hb⟩
  ·have:es.size=xs.length:=by
    rw[← Array.length_toList,hes,List.length_map]
   omega
  ·simp
 ·have e1:=ZO nd hj
  refine wpAny_bind (wpAny_dictEntries (s:={ s with toks:=s.toks+knd.draws k }) ho hdat ?_)
  have:es[j]?=some (entryOfKey knd (k,p)):=by
   rw[← Array.getElem?_toList,hes,List.getElem?_map,hj]
   rfl
  rw[this]
  exact wpAny_bind (wpAny_rule (wpAny_pure (h1 p e1)))
theorem yR {prog:Program}{w:World}{K:Type} [DecidableEq K] (knd:HeapKind prog w K) (d a:Addr) (hd:(d == sysModules)=false) (v:Value) :
  MeetsIn prog w (Builtin.«dict.setdefault» ⟨[.ref d,.ref a,v],[]⟩) fun A R s=>knd.room A.in1∧s.TypeIs (.ref d) "dict" ∧ ∃ k xs,knd.is s.heap k a∧Heap.DictOfH knd s.heap d xs∧xs.length≤sizeLine ∧
   (∀ p,atKey xs k=some p→R (.ok (.ret p.2)) { s with toks:=s.toks+knd.draws k }) ∧
   (atKey xs k=none→∀ h',Heap.DictOfH knd h' d (storedH xs k a v)→Heap.SameBut d s.heap h'→R (.ok (.ret v)) { s with heap:=h',toks:=s.toks+knd.draws k }):=by
 intro A R s ⟨hr,ht,k,xs,hk,hx,hz,h1,h2⟩
 unfold Builtin.«dict.setdefault»
 refine wpAny_bind ?_
 unfold Builtin.Dict.keyAndDefault
 refine wpAny_bind (wpAny_notOrdered_dict ht ?_)
 show wpAny _ _ (pure (d,Value.ref a,some v)) _ _ _
 refine wpAny_pure ?_
 show wpAny _ _ (if (d == sysModules)=true then _ else _) _ _ _
 rw[if_neg (by rw[hd];simp)]
 refine wpAny_bind (Wh hr hk hx (fun p hp=>?_) (fun hn h' hh sb=>?_) hz)
 ·exact wpAny_pure (h1 p hp)
 ·exact wpAny_pure (h2 hn h' hh sb)
def zbr (H:Hp) (a:Addr) (y v:V) (Q:V→Hp→Prop):Prop :=
 (∃ kvs k,H a=some (.dK kvs)∧y=kV k∧kvs.length<sizeLine∧(∀ x,yE kvs k=some x→Q x H)∧(yE kvs k=none→Q v (upd H a (.dK (putK kvs k v))))) ∨
 ∃ kvs k b,H a=some (.dT kvs)∧y=.ref b∧H b=some (.tup (k.map kV))∧kvs.length<sizeLine∧(∀ x,yE kvs k=some x→Q x H)∧(yE kvs k=none→Q v (upd H a (.dT (putK kvs k v))))
section
variable {X:Cx}{pins:List (Addr×Obj)}{σ:St}{H:Hp}{s:Shared}{a:Addr}{y v:V}{u r:Value}{A:Around}{E:Value→Shared→Prop}
theorem Wi {Q:Value→Shared→Prop}{C:V→Hp→Prop}(hu:A.units+1<cLine) (I:Inv X pins σ H s) (g:zbr H a y v C) (ry:RelV y u) (rv:RelV v r) (h:∀ x H' w' s',C x H'→Inv X pins σ H' s'→RelV x w'→Q w' s') :
  wpAny (model X.prog X.w) A (call (.builtin "dict.setdefault") [.ref a,u,r]) Q E s:=by
 rcases g with⟨kvs,k,e,ey,l,c1,c2⟩ | ⟨kvs,k,b,e,ey,eb,l,c1,c2⟩
 ·subst ey
  obtain⟨z,hd,vs,rel,dd⟩:=uK I.hok e
  have hz:vs.length≤sizeLine:=by rw[← rel.length];exact z
  have hl:(putK kvs k v).length≤sizeLine:=by have:=yy kvs k v;omega
  refine call_meetsIn PySem.F.slot_dict_setdefault dd.typeIs PySem.F.entry_dict_setdefault (PySem.F.args_dict_setdefault_3 _ _ _) (kt_meets_setdefault (zI X.prog X.w) a (wP ry) hd r) ⟨vs,dd,hz,fun w' hw=>?_,fun hn h' dd' hs=>?_⟩
  ·have q:=rel.val k
   rw[hw] at q
   cases hv:yE kvs k with
   |none=>rw[hv] at q;exact False.elim q
   |some x =>
    rw[hv] at q
    exact h x H w' _ (c1 x hv) (I.tok _) q
  ·have q:=rel.val k
   rw[hn] at q
   cases hv:yE kvs k with
   |some x=>rw[hv] at q;exact False.elim q
   |none =>
    have he:∃ q,h'.get? a=some q:=let ⟨q,_,_,hq,_⟩:=dd';⟨q,hq⟩
    exact h v _ r _ (c2 hv) (xT I (by rw[e];exact True.intro) hs he (ua hl hd (rel.put k rv) dd')) rv
 ·subst ey
  cases (show u=Value.ref b from ry)
  obtain⟨z,hd,xs,rel,dd⟩:=uJ I.hok e
  have hz:xs.length≤sizeLine:=by rw[← Paired.length rel];exact z
  have hl:(putK kvs k v).length≤sizeLine:=by have:=yy kvs k v;omega
  refine call_meetsIn PySem.F.slot_dict_setdefault dd.typeIs PySem.F.entry_dict_setdefault (PySem.F.args_dict_setdefault_3 _ _ _) (yR (tupleKind (zI X.prog X.w)) a b hd r) ⟨tupleKind_room_in1 hu,dd.typeIs,k,xs,xZ I.hok eb,dd,hz,fun p hp=>?_,fun hn h' dd' hs=>?_⟩
  ·have q:=rel.val k
   rw[hp] at q
   cases hv:yE kvs k with
   |none=>rw[hv] at q;exact False.elim q
   |some x =>
    rw[hv] at q
    exact h x H p.2 _ (c1 x hv) (I.tok _) q
  ·have q:=rel.val k
   rw[hn] at q
   cases hv:yE kvs k with
   |some x=>rw[hv] at q;exact False.elim q
   |none =>
    obtain⟨q,es,ep,hq,h2,h3,h4,_,h5⟩:=dd'
    refine h v _ r _ (c2 hv) (xT I (by rw[e];exact True.intro) hs ⟨q,hq⟩ ⟨hl,hd,_,(rel.put k eb rv).keeps fun c ys ec=>?_,q,es,ep,hq,h2,h3,h4,h5⟩) rv
    rw[upd_ne (VM ec e (fun z=>nomatch z))]
    exact ec
end
def zaA (td ty tx:TE):TE:=fun σ H Q=>td σ H fun x H1=>∃ a,x=.ref a∧IsD H1 a∧ty σ H1 fun y H2=>tx σ H2 fun z H3=>zbr H3 a y z Q
section
variable {X:Cx}{o e f:Expr}{apos cpos:Pos}{td ty tx:TE}
theorem xt (hu:X.A.units+1<cLine) (ho:Bx (PE X o td)) (he:Bx (PE X e ty)) (hf:Bx (PE X f tx)) (m:M2 X o "setdefault" apos e f cpos):Bx (PE X (.Call (.Attribute o "setdefault" apos) [e,f] [] cpos) (zaA td ty tx)):=by
 have ho:=ho.of
 have he:=he.of
 have hf:=hf.of
 refine⟨?_⟩
 intro pins s σ H Q I h
 refine wpAny_Call_method m.base m.few m.line PySem.F.plainAttrs_dict PySem.F.slot_dict_setdefault PySem.F.type_dict_setdefault (thn (ho pins s σ H _ I h) fun u s1 hq0=>?_)
 obtain⟨x,H1,I1,rx,a,ex,d,q1⟩:=hq0
 subst ex
 obtain rfl:u=Value.ref a:=rx
 obtain⟨t1,t2,_⟩:=va I1 d
 refine⟨t1,t2,?_⟩
 rw[m.trees]
 refine Calls.callWith_builtin rfl (Calls.evalArgs_plain (Calls.spliced_cons (thn (he pins s1 σ H1 _ I1 q1) fun iv s2 ⟨y,H2,I2,ry,q2⟩ =>
  Calls.spliced_cons (thn (hf pins s2 σ H2 _ I2 q2) fun fv s3 ⟨z,H3,I3,rz,g⟩=>Calls.spliced_nil ?_))))
 exact Wi hu I3 g ry rz fun x H' w' s4 c I4 rw'=>⟨x,H',I4,rw',c⟩
end
end L2
namespace L2
namespace Srt
open PySem PyProof.Rows PySem.W
section
variable {prog:Program}{w:World}{A:Around}{E:Value→Shared→Prop}{s:Shared}
theorem Zp:∀ {ns:LI}{vs:List Value},vs.length=ns.length→(∀ (j:Nat) v n,vs[j]?=some v→ns[j]?=some n→∃ t,v=Value.int n t)→IntsAre vs ns
 |[],[],_,_=>.nil
 |n::ns,v::vs,hl,h=>by
  obtain⟨t,rfl⟩:=h 0 v n rfl rfl
  exact .cons _ _ (Zp (by simpa using hl) fun j v n e1 e2=>h (j+1) v n (by simpa using e1) (by simpa using e2))
 |[],_::_,hl,_=>by simp at hl
 |_::_,[],hl,_=>by simp at hl
theorem vR {d:Addr}{kvs:List (Key×Value)}{ep:Nat}{ns:LI}{Q:Value→Shared→Prop}(lo:(d == sysModules)=false) (hh:A.handled=none) (hD:s.heap.DictAt (zI prog w) d kvs ep) (hk:kvs.map (·.1)=ns.map Sum.inl) (h64:ns.length<64)
  (h:∀ (D:Addr) (h':Heap) (tk:Nat) (out:Array Value) (ms:LI),(∀ b o,s.heap.get? b=some o→h'.get? b=some o)→s.heap.get? D=none→IntsAre out.toList ms→ms.Perm ns→ms.Pairwise (· ≤ ·)→(∃ c,h'.get? D=some (seqObj "list" out c))→Q (.ref D) { s with heap:=h',toks:=tk }) :
  wpAny (model prog w) A (call (.builtin "sorted") [.ref d]) Q E s:=by
 have big:64≤sizeLine:=by decide
 have hlen:kvs.length=ns.length:=by
  have:=congrArg List.length hk
  simpa using this
 refine Calls.call_function_entry kind_sorted plain_sorted entry_sorted (args_sorted1 _) ?_
 unfold Builtin.«sorted»
 refine wpAny_bind (m:=checkCount "sorted" 1 1 _) (wpAny_pure ?_)
 refine wpAny_bind (kdu_collect (A:=A.in1) (kdl_dict (knd:=zI prog w) (kvs:=kvs) (ep:=ep) lo) hh hD (by omega) fun h' tk acc hk' hacc=>?_)
 have hl:acc.toList.length=kvs.length:=by rw[Array.length_toList];exact hacc.1
 have hI:IntsAre acc.toList ns:=Zp (by omega) fun j v n e1 e2=>by
  obtain⟨k,x,hx,hkk⟩:=hacc.2 j v (by rw[← Array.getElem?_toList];exact e1)
  have e3:(kvs.map (·.1))[j]?=some k:=by rw[List.getElem?_map,hx];rfl
  rw[hk,List.getElem?_map,e2] at e3
  obtain rfl:(Sum.inl n:Key)=k:=by simpa using e3
  rcases z5 (k:=Sum.inl n) (v:=v) hkk with⟨i,t,e,rfl⟩ | ⟨i,t,e,rfl⟩
  ·injection e with e
   exact⟨t,by rw[e]⟩
  ·cases e
 refine wpAny_bind (wpAny_newList ?_ (by omega))
 have hoL:(h'.push (seqObj "list" acc.toList.toArray 0)).get? h'.objs.size=some (seqObj "list" acc.toList.toArray 0):=Heap.get?_push_size _ rfl
 refine(show wpAny _ _ _ _ _ { s with heap:=h'.push (seqObj "list" acc.toList.toArray 0),toks:=tk } from ?_)
 refine wpAny_bind (wpAny_holding (wpAny_call_entry slot_list_sort ⟨_,hoL,rfl⟩ entry_list_sort (list_sort_tree hoL hI (by omega) fun out ns' a1 a2 a3=>⟨_,rfl,?_⟩) (args_list_sort _)))
 refine wpAny_pure ⟨_,rfl,h h'.objs.size _ tk out ns' (fun b o e=>?_) ?_ a1 a2 a3 (sortedHeap_at hoL)⟩
 ·have e1:=hk' b o e
  have lt:=Heap.lt_size e1
  rw[sortedHeap_old (Nat.ne_of_lt lt) (by rw[size_push'];exact Nat.lt_succ_of_lt lt)]
  exact Heap.get?_push_of_some _ e1
 ·cases z:s.heap.get? h'.objs.size with
  |none=>rfl
  |some o=>exact absurd (Heap.lt_size (hk' _ _ z)) (Nat.lt_irrefl _)
end
section
variable {X:Cx}{pins:List (Addr×Obj)}{σ:St}{H:Hp}{s:Shared}{h':Heap}
theorem laidF {a:Addr}{o:HO}{t':Nat}(I:Inv X pins σ H s) (k:∀ b u,s.heap.get? b=some u→h'.get? b=some u) (hf:s.heap.get? a=none) (new:ObjOk X.prog X.w (upd H a o) h' a o) :
  Inv X pins σ (upd H a o) { s with heap:=h',toks:=t' }:=by
 have hn:H a=none:=I.hok.untr hf
 have ne:∀ b u,s.heap.get? b=some u→b≠a:=fun b u q z=>by rw[z,hf] at q;cases q
 refine I.un ⟨fun b u q _ _ _=>k b u q,fun b u q _ _ _=>⟨u.slots,k b u q⟩,fun b u q n _=>by rw[upd_ne (ne b u q)];exact n,fun b u q _=>⟨u,k b u q⟩,fun b xs q=>by rw[upd_ne (ne_of_none q hn)];exact q,
  fun b u xs q=>by rw[upd_ne (ne_of_none q hn)];exact q,fun b ps q=>⟨#[],by rw[upd_ne (ne_of_none q hn),q];simp⟩⟩ fun b u e=>?_
 by_cases hb:b=a
 ·subst hb;rw[upd_same] at e;cases e;exact new
 ·rw[upd_ne hb] at e
  exact(I.hok b u e).stay (fun c v _ q=>k c v q) (fun c q=>by rw[upd_ne (ne_of_none q hn)];exact q) fun c xs q=>by rw[upd_ne (ne_of_none q hn)];exact q
theorem KV.keys {κ:Type}:∀ {kvs:List (κ×V)}{vs:List (κ×Value)},KV kvs vs→kvs.map (·.1)=vs.map (·.1)
 |[],_,r=>by cases r;rfl
 |p::kvs,_,r=>by
  cases r with
  |cons h t=>rw[List.map_cons,List.map_cons,KV.keys t,h.1]
def UC:List V→Hp→VK→Prop:=fun xs H Q=>∃ (a:Addr) (kvs:List (Key×V)) (ns:LI),xs=[V.ref a]∧H a=some (.dK kvs)∧kvs.map (·.1)=ns.map Sum.inl∧ns.length<64 ∧
 ∀ (p:Addr) (ms:LI),H p=none→ms.Perm ns→ms.Pairwise (· ≤ ·)→Q (.ref p) (upd H p (.lst (ms.map V.int)))
theorem vd (hc:X.calm=true:=by rfl):xr X (.builtin "sorted") UC:=by
 intro pins s σ H xs us Q I r h
 obtain⟨a,kvs,ns,rfl,ha,hk,h64,q⟩:=h
 obtain⟨u,rfl,ru⟩:=r.one
 cases ru
 have big:64≤sizeLine:=by decide
 obtain⟨hz,lo,vs,rel,hD⟩:=uK I.hok ha
 obtain⟨ep,hat⟩:=hD.dictAt
 refine vR lo (I.ok.hd hc) hat (by rw[← KV.keys rel];exact hk) h64 fun D h' tk out ms k1 k2 a1 a2 a3 k3=>?_
 obtain⟨c,k3⟩:=k3
 exact⟨.ref D,_,laidF (o:=.lst (ms.map V.int)) I k1 k2 ⟨by rw[List.length_map,a2.length_eq];omega,out.toList,c,uD a1,by rw[Array.toArray_toList];exact k3⟩,rfl,q D ms (I.hok.untr k2) a2 a3⟩
end
end Srt
namespace Sco
open PySem PyProof.Rows
noncomputable def VT:Bool→Keyed→Array Keyed→Nat→Nat→Nat→StateT SortSt Sem (Option Nat):=sortPriv% PySem.Builtin.gallop
noncomputable def XQ:Array Keyed→Array Keyed→StateT SortSt Sem (Array Keyed):=sortPriv% PySem.Builtin.mergeLo
noncomputable def XR:Array Keyed→Array Keyed→StateT SortSt Sem (Array Keyed):=sortPriv% PySem.Builtin.mergeHi
noncomputable def Vl:Nat→StateT SortSt Sem Unit:=sortPriv% PySem.Builtin.setMinGallop
noncomputable def uQ (left:Bool) (key:Keyed) (arr:Array Keyed) (base i:Nat):StateT SortSt Sem (Option Bool) :=
 elem' arr (base+i) >>= fun x=>if left=true then lt' x key else lt' key x >>= fun o=>pure (o.map fun b=>!b)
section
variable {rk:Value→Int}
noncomputable def kf (rk:Value→Int) (l:List Keyed) (i:Nat):Int:=(l[i]?.map fun x=>rk x.1).getD 0
theorem v7 {l:List Keyed}{i:Nat}(h:i<l.length):kf rk l i=rk l[i].1:=by
 unfold kf
 rw[List.getElem?_eq_getElem h]
 rfl
theorem yt {a:Array Keyed}{i:Nat}(h:i<a.size):rk a[i].1=kf rk a.toList i:=by
 rw[v7 (by simpa using h)]
 simp
def SA (rk:Value→Int) (l:List Keyed):Prop:=l.Pairwise fun x y=>rk x.1≤rk y.1
theorem SA.le {l:List Keyed}(h:SA rk l){i j:Nat}(hij:i≤j) (hj:j<l.length):kf rk l i≤kf rk l j:=by
 rw[v7 (by omega),v7 hj]
 rcases Nat.lt_or_eq_of_le hij with z | z
 ·exact List.pairwise_iff_getElem.mp h i j (by omega) hj z
 ·subst z;exact Int.le_refl _
theorem SA.of {l:List Keyed}(h:∀ i j,i<j→j<l.length→kf rk l i≤kf rk l j):SA rk l:=by
 refine List.pairwise_iff_getElem.mpr fun i j hi hj hij=>?_
 have:=h i j hij hj
 rw[v7 hi,v7 hj] at this
 exact this
theorem SA.drop {l:List Keyed}(h:SA rk l) (n:Nat):SA rk (l.drop n):=h.sublist (List.drop_sublist n l)
theorem SA.take {l:List Keyed}(h:SA rk l) (n:Nat):SA rk (l.take n):=h.sublist (List.take_sublist n l)
theorem SA.app {l m:List Keyed}(h:SA rk l) (k:SA rk m) (c:∀ u∈l,∀ v∈m,rk u.1≤rk v.1):SA rk (l++m):=List.pairwise_append.mpr ⟨h,k,c⟩
theorem SA.one {x:Keyed}:SA rk [x]:=List.pairwise_singleton _ _
theorem SA.nil:SA rk []:=List.Pairwise.nil
theorem yz {l:List Keyed}{n:Nat}{v:Keyed}(h:v∈l.drop n):∃ i,n≤i∧i<l.length∧rk v.1=kf rk l i:=by
 obtain⟨i,hi,e⟩:=List.getElem_of_mem h
 rw[List.length_drop] at hi
 refine⟨n+i,by omega,by omega,?_⟩
 rw[v7 (by omega),← e,List.getElem_drop]
theorem yv {l:List Keyed}{n:Nat}{v:Keyed}(h:v∈l.take n):∃ i,i<n∧i<l.length∧rk v.1=kf rk l i:=by
 obtain⟨i,hi,e⟩:=List.getElem_of_mem h
 rw[List.length_take] at hi
 refine⟨i,by omega,by omega,?_⟩
 rw[v7 (by omega),← e,List.getElem_take]
theorem vb {l:List Keyed}{n k:Nat}{v:Keyed}(h:v∈(l.drop n).take k):∃ i,n≤i∧i<n+k∧i<l.length∧rk v.1=kf rk l i:=by
 obtain⟨i,hi,e⟩:=List.getElem_of_mem h
 rw[List.length_take,List.length_drop] at hi
 refine⟨n+i,by omega,by omega,by omega,?_⟩
 rw[v7 (by omega),← e,List.getElem_take,List.getElem_drop]
end
section
variable {prog:Program}{w:World}{A:Around}{E:Value→Shared→Prop}{s:Shared}{it:List Keyed}{κ:SortKind}{rk:Value→Int}
def Cmp (prog:Program) (w:World) (A:Around) (s:Shared) (it:List Keyed) (κ:SortKind) (rk:Value→Int):Prop :=
 ∀ x∈it,∀ y∈it,∀ (Q:Bool→Shared→Prop) (E:Value→Shared→Prop),Q (decide (rk x.1<rk y.1)) s→wpAny (model prog w) A (keyLt' κ x.1 y.1) Q E s
theorem Uc (C:Cmp prog w A s it κ rk){st:SortSt}(hk:kindOf st=κ){x y:Keyed}(hx:x∈it) (hy:y∈it){Q:Option Bool→SortSt→Prop}(h:Q (some (decide (rk x.1<rk y.1))) st):wpS (model prog w) A E s (lt' x y) Q st:=by
 rw[lt'_eq]
 refine wpS_bind (wpS_get ?_)
 rw[hk]
 refine wpS_bind (wpS_lift (wpAny_attempt (C x hx y hy _ _ ⟨rfl,?_⟩)))
 exact wpS_pure h
theorem t_elem {st:SortSt}{arr:Array Keyed}{i:Nat}(hi:i<arr.size){Q:Keyed→SortSt→Prop}(h:Q arr[i] st):wpS (model prog w) A E s (elem' arr i) Q st:=by
 rw[elem'_eq,getElem?_pos arr i hi]
 exact wpS_pure h
theorem u6 (C:Cmp prog w A s it κ rk){st:SortSt}(hk:kindOf st=κ){left:Bool}{key:Keyed}{arr:Array Keyed}{base i:Nat}(hkey:key∈it) (harr:∀ x∈arr,x∈it) (hi:base+i<arr.size)
  {Q:Option Bool→SortSt→Prop}(h:Q (some (decide (kf rk arr.toList (base+i)<if left=true then rk key.1 else rk key.1+1))) st):wpS (model prog w) A E s (uQ left key arr base i) Q st:=by
 unfold uQ
 refine wpS_bind (t_elem hi ?_)
 have hx:arr[base+i]∈it:=harr _ (Array.getElem_mem hi)
 have e:=yt (rk:=rk) hi
 cases left with
 |true =>
  refine Uc C hk hx hkey ?_
  rw[e]
  exact h
 |false =>
  refine wpS_bind (Uc C hk hkey hx ?_)
  refine wpS_pure ?_
  rw[e]
  have:(!decide (rk key.1<kf rk arr.toList (base+i)))=decide (kf rk arr.toList (base+i)<rk key.1+1):=by
   by_cases z:rk key.1<kf rk arr.toList (base+i)
   ·rw[decide_eq_true z,decide_eq_false (by omega)];rfl
   ·rw[decide_eq_false z,decide_eq_true (by omega)];rfl
  show Q (some (!decide (rk key.1<kf rk arr.toList (base+i)))) st
  rw[this]
  exact h
theorem yZ (C:Cmp prog w A s it κ rk){st:SortSt}(hk:kindOf st=κ){left:Bool}{key:Keyed}{arr:Array Keyed}{base n hint:Nat}(hkey:key∈it) (harr:∀ x∈arr,x∈it) (hb:base+n≤arr.size) (hh:hint<n)
  (hs:∀ i j,i≤j→j<n→kf rk arr.toList (base+i)≤kf rk arr.toList (base+j))
  {Q:Option Nat→SortSt→Prop}(h:∀ k,k≤n→(∀ i,i<k→kf rk arr.toList (base+i)<if left=true then rk key.1 else rk key.1+1)→(∀ i,k≤i→i<n→(if left=true then rk key.1 else rk key.1+1)≤kf rk arr.toList (base+i))→Q (some k) st):wpS (model prog w) A E s (VT left key arr base n hint) Q st:=by
 refine wpS_bind (u6 C hk hkey harr (by omega) ?_)
 generalize ht:(if left=true then rk key.1 else rk key.1+1)=t at h ⊢
 have hbey:∀ {i:Nat}{Q:Option Bool→SortSt→Prop},i<n→Q (some (decide (kf rk arr.toList (base+i)<t))) st→wpS (model prog w) A E s (uQ left key arr base i) Q st:=fun hi q=>u6 C hk hkey harr (by omega) (by rw[ht];exact q)
 generalize hf:(fun i=>kf rk arr.toList (base+i))=f at *
 have ef:∀ i,kf rk arr.toList (base+i)=f i:=fun i=>by rw[← hf]
 simp only[ef] at hs h hbey ⊢
 by_cases z0:f hint<t
 ·rw[decide_eq_true z0]
  simp only[if_true]
  refine wpS_bind (wpS_mono (wpS_forRange (I:=fun j c st'=>st'=st∧∃ a b,c=(none,a,b)∧a<b∧hint+a<n∧j+1≤b∧f (hint+a)<t) (Q:=fun c st'=>st'=st∧∃ a b,c=(none,a,b)∧a<b∧hint+a<n∧f (hint+a)<t∧(b≥n-hint∨(hint+b<n∧t≤f (hint+b)))) ?_ ?_ ⟨rfl,_,_,rfl,by omega,by omega,by omega,z0⟩) ?_)
  ·rintro j c st' _ hj ⟨rfl,a,b,rfl,ab,an,jb,l1⟩
   dsimp only
   by_cases q:b≥n-hint
   ·rw[if_pos q]
    exact wpS_pure ⟨rfl,a,b,rfl,ab,an,l1,.inl q⟩
   ·rw[if_neg q]
    refine wpS_bind (hbey (by omega) ?_)
    by_cases z:f (hint+b)<t
    ·rw[decide_eq_true z]
     exact wpS_pure ⟨rfl,_,_,rfl,by omega,by omega,by omega,z⟩
    ·rw[decide_eq_false z]
     exact wpS_pure ⟨rfl,a,b,rfl,ab,an,l1,.inr ⟨by omega,by omega⟩⟩
  ·rintro c st' ⟨rfl,a,b,rfl,ab,an,jb,l1⟩
   have e:max 0 n=n:=by omega
   rw[e] at jb
   exact⟨rfl,a,b,rfl,ab,an,l1,.inl (by omega)⟩
  ·rintro c st' ⟨rfl,a,b,rfl,ab,an,l1,l2⟩
   dsimp only
   have l3':∀ i,i<hint+a+1→f i<t:=fun i hi=>by
    have:=hs i (hint+a) (by omega) an
    omega
   have l4':∀ i,hint+min b (n-hint)≤i→i<n→t≤f i:=fun i hi hin=>by
    rcases l2 with l2 | ⟨l2,l3⟩
    ·omega
    ·have:=hs (hint+b) i (by omega) hin
     omega
   refine wpS_bind (wpS_mono (wpS_forRange (I:=fun j c st''=>st''=st'∧∃ a b,c=(none,a,b)∧a≤b∧b≤n∧b≤a+(n-j)∧(∀ i,i<a→f i<t)∧(∀ i,b≤i→i<n→t≤f i)) (Q:=fun c st''=>st''=st'∧∃ a b,c=(none,a,b)∧b≤n∧(∀ i,i<b→f i<t)∧(∀ i,b≤i→i<n→t≤f i)) ?_ ?_ ⟨rfl,_,_,rfl,by omega,by omega,by omega,l3',l4'⟩) ?_)
   ·rintro j c st'' _ hj ⟨rfl,a,b,rfl,ab,bn,bj,l1,l2⟩
    dsimp only
    by_cases q:a≥b
    ·rw[if_pos q]
     exact wpS_pure ⟨rfl,a,b,rfl,bn,fun i hi=>l1 i (by omega),l2⟩
    ·rw[if_neg q]
     refine wpS_bind (hbey (by omega) ?_)
     by_cases z:f (a+(b-a)/2)<t
     ·rw[decide_eq_true z]
      refine wpS_pure ⟨rfl,_,_,rfl,by omega,bn,by omega,fun i hi=>?_,l2⟩
      have:=hs i (a+(b-a)/2) (by omega) (by omega)
      omega
     ·rw[decide_eq_false z]
      refine wpS_pure ⟨rfl,_,_,rfl,by omega,by omega,by omega,l1,fun i hi hin=>?_⟩
      have:=hs (a+(b-a)/2) i (by omega) hin
      omega
   ·rintro c st'' ⟨rfl,a,b,rfl,ab,bn,bj,l1,l2⟩
    have e:max 0 n=n:=by omega
    rw[e] at bj
    exact⟨rfl,a,b,rfl,bn,fun i hi=>l1 i (by omega),l2⟩
   ·rintro c st'' ⟨rfl,a,b,rfl,bn,l1,l2⟩
    exact wpS_pure (h b bn l1 l2)
 ·rw[decide_eq_false z0]
  simp only[Bool.false_eq_true,if_false]
  refine wpS_bind (wpS_mono (wpS_forRange (I:=fun j c st'=>st'=st∧∃ a b,c=(none,a,b)∧a<b∧a≤hint∧j+1≤b∧t≤f (hint-a)) (Q:=fun c st'=>st'=st∧∃ a b,c=(none,a,b)∧a<b∧a≤hint∧t≤f (hint-a)∧(b≥hint+1∨(b≤hint∧f (hint-b)<t))) ?_ ?_ ⟨rfl,_,_,rfl,by omega,by omega,by omega,(by show t≤f (hint-0);rw[Nat.sub_zero];omega)⟩) ?_)
  ·rintro j c st' _ hj ⟨rfl,a,b,rfl,ab,an,jb,l1⟩
   dsimp only
   by_cases q:b≥hint+1
   ·rw[if_pos q]
    exact wpS_pure ⟨rfl,a,b,rfl,ab,an,l1,.inl q⟩
   ·rw[if_neg q]
    refine wpS_bind (hbey (by omega) ?_)
    by_cases z:f (hint-b)<t
    ·rw[decide_eq_true z]
     exact wpS_pure ⟨rfl,a,b,rfl,ab,an,l1,.inr ⟨by omega,z⟩⟩
    ·rw[decide_eq_false z]
     exact wpS_pure ⟨rfl,_,_,rfl,by omega,by omega,by omega,by omega⟩
  ·rintro c st' ⟨rfl,a,b,rfl,ab,an,jb,l1⟩
   have e:max 0 n=n:=by omega
   rw[e] at jb
   exact⟨rfl,a,b,rfl,ab,an,l1,.inl (by omega)⟩
  ·rintro c st' ⟨rfl,a,b,rfl,ab,an,l1,l2⟩
   dsimp only
   have l3':∀ i,i<hint+1-min b (hint+1)→f i<t:=fun i hi=>by
    rcases l2 with l2 | ⟨l2,l3⟩
    ·omega
    ·have:=hs i (hint-b) (by omega) (by omega)
     omega
   have l4':∀ i,hint-a≤i→i<n→t≤f i:=fun i hi hin=>by
    have:=hs (hint-a) i (by omega) hin
    omega
   refine wpS_bind (wpS_mono (wpS_forRange (I:=fun j c st''=>st''=st'∧∃ a b,c=(none,a,b)∧a≤b∧b≤n∧b≤a+(n-j)∧(∀ i,i<a→f i<t)∧(∀ i,b≤i→i<n→t≤f i)) (Q:=fun c st''=>st''=st'∧∃ a b,c=(none,a,b)∧b≤n∧(∀ i,i<b→f i<t)∧(∀ i,b≤i→i<n→t≤f i)) ?_ ?_ ⟨rfl,_,_,rfl,by omega,by omega,by omega,l3',l4'⟩) ?_)
   ·rintro j c st'' _ hj ⟨rfl,a,b,rfl,ab,bn,bj,l1,l2⟩
    dsimp only
    by_cases q:a≥b
    ·rw[if_pos q]
     exact wpS_pure ⟨rfl,a,b,rfl,bn,fun i hi=>l1 i (by omega),l2⟩
    ·rw[if_neg q]
     refine wpS_bind (hbey (by omega) ?_)
     by_cases z:f (a+(b-a)/2)<t
     ·rw[decide_eq_true z]
      refine wpS_pure ⟨rfl,_,_,rfl,by omega,bn,by omega,fun i hi=>?_,l2⟩
      have:=hs i (a+(b-a)/2) (by omega) (by omega)
      omega
     ·rw[decide_eq_false z]
      refine wpS_pure ⟨rfl,_,_,rfl,by omega,by omega,by omega,l1,fun i hi hin=>?_⟩
      have:=hs (a+(b-a)/2) i (by omega) hin
      omega
   ·rintro c st'' ⟨rfl,a,b,rfl,ab,bn,bj,l1,l2⟩
    have e:max 0 n=n:=by omega
    rw[e] at bj
    exact⟨rfl,a,b,rfl,bn,fun i hi=>l1 i (by omega),l2⟩
   ·rintro c st'' ⟨rfl,a,b,rfl,bn,l1,l2⟩
    exact wpS_pure (h b bn l1 l2)
end
section
variable {rk:Value→Int}
structure Lo (rk:Value→Int) (T o rest:List Keyed):Prop where
 p:(o++rest).Perm T
 s:SA rk o
 c:∀ u∈o,∀ v∈rest,rk u.1≤rk v.1
theorem Lo.step {T o rest c rest':List Keyed}(h:Lo rk T o rest) (p:rest.Perm (c++rest')) (sc:SA rk c) (hc:∀ u∈c,∀ v∈rest',rk u.1≤rk v.1):Lo rk T (o++c) rest':=by
 refine⟨?_,h.s.app sc fun u hu v hv=>h.c u hu v (p.mem_iff.mpr (List.mem_append.mpr (.inl hv))),fun u hu v hv=>?_⟩
 ·rw[List.append_assoc]
  exact(List.Perm.append_left o p.symm).trans h.p
 ·rcases List.mem_append.mp hu with z | z
  ·exact h.c u z v (p.mem_iff.mpr (List.mem_append.mpr (.inr hv)))
  ·exact hc u z v hv
theorem Lo.fin {T o rest c:List Keyed}(h:Lo rk T o rest) (p:rest.Perm c) (sc:SA rk c):(o++c).Perm T∧SA rk (o++c):=by
 have:=h.step (c:=c) (rest':=[]) (by rw[List.append_nil];exact p) sc (fun _ _ v hv=>by cases hv)
 exact⟨by have z:=this.p;rw[List.append_nil] at z;exact z,this.s⟩
structure Hi (rk:Value→Int) (T rest o:List Keyed):Prop where
 p:(rest++o.reverse).Perm T
 s:SA rk o.reverse
 c:∀ u∈rest,∀ v∈o,rk u.1≤rk v.1
theorem Hi.step {T o rest c rest':List Keyed}(h:Hi rk T rest o) (p:rest.Perm (rest'++c)) (sc:SA rk c) (hc:∀ u∈rest',∀ v∈c,rk u.1≤rk v.1):Hi rk T rest' (o++c.reverse):=by
 have e:(o++c.reverse).reverse=c++o.reverse:=by rw[List.reverse_append,List.reverse_reverse]
 refine⟨?_,?_,fun u hu v hv=>?_⟩
 ·rw[e,← List.append_assoc]
  exact(List.Perm.append_right o.reverse p.symm).trans h.p
 ·rw[e]
  exact sc.app h.s fun u hu v hv=>h.c u (p.mem_iff.mpr (List.mem_append.mpr (.inr hu))) v (List.mem_reverse.mp hv)
 ·rcases List.mem_append.mp hv with z | z
  ·exact h.c u (p.mem_iff.mpr (List.mem_append.mpr (.inl hu))) v z
  ·exact hc u hu v (List.mem_reverse.mp z)
theorem Hi.fin {T o rest c:List Keyed}(h:Hi rk T rest o) (p:rest.Perm c) (sc:SA rk c):(c++o.reverse).Perm T∧SA rk (c++o.reverse):=by
 have:=h.step (c:=c) (rest':=[]) (by rw[List.nil_append];exact p) sc (fun u hu _ _=>by cases hu)
 have e:(o++c.reverse).reverse=c++o.reverse:=by rw[List.reverse_append,List.reverse_reverse]
 have z:=this.p
 have y:=this.s
 rw[e] at z y
 exact⟨z,y⟩
def LoA (rk:Value→Int) (a b o:Array Keyed) (x y:Nat):Prop:=Lo rk (a.toList++b.toList) o.toList (a.toList.drop x++b.toList.drop y)
def HiA (rk:Value→Int) (a b o:Array Keyed) (x y:Nat):Prop:=Hi rk (a.toList++b.toList) (a.toList.take x++b.toList.take y) o.toList
def ui (rk:Value→Int) (a b r:Array Keyed):Prop:=r.toList.Perm (a.toList++b.toList)∧SA rk r.toList
theorem Wd (a:Array Keyed) (x:Nat):(a.extract x a.size).toList=a.toList.drop x:=by
 rw[Array.toList_extract,List.extract_eq_drop_take,List.take_of_length_le (by simp)]
theorem Wc (a:Array Keyed) (x:Nat):(a.extract 0 x).toList=a.toList.take x:=by
 rw[Array.toList_extract,List.extract_eq_drop_take]
 simp
theorem VX (a:Array Keyed) (x k:Nat):(a.extract x (x+k)).toList=(a.toList.drop x).take k:=by
 rw[Array.toList_extract,List.extract_eq_drop_take]
 congr 1
 omega
theorem YX {a:Array Keyed}{x:Nat}(h:x<a.size):a.toList.drop x=a[x]::a.toList.drop (x+1):=by
 rw[List.drop_eq_getElem_cons (by simpa using h)]
 simp
theorem ZZ {a:Array Keyed}{x:Nat}(h:x<a.size):a.toList.take (x+1)=a.toList.take x++[a[x]]:=by
 rw[List.take_succ_eq_append_getElem (by simpa using h)]
 simp
variable {a b:Array Keyed}{o:Array Keyed}{x y:Nat}
theorem LoA.pb (h:LoA rk a b o x y) (sa:SA rk a.toList) (sb:SA rk b.toList) (hy:y<b.size) (hc:x<a.size→kf rk b.toList y≤kf rk a.toList x):LoA rk a b (o.push b[y]) x (y+1):=by
 unfold LoA at h ⊢
 rw[Array.toList_push]
 have ey:=yt (rk:=rk) hy
 refine h.step ?_ SA.one fun u hu v hv=>?_
 ·rw[YX hy]
  exact List.perm_middle
 ·rw[List.mem_singleton.mp hu,ey]
  rcases List.mem_append.mp hv with z | z
  ·obtain⟨i,h1,h2,e⟩:=yz (rk:=rk) z
   have:=sa.le h1 h2
   rw[Array.length_toList] at h2
   have:=hc (by omega)
   omega
  ·obtain⟨i,h1,h2,e⟩:=yz (rk:=rk) z
   have:=sb.le (i:=y) (j:=i) (by omega) h2
   omega
theorem LoA.pa (h:LoA rk a b o x y) (sa:SA rk a.toList) (sb:SA rk b.toList) (hx:x<a.size) (hc:y<b.size→kf rk a.toList x≤kf rk b.toList y):LoA rk a b (o.push a[x]) (x+1) y:=by
 unfold LoA at h ⊢
 rw[Array.toList_push]
 have ex:=yt (rk:=rk) hx
 refine h.step ?_ SA.one fun u hu v hv=>?_
 ·rw[YX hx]
  exact List.Perm.refl _
 ·rw[List.mem_singleton.mp hu,ex]
  rcases List.mem_append.mp hv with z | z
  ·obtain⟨i,h1,h2,e⟩:=yz (rk:=rk) z
   have:=sa.le (i:=x) (j:=i) (by omega) h2
   omega
  ·obtain⟨i,h1,h2,e⟩:=yz (rk:=rk) z
   have:=sb.le h1 h2
   rw[Array.length_toList] at h2
   have:=hc (by omega)
   omega
theorem vL {l:List Keyed}{n k:Nat}:l.drop n=(l.drop n).take k++l.drop (n+k):=by
 rw[← List.drop_drop,List.take_append_drop]
theorem LoA.as {k:Nat}(h:LoA rk a b o x y) (sa:SA rk a.toList) (sb:SA rk b.toList) (hx:x+k≤a.size) (hc:∀ i,i<k→y<b.size→kf rk a.toList (x+i)≤kf rk b.toList y):LoA rk a b (o++a.extract x (x+k)) (x+k) y:=by
 unfold LoA at h ⊢
 rw[Array.toList_append,VX]
 refine h.step ?_ ((sa.drop x).take k) fun u hu v hv=>?_
 ·rw[← List.append_assoc,← vL]
 ·obtain⟨i,h1,h2,h3,e⟩:=vb (rk:=rk) hu
  rcases List.mem_append.mp hv with z | z
  ·obtain⟨j,h4,h5,e2⟩:=yz (rk:=rk) z
   have:=sa.le (i:=i) (j:=j) (by omega) h5
   omega
  ·obtain⟨j,h4,h5,e2⟩:=yz (rk:=rk) z
   have h6:=sb.le h4 h5
   rw[Array.length_toList] at h5
   have h7:=hc (i-x) (by omega) (by omega)
   rw[show x+(i-x)=i by omega] at h7
   omega
theorem LoA.bs {k:Nat}(h:LoA rk a b o x y) (sa:SA rk a.toList) (sb:SA rk b.toList) (hy:y+k≤b.size) (hc:∀ i,i<k→x<a.size→kf rk b.toList (y+i)≤kf rk a.toList x):LoA rk a b (o++b.extract y (y+k)) x (y+k):=by
 unfold LoA at h ⊢
 rw[Array.toList_append,VX]
 refine h.step ?_ ((sb.drop y).take k) fun u hu v hv=>?_
 ·have e:b.toList.drop y=(b.toList.drop y).take k++b.toList.drop (y+k):=vL
  refine(List.Perm.append_left _ (List.Perm.of_eq e)).trans ?_
  rw[← List.append_assoc,← List.append_assoc]
  exact List.Perm.append_right _ List.perm_append_comm
 ·obtain⟨i,h1,h2,h3,e⟩:=vb (rk:=rk) hu
  rcases List.mem_append.mp hv with z | z
  ·obtain⟨j,h4,h5,e2⟩:=yz (rk:=rk) z
   have h6:=sa.le h4 h5
   rw[Array.length_toList] at h5
   have h7:=hc (i-y) (by omega) (by omega)
   rw[show y+(i-y)=i by omega] at h7
   omega
  ·obtain⟨j,h4,h5,e2⟩:=yz (rk:=rk) z
   have:=sb.le (i:=i) (j:=j) (by omega) h5
   omega
theorem LoA.done (h:LoA rk a b o x y) (sa:SA rk a.toList) (sb:SA rk b.toList) (e:x=a.size∨y=b.size):ui rk a b (o++a.extract x++b.extract y):=by
 unfold ui
 rw[Array.toList_append,Array.toList_append,Wd,Wd,List.append_assoc]
 refine h.fin (List.Perm.refl _) ((sa.drop x).app (sb.drop y) fun u hu v hv=>?_)
 rcases e with e | e
 ·rw[List.drop_of_length_le (by simp[e])] at hu
  cases hu
 ·rw[List.drop_of_length_le (by simp[e])] at hv
  cases hv
theorem LoA.last (h:LoA rk a b o x y) (sa:SA rk a.toList) (sb:SA rk b.toList) (e:x+1=a.size) (hl:∀ i,i<b.size→kf rk b.toList i≤kf rk a.toList (a.size-1)):ui rk a b (o++b.extract y++a.extract x):=by
 unfold ui
 rw[Array.toList_append,Array.toList_append,Wd,Wd,List.append_assoc]
 refine h.fin List.perm_append_comm ((sb.drop y).app (sa.drop x) fun u hu v hv=>?_)
 obtain⟨i,h1,h2,e1⟩:=yz (rk:=rk) hu
 obtain⟨j,h3,h4,e2⟩:=yz (rk:=rk) hv
 rw[Array.length_toList] at h2 h4
 have:=hl i h2
 have ej:j=a.size-1:=by omega
 rw[ej] at e2
 omega
theorem HiA.pa (h:HiA rk a b o (x+1) y) (sa:SA rk a.toList) (sb:SA rk b.toList) (hx:x<a.size) (hy:y≤b.size) (hc:1≤y→kf rk b.toList (y-1)≤kf rk a.toList x):HiA rk a b (o.push a[x]) x y:=by
 unfold HiA at h ⊢
 rw[Array.toList_push]
 have ex:=yt (rk:=rk) hx
 refine h.step (c:=[a[x]]) ?_ SA.one fun u hu v hv=>?_
 ·rw[ZZ hx,List.append_assoc,List.append_assoc]
  exact List.Perm.append_left _ List.perm_append_comm
 ·rw[List.mem_singleton.mp hv,ex]
  rcases List.mem_append.mp hu with z | z
  ·obtain⟨i,h1,h2,e⟩:=yv (rk:=rk) z
   have:=sa.le (i:=i) (j:=x) (by omega) (by simpa using hx)
   omega
  ·obtain⟨i,h1,h2,e⟩:=yv (rk:=rk) z
   have:=sb.le (i:=i) (j:=y-1) (by omega) (by rw[Array.length_toList];omega)
   have:=hc (by omega)
   omega
theorem HiA.pb (h:HiA rk a b o x (y+1)) (sa:SA rk a.toList) (sb:SA rk b.toList) (hy:y<b.size) (hx:x≤a.size) (hc:1≤x→kf rk a.toList (x-1)≤kf rk b.toList y):HiA rk a b (o.push b[y]) x y:=by
 unfold HiA at h ⊢
 rw[Array.toList_push]
 have ey:=yt (rk:=rk) hy
 refine h.step (c:=[b[y]]) ?_ SA.one fun u hu v hv=>?_
 ·rw[ZZ hy,List.append_assoc]
 ·rw[List.mem_singleton.mp hv,ey]
  rcases List.mem_append.mp hu with z | z
  ·obtain⟨i,h1,h2,e⟩:=yv (rk:=rk) z
   have:=sa.le (i:=i) (j:=x-1) (by omega) (by rw[Array.length_toList];omega)
   have:=hc (by omega)
   omega
  ·obtain⟨i,h1,h2,e⟩:=yv (rk:=rk) z
   have:=sb.le (i:=i) (j:=y) (by omega) (by simpa using hy)
   omega
theorem xK {l:List Keyed}{k x:Nat}(h:k≤x):l.take x=l.take k++(l.drop k).take (x-k):=by
 have e:x=k+(x-k):=by omega
 rw[e,List.take_add,Nat.add_sub_cancel_left]
theorem VW (a:Array Keyed) (k x:Nat):(a.extract k x).toList=(a.toList.drop k).take (x-k):=by
 rw[Array.toList_extract,List.extract_eq_drop_take]
theorem HiA.as {k:Nat}(h:HiA rk a b o x y) (sa:SA rk a.toList) (sb:SA rk b.toList) (hk:k≤x) (hx:x≤a.size) (hy:y≤b.size) (hc:∀ i,k≤i→i<x→1≤y→kf rk b.toList (y-1)≤kf rk a.toList i):HiA rk a b (o++(a.extract k x).reverse) k y:=by
 unfold HiA at h ⊢
 rw[Array.toList_append,Array.toList_reverse,VW]
 refine h.step (c:=(a.toList.drop k).take (x-k)) ?_ ((sa.drop k).take _) fun u hu v hv=>?_
 ·rw[xK hk,List.append_assoc,List.append_assoc]
  exact List.Perm.append_left _ List.perm_append_comm
 ·obtain⟨j,h1,h2,h3,e⟩:=vb (rk:=rk) hv
  rcases List.mem_append.mp hu with z | z
  ·obtain⟨i,h4,h5,e2⟩:=yv (rk:=rk) z
   have:=sa.le (i:=i) (j:=j) (by omega) h3
   omega
  ·obtain⟨i,h4,h5,e2⟩:=yv (rk:=rk) z
   have:=sb.le (i:=i) (j:=y-1) (by omega) (by rw[Array.length_toList];omega)
   have:=hc j h1 (by omega) (by omega)
   omega
theorem HiA.bs {k:Nat}(h:HiA rk a b o x y) (sa:SA rk a.toList) (sb:SA rk b.toList) (hk:k≤y) (hx:x≤a.size) (hy:y≤b.size) (hc:∀ i,k≤i→i<y→1≤x→kf rk a.toList (x-1)≤kf rk b.toList i):HiA rk a b (o++(b.extract k y).reverse) x k:=by
 unfold HiA at h ⊢
 rw[Array.toList_append,Array.toList_reverse,VW]
 refine h.step (c:=(b.toList.drop k).take (y-k)) ?_ ((sb.drop k).take _) fun u hu v hv=>?_
 ·rw[xK (l:=b.toList) hk,List.append_assoc]
 ·obtain⟨j,h1,h2,h3,e⟩:=vb (rk:=rk) hv
  rcases List.mem_append.mp hu with z | z
  ·obtain⟨i,h4,h5,e2⟩:=yv (rk:=rk) z
   have:=sa.le (i:=i) (j:=x-1) (by omega) (by rw[Array.length_toList];omega)
   have:=hc j h1 (by omega) (by omega)
   omega
  ·obtain⟨i,h4,h5,e2⟩:=yv (rk:=rk) z
   have:=sb.le (i:=i) (j:=j) (by omega) h3
   omega
theorem HiA.done (h:HiA rk a b o x y) (sa:SA rk a.toList) (sb:SA rk b.toList) (e:x=0∨y=0):ui rk a b (a.extract 0 x++b.extract 0 y++o.reverse):=by
 unfold ui
 rw[Array.toList_append,Array.toList_append,Array.toList_reverse,Wc,Wc]
 refine h.fin (List.Perm.refl _) ((sa.take x).app (sb.take y) fun u hu v hv=>?_)
 rcases e with e | e
 ·subst e;cases hu
 ·subst e;cases hv
theorem HiA.first (h:HiA rk a b o x y) (sa:SA rk a.toList) (sb:SA rk b.toList) (e:y=1) (hl:∀ i,i<a.size→kf rk b.toList 0≤kf rk a.toList i):ui rk a b (b.extract 0 y++a.extract 0 x++o.reverse):=by
 unfold ui
 rw[Array.toList_append,Array.toList_append,Array.toList_reverse,Wc,Wc]
 refine h.fin List.perm_append_comm ((sb.take y).app (sa.take x) fun u hu v hv=>?_)
 obtain⟨i,h1,h2,e1⟩:=yv (rk:=rk) hu
 obtain⟨j,h3,h4,e2⟩:=yv (rk:=rk) hv
 rw[Array.length_toList] at h4
 have:=hl j h4
 have ei:i=0:=by omega
 rw[ei] at e1
 omega
end
section
variable {prog:Program}{w:World}{A:Around}{E:Value→Shared→Prop}{s:Shared}{it:List Keyed}{κ:SortKind}{rk:Value→Int}
structure Eqv (st st':SortSt):Prop where
 k:kindOf st'=kindOf st
 a:arrOf st'=arrOf st
 p:pendingOf st'=pendingOf st
 f:failedOf st'=failedOf st
theorem Eqv.refl (st:SortSt):Eqv st st:=⟨rfl,rfl,rfl,rfl⟩
theorem t_setMin {st st':SortSt}(e:Eqv st st'){g:Nat}{Q:Unit→SortSt→Prop}(h:∀ st'',Eqv st st''→Q () st''):wpS (model prog w) A E s (Vl g) Q st':=wpS_modify (h _ ⟨e.k,e.a,e.p,e.f⟩)
def In (it:List Keyed) (o:Array Keyed):Prop:=∀ x∈o,x∈it
theorem In.ext {o:Array Keyed}{i j:Nat}(h:In it o):In it (o.extract i j):=fun y hy=>by
 have hy:y∈(o.extract i j).toList:=Array.mem_def.mp hy
 rw[Array.toList_extract,List.extract_eq_drop_take] at hy
 exact h y (Array.mem_def.mpr (List.mem_of_mem_drop (List.mem_of_mem_take hy)))
theorem In.at {o:Array Keyed}{i:Nat}(h:In it o) (hi:i<o.size):o[i]∈it:=h _ (Array.getElem_mem hi)
theorem jn1 {α:Type}{P G:α→Prop}(J:∀ m,P m) (k:(∀ m,P m)→∀ m,G m):∀ m,G m:=k J
theorem jn2 {α β:Type}{H K G:α→β→Prop}(h:∃ P:α→β→Prop,(∀ m n,H m n→P m n)∧((∀ m n,H m n→P m n)→∀ m n,K m n→G m n)):∀ m n,K m n→G m n:=by
 obtain⟨P,J,k⟩:=h
 exact k J
def LoP (rk:Value→Int) (a b:Array Keyed) (m:Nat) (r:Option (Array Keyed)) (o:Array Keyed) (x y:Nat):Prop :=
 match r with
 |some o=>ui rk a b o
 |none=>LoA rk a b o x y∧x+1<a.size∧y<b.size∧m≤x+y
theorem Z1 (C:Cmp prog w A s it κ rk){st:SortSt}(hk:kindOf st=κ){a b:Array Keyed}(ha:In it a) (hb:In it b) (za:1≤a.size) (zb:1≤b.size)
  (sa:SA rk a.toList) (sb:SA rk b.toList) (h0:kf rk b.toList 0≤kf rk a.toList 0) (hl:∀ i,i<b.size→kf rk b.toList i≤kf rk a.toList (a.size-1))
  {Q:Array Keyed→SortSt→Prop}(h:∀ o st',ui rk a b o→Eqv st st'→Q o st'):wpS (model prog w) A E s (XQ a b) Q st:=by
 refine wpS_bind (wpS_lift (wpAny_rule ⟨rfl,?_⟩))
 refine wpS_bind (t_elem (by omega) ?_)
 have n0:LoA rk a b #[] 0 0:=⟨List.Perm.refl _,SA.nil,fun u hu=>by cases hu⟩
 have b0:LoA rk a b #[b[0]] 0 1:=n0.pb sa sb (by omega) fun _=>h0
 dsimp only
 by_cases q1:(1 == b.size)=true
 ·rw[if_pos q1]
  exact wpS_pure (h _ _ (b0.done sa sb (.inr (by simpa using q1))) (Eqv.refl st))
 rw[if_neg q1]
 by_cases q2:(0+1 == a.size)=true
 ·rw[if_pos q2]
  exact wpS_pure (h _ _ (b0.last sa sb (by simpa using q2) hl) (Eqv.refl st))
 rw[if_neg q2]
 have q1:1≠b.size:=fun z=>q1 (by simp[z])
 have q2:1≠a.size:=fun z=>q2 (by simp[z])
 refine wpS_bind (wpS_get ?_)
 refine wpS_bind (wpS_mono (wpS_forRange (I:=fun i c st'=>Eqv st st'∧∃ o x y mg,c=(none,o,x,y,mg)∧LoA rk a b o x y∧x+1<a.size∧y<b.size∧i≤x+y) (Q:=fun c st'=>Eqv st st'∧∃ r o x y mg,c=(some r,o,x,y,mg)∧ui rk a b r) ?_ ?_ ⟨Eqv.refl st,_,_,_,_,rfl,b0,by omega,by omega,by omega⟩) ?_)
 ·rintro i c st1 _ hi ⟨ev,o,x,y,mg,rfl,ho,hx,hy,hm⟩
  dsimp only
  refine wpS_bind (wpS_mono (wpS_forRange (I:=fun j c st'=>Eqv st st'∧∃ o x y ca cb,c=(none,o,x,y,ca,cb)∧LoA rk a b o x y∧x+1<a.size∧y<b.size∧i+j≤x+y) (Q:=fun c st'=>Eqv st st'∧∃ r o x y ca cb,c=(r,o,x,y,ca,cb)∧LoP rk a b (i+1) r o x y) ?_ ?_ ⟨ev,_,_,_,_,_,rfl,ho,hx,hy,hm⟩) ?_)
  ·rintro j c st2 _ hj ⟨ev,o,x,y,ca,cb,rfl,ho,hx,hy,hm⟩
   dsimp only
   have hx1:x<a.size:=by omega
   have hx0:=ha.at (i:=x) hx1
   have hy0:=hb.at hy
   have ex:=yt (rk:=rk) hx1
   have ey:=yt (rk:=rk) hy
   refine wpS_bind (t_elem hy (wpS_bind (t_elem (by omega) (wpS_bind (Uc C (ev.k.trans hk) hy0 hx0 ?_)))))
   by_cases bw:rk b[y].1<rk a[x].1
   ·rw[decide_eq_true bw]
    simp only[if_true]
    refine wpS_bind (t_elem hy ?_)
    have ho':=ho.pb sa sb hy fun _=>by omega
    by_cases q3:(y+1 == b.size)=true
    ·rw[if_pos q3]
     exact wpS_pure ⟨ev,_,_,_,_,_,_,rfl,ho'.done sa sb (.inr (by simpa using q3))⟩
    ·rw[if_neg q3]
     have q3:y+1≠b.size:=fun z=>q3 (by simp[z])
     by_cases q4:cb+1≥mg
     ·rw[if_pos q4]
      exact wpS_pure ⟨ev,_,_,_,_,_,_,rfl,ho',hx,by omega,by omega⟩
     ·rw[if_neg q4]
      exact wpS_pure ⟨ev,_,_,_,_,_,rfl,ho',hx,by omega,by omega⟩
   ·rw[decide_eq_false bw]
    simp only[Bool.false_eq_true,if_false]
    refine wpS_bind (t_elem (by omega) ?_)
    have ho':=ho.pa sa sb hx1 fun _=>by omega
    by_cases q3:(x+1+1 == a.size)=true
    ·rw[if_pos q3]
     exact wpS_pure ⟨ev,_,_,_,_,_,_,rfl,ho'.last sa sb (by simpa using q3) hl⟩
    ·rw[if_neg q3]
     have q3:x+1+1≠a.size:=fun z=>q3 (by simp[z])
     by_cases q4:ca+1≥mg
     ·rw[if_pos q4]
      exact wpS_pure ⟨ev,_,_,_,_,_,_,rfl,ho',by omega,hy,by omega⟩
     ·rw[if_neg q4]
      exact wpS_pure ⟨ev,_,_,_,_,_,rfl,ho',by omega,hy,by omega⟩
  ·rintro c st2 ⟨ev,o,x,y,ca,cb,rfl,ho,hx,hy,hm⟩
   exact⟨ev,_,_,_,_,_,_,rfl,ho,hx,hy,by omega⟩
  ·rintro c st2 ⟨ev,r,o,x,y,ca,cb,rfl,hp⟩
   dsimp only
   cases r with
   |some r=>exact wpS_pure ⟨ev,_,_,_,_,_,rfl,hp⟩
   |none =>
    obtain⟨ho,hx,hy,hm⟩:=hp
    refine wpS_bind (wpS_lift (wpAny_rule ⟨rfl,?_⟩))
    refine wpS_bind (wpS_mono (wpS_forRange (I:=fun _ c st'=>Eqv st st'∧∃ o x y mg ca cb,c=(none,o,x,y,mg,ca,cb)∧LoA rk a b o x y∧x+1<a.size∧y<b.size∧i+1≤x+y) (Q:=fun c st'=>Eqv st st'∧∃ r o x y mg ca cb,c=(r,o,x,y,mg,ca,cb)∧LoP rk a b (i+1) r o x y) ?_ ?_ ⟨ev,_,_,_,_,_,_,rfl,ho,hx,hy,hm⟩) ?_)
    ·rintro j c st3 _ hj ⟨ev,o,x,y,mg,ca,cb,rfl,ho,hx,hy,hm⟩
     dsimp only
     revert mg
     apply jn1
     case k =>
      intro J mg
      by_cases qm:¬ mg>1
      ·rw[if_neg qm]
       exact J mg
      ·rw[if_pos (Decidable.not_not.mp qm)]
       exact J (mg-1)
     case J =>
      intro mg
      refine wpS_bind (t_setMin ev fun st4 ev4=>?_)
      refine wpS_bind (t_elem hy ?_)
      have ey:=yt (rk:=rk) hy
      refine wpS_bind (yZ C (ev4.k.trans hk) (hb.at hy) ha (by omega) (by omega) (fun i j hij hj=>sa.le (by omega) (by rw[Array.length_toList];omega)) fun k hk1 g1 g2=>?_)
      simp only[Bool.false_eq_true,if_false] at g1 g2
      dsimp only
      have HH:=And.intro ho (And.intro hx (And.intro hm (And.intro hk1 (And.intro g1 g2))))
      clear ho hx hm hk1 g1 g2
      revert HH
      revert o x
      refine jn2 (H:=fun o x=>LoA rk a b o x y∧x+1<a.size∧i+1≤x+y∧kf rk b.toList y≤kf rk a.toList x) ?_
      apply Exists.intro
      apply And.intro
      case right =>
       intro J o x ⟨ho,hx,hm,hk1,g1,g2⟩
       by_cases qk:¬ k>0
       ·rw[if_neg qk]
        have:=g2 0 (by omega) (by omega)
        exact J o x ⟨ho,hx,hm,by rw[Nat.add_zero] at this;omega⟩
       rw[if_pos (Decidable.not_not.mp qk)]
       have ho1:=ho.as (k:=k) sa sb (by omega) fun i hi _=>by have:=g1 i hi;omega
       by_cases qa:(x+k+1 == a.size)=true
       ·rw[if_pos qa]
        exact wpS_pure ⟨ev4,_,_,_,_,_,_,_,rfl,ho1.last sa sb (by simpa using qa) hl⟩
       rw[if_neg qa]
       have qa:x+k+1≠a.size:=fun z=>qa (by simp[z])
       by_cases qb:(x+k == a.size)=true
       ·rw[if_pos qb]
        exact wpS_pure ⟨ev4,_,_,_,_,_,_,_,rfl,ho1.done sa sb (.inl (by simpa using qb))⟩
       rw[if_neg qb]
       have qb:x+k≠a.size:=fun z=>qb (by simp[z])
       have:=g2 k (by omega) (by omega)
       exact J _ _ ⟨ho1,by omega,by omega,by omega⟩
      case left =>
       intro o x ⟨ho,hx,hm,hc⟩
       refine wpS_bind (t_elem hy ?_)
       have ho2:=ho.pb sa sb hy fun _=>hc
       by_cases qc:(y+1 == b.size)=true
       ·rw[if_pos qc]
        exact wpS_pure ⟨ev4,_,_,_,_,_,_,_,rfl,ho2.done sa sb (.inr (by simpa using qc))⟩
       rw[if_neg qc]
       have qc:y+1≠b.size:=fun z=>qc (by simp[z])
       refine wpS_bind (t_elem (by omega) ?_)
       have ex:=yt (rk:=rk) (show x<a.size by omega)
       refine wpS_bind (yZ C (ev4.k.trans hk) (ha.at (i:=x) (by omega)) hb (by omega) (by omega) (fun i j hij hj=>sb.le (by omega) (by rw[Array.length_toList];omega)) fun k2 hk2 g1 g2=>?_)
       simp only[if_true] at g1 g2
       dsimp only
       have hy1:y+1<b.size:=by omega
       have hm1:i+1≤x+(y+1):=by omega
       generalize o.push b[y]=o2 at ho2 ⊢
       generalize y+1=y1 at hy1 hm1 hk2 ho2 g1 g2 ⊢
       have HH:=And.intro ho2 (And.intro hy1 (And.intro hm1 (And.intro hk2 (And.intro g1 g2))))
       clear ho2 hy1 hm1 hk2 g1 g2
       revert HH
       revert o2 y1
       refine jn2 (H:=fun o y=>LoA rk a b o x y∧y<b.size∧i+1≤x+y∧kf rk a.toList x≤kf rk b.toList y) ?_
       apply Exists.intro
       apply And.intro
       case right =>
        intro J o2 y1 ⟨ho2,hy1,hm1,hk2,g1,g2⟩
        by_cases qk2:¬ k2>0
        ·rw[if_neg qk2]
         have:=g2 0 (by omega) (by omega)
         exact J o2 y1 ⟨ho2,hy1,hm1,by rw[Nat.add_zero] at this;omega⟩
        rw[if_pos (Decidable.not_not.mp qk2)]
        have ho3:=ho2.bs (k:=k2) sa sb (by omega) fun i hi _=>by have:=g1 i hi;omega
        by_cases qd:(y1+k2 == b.size)=true
        ·rw[if_pos qd]
         exact wpS_pure ⟨ev4,_,_,_,_,_,_,_,rfl,ho3.done sa sb (.inr (by simpa using qd))⟩
        rw[if_neg qd]
        have qd:y1+k2≠b.size:=fun z=>qd (by simp[z])
        have:=g2 k2 (by omega) (by omega)
        exact J _ _ ⟨ho3,by omega,by omega,by omega⟩
       case left =>
        intro o y ⟨ho,hy,hm,hc⟩
        refine wpS_bind (t_elem (by omega) ?_)
        have ho4:=ho.pa sa sb (show x<a.size by omega) fun _=>hc
        by_cases qe:(x+1+1 == a.size)=true
        ·rw[if_pos qe]
         exact wpS_pure ⟨ev4,_,_,_,_,_,_,_,rfl,ho4.last sa sb (by simpa using qe) hl⟩
        rw[if_neg qe]
        have qe:x+1+1≠a.size:=fun z=>qe (by simp[z])
        have H:LoA rk a b (o.push a[x]) (x+1) y∧x+1+1<a.size∧y<b.size∧i+1≤x+1+y:=⟨ho4,by omega,hy,by omega⟩
        split
        ·exact wpS_pure ⟨ev4,_,_,_,_,_,_,_,rfl,H⟩
        ·exact wpS_pure ⟨ev4,_,_,_,_,_,_,rfl,H⟩
    ·rintro c st3 ⟨ev,o,x,y,mg,ca,cb,rfl,ho,hx,hy,hm⟩
     exact⟨ev,_,_,_,_,_,_,_,rfl,ho,hx,hy,hm⟩
    ·rintro c st3 ⟨ev,r,o,x,y,mg,ca,cb,rfl,hp⟩
     dsimp only
     cases r with
     |some r=>exact wpS_pure ⟨ev,_,_,_,_,_,rfl,hp⟩
     |none =>
      obtain⟨ho,hx,hy,hm⟩:=hp
      refine wpS_bind (t_setMin ev fun st4 ev4=>?_)
      exact wpS_pure ⟨ev4,_,_,_,_,rfl,ho,hx,hy,hm⟩
 ·rintro c st1 ⟨ev,o,x,y,mg,rfl,ho,hx,hy,hm⟩
  omega
 ·rintro c st1 ⟨ev,r,o,x,y,mg,rfl,hr⟩
  exact wpS_pure (h r st1 hr ev)
def HiP (rk:Value→Int) (a b:Array Keyed) (m:Nat) (r:Option (Array Keyed)) (o:Array Keyed) (x y:Nat):Prop :=
 match r with
 |some o=>ui rk a b o
 |none=>HiA rk a b o x y∧1≤x∧x<a.size∧2≤y∧y≤b.size∧m+x+y≤a.size+b.size
theorem HiA.pa1 {rk:Value→Int}{a b o:Array Keyed}{x y:Nat}(h:HiA rk a b o x y) (sa:SA rk a.toList) (sb:SA rk b.toList) (hx0:1≤x) (hx:x≤a.size) (hy:y≤b.size) (hc:1≤y→kf rk b.toList (y-1)≤kf rk a.toList (x-1)):HiA rk a b (o.push (a[x-1]'(by omega))) (x-1) y:=by
 have e:x=x-1+1:=by omega
 rw[e] at h
 exact h.pa sa sb (by omega) hy hc
theorem HiA.pb1 {rk:Value→Int}{a b o:Array Keyed}{x y:Nat}(h:HiA rk a b o x y) (sa:SA rk a.toList) (sb:SA rk b.toList) (hy0:1≤y) (hx:x≤a.size) (hy:y≤b.size) (hc:1≤x→kf rk a.toList (x-1)≤kf rk b.toList (y-1)):HiA rk a b (o.push (b[y-1]'(by omega))) x (y-1):=by
 have e:y=y-1+1:=by omega
 rw[e] at h
 exact h.pb sa sb (by omega) hx hc
theorem Z2 (C:Cmp prog w A s it κ rk){st:SortSt}(hk:kindOf st=κ){a b:Array Keyed}(ha:In it a) (hb:In it b) (za:1≤a.size) (zb:1≤b.size)
  (sa:SA rk a.toList) (sb:SA rk b.toList) (h0:∀ i,i<a.size→kf rk b.toList 0≤kf rk a.toList i) (hl:kf rk b.toList (b.size-1)≤kf rk a.toList (a.size-1))
  {Q:Array Keyed→SortSt→Prop}(h:∀ o st',ui rk a b o→Eqv st st'→Q o st'):wpS (model prog w) A E s (XR a b) Q st:=by
 refine wpS_bind (wpS_lift (wpAny_rule ⟨rfl,?_⟩))
 refine wpS_bind (t_elem (by omega) ?_)
 have n0:HiA rk a b #[] a.size b.size:=by
  refine⟨?_,SA.nil,fun u hu v hv=>by cases hv⟩
  rw[List.take_of_length_le (by simp),List.take_of_length_le (by simp)]
  simp
 have b0:HiA rk a b #[a[a.size-1]] (a.size-1) b.size:=n0.pa1 sa sb za (Nat.le_refl _) (Nat.le_refl _) fun _=>hl
 dsimp only
 by_cases q1:(a.size-1 == 0)=true
 ·rw[if_pos q1]
  exact wpS_pure (h _ _ (b0.done sa sb (.inl (by simpa using q1))) (Eqv.refl st))
 rw[if_neg q1]
 by_cases q2:(b.size == 1)=true
 ·rw[if_pos q2]
  exact wpS_pure (h _ _ (b0.first sa sb (by simpa using q2) h0) (Eqv.refl st))
 rw[if_neg q2]
 have q1:a.size-1≠0:=fun z=>q1 (by simp[z])
 have q2:b.size≠1:=fun z=>q2 (by simp[z])
 refine wpS_bind (wpS_get ?_)
 refine wpS_bind (wpS_mono (wpS_forRange (I:=fun i c st'=>Eqv st st'∧∃ x y o mg,c=(none,x,y,o,mg)∧HiA rk a b o x y∧1≤x∧x<a.size∧2≤y∧y≤b.size∧i+x+y≤a.size+b.size) (Q:=fun c st'=>Eqv st st'∧∃ r x y o mg,c=(some r,x,y,o,mg)∧ui rk a b r) ?_ ?_ ⟨Eqv.refl st,_,_,_,_,rfl,b0,by omega,by omega,by omega,by omega,by omega⟩) ?_)
 ·rintro i c st1 _ hi ⟨ev,x,y,o,mg,rfl,ho,hx,hx2,hy,hy2,hm⟩
  dsimp only
  refine wpS_bind (wpS_mono (wpS_forRange (I:=fun j c st'=>Eqv st st'∧∃ x y o ca cb,c=(none,x,y,o,ca,cb)∧HiA rk a b o x y∧1≤x∧x<a.size∧2≤y∧y≤b.size∧i+j+x+y≤a.size+b.size) (Q:=fun c st'=>Eqv st st'∧∃ r x y o ca cb,c=(r,x,y,o,ca,cb)∧HiP rk a b (i+1) r o x y) ?_ ?_ ⟨ev,_,_,_,_,_,rfl,ho,hx,hx2,hy,hy2,hm⟩) ?_)
  ·rintro j c st2 _ hj ⟨ev,x,y,o,ca,cb,rfl,ho,hx,hx2,hy,hy2,hm⟩
   dsimp only
   have hx0:=ha.at (i:=x-1) (by omega)
   have hy0:=hb.at (i:=y-1) (by omega)
   have ex:=yt (rk:=rk) (show x-1<a.size by omega)
   have ey:=yt (rk:=rk) (show y-1<b.size by omega)
   refine wpS_bind (t_elem (by omega) (wpS_bind (t_elem (by omega) (wpS_bind (Uc C (ev.k.trans hk) hy0 hx0 ?_)))))
   by_cases bw:rk (b[y-1]'(by omega)).1<rk (a[x-1]'(by omega)).1
   ·rw[decide_eq_true bw]
    simp only[if_true]
    refine wpS_bind (t_elem (by omega) ?_)
    have ho':=ho.pa1 sa sb hx (by omega) hy2 fun _=>by omega
    by_cases q3:(x-1 == 0)=true
    ·rw[if_pos q3]
     exact wpS_pure ⟨ev,_,_,_,_,_,_,rfl,ho'.done sa sb (.inl (by simpa using q3))⟩
    ·rw[if_neg q3]
     have q3:x-1≠0:=fun z=>q3 (by simp[z])
     by_cases q4:ca+1≥mg
     ·rw[if_pos q4]
      exact wpS_pure ⟨ev,_,_,_,_,_,_,rfl,ho',by omega,by omega,by omega,by omega,by omega⟩
     ·rw[if_neg q4]
      exact wpS_pure ⟨ev,_,_,_,_,_,rfl,ho',by omega,by omega,by omega,by omega,by omega⟩
   ·rw[decide_eq_false bw]
    simp only[Bool.false_eq_true,if_false]
    refine wpS_bind (t_elem (by omega) ?_)
    have ho':=ho.pb1 sa sb (by omega) (by omega) hy2 fun _=>by omega
    by_cases q3:(y-1 == 1)=true
    ·rw[if_pos q3]
     exact wpS_pure ⟨ev,_,_,_,_,_,_,rfl,ho'.first sa sb (by simpa using q3) h0⟩
    ·rw[if_neg q3]
     have q3:y-1≠1:=fun z=>q3 (by simp[z])
     by_cases q4:cb+1≥mg
     ·rw[if_pos q4]
      exact wpS_pure ⟨ev,_,_,_,_,_,_,rfl,ho',by omega,by omega,by omega,by omega,by omega⟩
     ·rw[if_neg q4]
      exact wpS_pure ⟨ev,_,_,_,_,_,rfl,ho',by omega,by omega,by omega,by omega,by omega⟩
  ·rintro c st2 ⟨ev,x,y,o,ca,cb,rfl,ho,hx,hx2,hy,hy2,hm⟩
   exact⟨ev,_,_,_,_,_,_,rfl,ho,hx,hx2,hy,hy2,by omega⟩
  ·rintro c st2 ⟨ev,r,x,y,o,ca,cb,rfl,hp⟩
   dsimp only
   cases r with
   |some r=>exact wpS_pure ⟨ev,_,_,_,_,_,rfl,hp⟩
   |none =>
    obtain⟨ho,hx,hx2,hy,hy2,hm⟩:=hp
    refine wpS_bind (wpS_lift (wpAny_rule ⟨rfl,?_⟩))
    refine wpS_bind (wpS_mono (wpS_forRange (I:=fun _ c st'=>Eqv st st'∧∃ x y o mg ca cb,c=(none,x,y,o,mg,ca,cb)∧HiA rk a b o x y∧1≤x∧x<a.size∧2≤y∧y≤b.size∧i+1+x+y≤a.size+b.size) (Q:=fun c st'=>Eqv st st'∧∃ r x y o mg ca cb,c=(r,x,y,o,mg,ca,cb)∧HiP rk a b (i+1) r o x y) ?_ ?_ ⟨ev,_,_,_,_,_,_,rfl,ho,hx,hx2,hy,hy2,hm⟩) ?_)
    ·rintro j c st3 _ hj ⟨ev,x,y,o,mg,ca,cb,rfl,ho,hx,hx2,hy,hy2,hm⟩
     dsimp only
     revert mg
     apply jn1
     case k =>
      intro J mg
      by_cases qm:¬ mg>1
      ·rw[if_neg qm]
       exact J mg
      ·rw[if_pos (Decidable.not_not.mp qm)]
       exact J (mg-1)
     case J =>
      intro mg
      refine wpS_bind (t_setMin ev fun st4 ev4=>?_)
      refine wpS_bind (t_elem (by omega) ?_)
      have hy9:y-1<b.size:=by omega
      have ey:=yt (rk:=rk) hy9
      refine wpS_bind (yZ C (ev4.k.trans hk) (hb.at (i:=y-1) (by omega)) ha (by omega) (by omega) (fun i j hij hj=>sa.le (by omega) (by rw[Array.length_toList];omega)) fun k hk1 g1 g2=>?_)
      simp only[Bool.false_eq_true,if_false,Nat.zero_add] at g1 g2
      dsimp only
      generalize hn1:x-k=n1
      have HH:=And.intro ho (And.intro hx (And.intro hx2 (And.intro hm (And.intro hk1 (And.intro hn1 (And.intro g1 g2))))))
      clear ho hx hx2 hm hk1 hn1 g1 g2
      revert HH
      revert o x
      refine jn2 (H:=fun x o=>HiA rk a b o x y∧1≤x∧x<a.size∧i+1+x+y≤a.size+b.size∧kf rk a.toList (x-1)≤kf rk b.toList (y-1)) ?_
      apply Exists.intro
      apply And.intro
      case right =>
       intro J x o ⟨ho,hx,hx2,hm,hk1,hn1,g1,g2⟩
       by_cases qk:¬ n1>0
       ·rw[if_neg qk]
        have:=g1 (x-1) (by omega)
        exact J x o ⟨ho,hx,hx2,hm,by omega⟩
       rw[if_pos (Decidable.not_not.mp qk)]
       have ho1:=ho.as (k:=k) sa sb (by omega) (by omega) hy2 fun i hi hi2 _=>by have:=g2 i hi hi2;omega
       by_cases qa:(k == 0)=true
       ·rw[if_pos qa]
        exact wpS_pure ⟨ev4,_,_,_,_,_,_,_,rfl,ho1.done sa sb (.inl (by simpa using qa))⟩
       rw[if_neg qa]
       have qa:k≠0:=fun z=>qa (by simp[z])
       have:=g1 (k-1) (by omega)
       exact J k _ ⟨ho1,by omega,by omega,by omega,by omega⟩
      case left =>
       intro x o ⟨ho,hx,hx2,hm,hc⟩
       refine wpS_bind (t_elem (by omega) ?_)
       have ho2:=ho.pb1 sa sb (by omega) (by omega) hy2 fun _=>hc
       by_cases qc:(y-1 == 1)=true
       ·rw[if_pos qc]
        exact wpS_pure ⟨ev4,_,_,_,_,_,_,_,rfl,ho2.first sa sb (by simpa using qc) h0⟩
       rw[if_neg qc]
       have qc:y-1≠1:=fun z=>qc (by simp[z])
       refine wpS_bind (t_elem (by omega) ?_)
       have hx9:x-1<a.size:=by omega
       have ex:=yt (rk:=rk) hx9
       refine wpS_bind (yZ C (ev4.k.trans hk) (ha.at (i:=x-1) (by omega)) hb (by omega) (by omega) (fun i j hij hj=>sb.le (by omega) (by rw[Array.length_toList];omega)) fun k2 hk2 g1 g2=>?_)
       simp only[if_true,Nat.zero_add] at g1 g2
       dsimp only
       have hy1:2≤y-1∧y-1≤b.size∧i+1+x+(y-1)≤a.size+b.size:=⟨by omega,by omega,by omega⟩
       generalize o.push (b[y-1]'(by omega))=o2 at ho2 ⊢
       clear ey hy9 hc
       generalize y-1=y1 at hy1 hk2 ho2 g1 g2 ⊢
       generalize hn2:y1-k2=n2
       have HH:=And.intro ho2 (And.intro hy1 (And.intro hk2 (And.intro hn2 (And.intro g1 g2))))
       clear ho2 hy1 hk2 hn2 g1 g2
       revert HH
       revert o2 y1
       refine jn2 (H:=fun o y=>HiA rk a b o x y∧2≤y∧y≤b.size∧i+1+x+y≤a.size+b.size∧kf rk b.toList (y-1)≤kf rk a.toList (x-1)) ?_
       apply Exists.intro
       apply And.intro
       case right =>
        intro J o2 y1 ⟨ho2,⟨hy1,hy3,hm1⟩,hk2,hn2,g1,g2⟩
        by_cases qk2:¬ n2>0
        ·rw[if_neg qk2]
         have:=g1 (y1-1) (by omega)
         exact J o2 y1 ⟨ho2,hy1,hy3,hm1,by omega⟩
        rw[if_pos (Decidable.not_not.mp qk2)]
        have ho3:=ho2.bs (k:=k2) sa sb (by omega) (by omega) (by omega) fun i hi hi2 _=>by have:=g2 i hi hi2;omega
        by_cases qd:(k2 == 1)=true
        ·rw[if_pos qd]
         exact wpS_pure ⟨ev4,_,_,_,_,_,_,_,rfl,ho3.first sa sb (by simpa using qd) h0⟩
        rw[if_neg qd]
        have qd:k2≠1:=fun z=>qd (by simp[z])
        by_cases qd2:(k2 == 0)=true
        ·rw[if_pos qd2]
         exact wpS_pure ⟨ev4,_,_,_,_,_,_,_,rfl,ho3.done sa sb (.inr (by simpa using qd2))⟩
        rw[if_neg qd2]
        have qd2:k2≠0:=fun z=>qd2 (by simp[z])
        have:=g1 (k2-1) (by omega)
        exact J _ k2 ⟨ho3,by omega,by omega,by omega,by omega⟩
       case left =>
        intro o y ⟨ho,hy,hy2,hm,hc⟩
        refine wpS_bind (t_elem (by omega) ?_)
        have ho4:=ho.pa1 sa sb hx (by omega) hy2 fun _=>hc
        by_cases qe:(x-1 == 0)=true
        ·rw[if_pos qe]
         exact wpS_pure ⟨ev4,_,_,_,_,_,_,_,rfl,ho4.done sa sb (.inl (by simpa using qe))⟩
        rw[if_neg qe]
        have qe:x-1≠0:=fun z=>qe (by simp[z])
        have H:HiA rk a b (o.push (a[x-1]'(by omega))) (x-1) y∧1≤x-1∧x-1<a.size∧2≤y∧y≤b.size∧i+1+(x-1)+y≤a.size+b.size:=⟨ho4,by omega,by omega,hy,hy2,by omega⟩
        split
        ·exact wpS_pure ⟨ev4,_,_,_,_,_,_,_,rfl,H⟩
        ·exact wpS_pure ⟨ev4,_,_,_,_,_,_,rfl,H⟩
    ·rintro c st3 ⟨ev,x,y,o,mg,ca,cb,rfl,ho,hx,hx2,hy,hy2,hm⟩
     exact⟨ev,_,_,_,_,_,_,_,rfl,ho,hx,hx2,hy,hy2,hm⟩
    ·rintro c st3 ⟨ev,r,x,y,o,mg,ca,cb,rfl,hp⟩
     dsimp only
     cases r with
     |some r=>exact wpS_pure ⟨ev,_,_,_,_,_,rfl,hp⟩
     |none =>
      obtain⟨ho,hx,hx2,hy,hy2,hm⟩:=hp
      refine wpS_bind (t_setMin ev fun st4 ev4=>?_)
      exact wpS_pure ⟨ev4,_,_,_,_,rfl,ho,hx,hx2,hy,hy2,hm⟩
 ·rintro c st1 ⟨ev,x,y,o,mg,rfl,ho,hx,hx2,hy,hy2,hm⟩
  omega
 ·rintro c st1 ⟨ev,r,x,y,o,mg,rfl,hr⟩
  exact wpS_pure (h r st1 hr ev)
end
section
variable {prog:Program}{w:World}{A:Around}{E:Value→Shared→Prop}{s:Shared}{it T:List Keyed}{κ:SortKind}{n:Nat}{rk:Value→Int}
structure TB (it T:List Keyed) (κ:SortKind) (n:Nat) (st:SortSt):Prop where
 z:(arrOf st).size=n
 p:(arrOf st).toList.Perm T
 i:In it (arrOf st)
 k:kindOf st=κ
 f:failedOf st=none
theorem TB.perm {st:SortSt}(t:TB it T κ n st){xs:Array Keyed}(p:xs.Perm (arrOf st)):TB it T κ n (setArr st xs) :=
 ⟨p.size_eq.trans t.z,(Array.perm_iff_toList_perm.mp p).trans t.p,fun x hx=>t.i x (Array.mem_def.mpr ((Array.perm_iff_toList_perm.mp p).mem_iff.mp (Array.mem_def.mp hx))),t.k,t.f⟩
def ks (rk:Value→Int) (st:SortSt) (i:Nat):Int:=kf rk (arrOf st).toList i
theorem YF {st st':SortSt}{i j:Nat}(h:(arrOf st')[i]?=(arrOf st)[j]?):ks rk st' i=ks rk st j:=by
 unfold ks kf
 rw[Array.getElem?_toList,Array.getElem?_toList,h]
def Sg (rk:Value→Int) (st:SortSt) (lo hi:Nat):Prop:=∀ i j,lo≤i→i≤j→j<hi→ks rk st i≤ks rk st j
theorem t_ltAt (C:Cmp prog w A s it κ rk){st:SortSt}(t:TB it T κ n st){i j:Nat}(hi:i<n) (hj:j<n){Q:Option Bool→SortSt→Prop}(h:Q (some (decide (ks rk st i<ks rk st j))) st):wpS (model prog w) A E s (ltAt' i j) Q st:=by
 rw[ltAt'_eq]
 refine wpS_bind (wpS_get ?_)
 have hi:i<(arrOf st).size:=by rw[t.z];exact hi
 have hj:j<(arrOf st).size:=by rw[t.z];exact hj
 refine wpS_bind (t_elem hi (wpS_bind (t_elem hj (Uc C t.k (t.i.at hi) (t.i.at hj) ?_))))
 rw[yt (rk:=rk) hi,yt (rk:=rk) hj]
 exact h
structure Od (rk:Value→Int) (it T:List Keyed) (κ:SortKind) (n:Nat) (p:Array (Nat×Nat×Nat)) (lo:Nat) (f:Nat→Int) (st:SortSt):Prop where
 t:TB it T κ n st
 p:pendingOf st=p
 l:∀ i,i<lo→ks rk st i=f i
variable {p:Array (Nat×Nat×Nat)}{lo:Nat}{f:Nat→Int}
theorem t_rev {st:SortSt}(o:Od rk it T κ n p lo f st){i j:Nat}(hi:lo≤i) (hj:j≤n){Q:Unit→SortSt→Prop}(h:∀ st',Od rk it T κ n p lo f st'→(∀ k,ks rk st' k=if i≤k∧k<j then ks rk st (i+j-1-k) else ks rk st k)→Q () st'):wpS (model prog w) A E s (reverseSlice' i j) Q st:=by
 rw[reverseSlice'_eq]
 have hk:∀ k,ks rk (setArr st (mirror (arrOf st) i j ((j-i)/2))) k=if i≤k∧k<j then ks rk st (i+j-1-k) else ks rk st k:=fun k=>by
  have e:=getElem?_mirror_all (xs:=arrOf st) (i:=i) (j:=j) (by rw[o.t.z];exact hj) k
  by_cases q:i≤k∧k<j
  ·rw[if_pos q] at e ⊢
   exact YF e
  ·rw[if_neg q] at e ⊢
   exact YF e
 refine wpS_modify (h _ ⟨o.t.perm (mirror_perm _ _ _ _),o.p,fun k hk'=>?_⟩ hk)
 rw[hk k,if_neg (by omega)]
 exact o.l k hk'
theorem t_move {st:SortSt}(o:Od rk it T κ n p lo f st){i j:Nat}(hj:lo≤j) (hji:j≤i) (hi:i<n){Q:Unit→SortSt→Prop}(h:∀ st',Od rk it T κ n p lo f st'→(∀ k,ks rk st' k=if k=j then ks rk st i else if j<k∧k≤i then ks rk st (k-1) else ks rk st k)→Q () st'):wpS (model prog w) A E s (moveDown' i j) Q st:=by
 rw[moveDown'_eq]
 have hk:∀ k,ks rk (setArr st (bubble (arrOf st) i (i-j))) k=if k=j then ks rk st i else if j<k∧k≤i then ks rk st (k-1) else ks rk st k:=fun k=>by
  have e:=getElem?_bubble (xs:=arrOf st) (src:=i) (by rw[o.t.z];exact hi) (i-j) (by omega) k
  rw[show i-(i-j)=j by omega] at e
  by_cases q:k=j
  ·rw[if_pos q] at e ⊢
   exact YF e
  ·rw[if_neg q] at e ⊢
   by_cases q2:j<k∧k≤i
   ·rw[if_pos q2] at e ⊢
    exact YF e
   ·rw[if_neg q2] at e ⊢
    exact YF e
 refine wpS_modify (h _ ⟨o.t.perm (bubble_perm _ _ _),o.p,fun k hk'=>?_⟩ hk)
 rw[hk k,if_neg (by omega),if_neg (by omega)]
 exact o.l k hk'
theorem zas (C:Cmp prog w A s it κ rk){st:SortSt}(o:Od rk it T κ n p lo f st){m ok:Nat}(hm:lo+m≤n) (hok:ok≤m) (hm1:1≤m) (sg:Sg rk st lo (lo+ok)){Q:Bool→SortSt→Prop}(h:∀ st',Od rk it T κ n p lo f st'→Sg rk st' lo (lo+m)→Q true st'):wpS (model prog w) A E s (binarySort' lo m ok) Q st:=by
 rw[binarySort'_eq]
 refine wpS_bind (wpS_mono (wpS_forRange (I:=fun k c st'=>c=(none,())∧Od rk it T κ n p lo f st'∧Sg rk st' lo (lo+k)) (Q:=fun c st'=>c=(none,())∧Od rk it T κ n p lo f st'∧Sg rk st' lo (lo+m)) ?_ ?_ ⟨rfl,o,?_⟩) ?_)
 ·rintro k c st1 hk1 hk ⟨rfl,o1,sg1⟩
  dsimp only
  refine wpS_bind (wpS_mono (wpS_forRange (I:=fun jj c st'=>st'=st1∧∃ l r,c=(none,l,r)∧l≤r∧r≤k∧r≤l+(k-jj)∧(∀ i,i<l→ks rk st1 (lo+i)≤ks rk st1 (lo+k))∧(∀ i,r≤i→i<k→ks rk st1 (lo+k)≤ks rk st1 (lo+i))) (Q:=fun c st'=>st'=st1∧∃ l r,c=(none,l,r)∧l≤k∧(∀ i,i<l→ks rk st1 (lo+i)≤ks rk st1 (lo+k))∧(∀ i,l≤i→i<k→ks rk st1 (lo+k)≤ks rk st1 (lo+i))) ?_ ?_ ⟨rfl,_,_,rfl,by omega,Nat.le_refl _,by omega,fun i hi=>by omega,fun i h1 h2=>by omega⟩) ?_)
  ·rintro j c st2 _ hj ⟨rfl,l,r,rfl,hlr,hr,hf,g1,g2⟩
   dsimp only
   by_cases q:l≥r
   ·rw[if_pos q]
    exact wpS_pure ⟨rfl,_,_,rfl,by omega,g1,fun i h1 h2=>g2 i (by omega) h2⟩
   ·rw[if_neg q]
    refine wpS_bind (t_ltAt C o1.t (by omega) (by omega) ?_)
    by_cases z:ks rk st2 (lo+k)<ks rk st2 (lo+(l+r)/2)
    ·rw[decide_eq_true z]
     refine wpS_pure ⟨rfl,_,_,rfl,by omega,by omega,by omega,g1,fun i h1 h2=>?_⟩
     have:=sg1 (lo+(l+r)/2) (lo+i) (by omega) (by omega) (by omega)
     omega
    ·rw[decide_eq_false z]
     refine wpS_pure ⟨rfl,_,_,rfl,by omega,by omega,by omega,fun i h1=>?_,g2⟩
     have:=sg1 (lo+i) (lo+(l+r)/2) (by omega) (by omega) (by omega)
     omega
  ·rintro c st2 ⟨rfl,l,r,rfl,hlr,hr,hf,g1,g2⟩
   have e:max 0 k=k:=by omega
   rw[e] at hf
   exact⟨rfl,_,_,rfl,by omega,g1,fun i h1 h2=>g2 i (by omega) h2⟩
  ·rintro c st2 ⟨rfl,l,r,rfl,hl,g1,g2⟩
   dsimp only
   refine wpS_bind (t_move o1 (by omega) (by omega) (by omega) fun st3 o3 e3=>wpS_pure ⟨rfl,o3,fun i j h1 h2 h3=>?_⟩)
   rw[e3 i,e3 j]
   have ge:∀ x,lo≤x→x<lo+l→ks rk st2 x≤ks rk st2 (lo+k):=fun x a1 a2=>by
    have:=g1 (x-lo) (by omega)
    rw[show lo+(x-lo)=x by omega] at this
    exact this
   have le:∀ x,lo+l≤x→x<lo+k→ks rk st2 (lo+k)≤ks rk st2 x:=fun x a1 a2=>by
    have:=g2 (x-lo) (by omega) (by omega)
    rw[show lo+(x-lo)=x by omega] at this
    exact this
   by_cases c1:i=lo+l
   ·rw[if_pos c1]
    by_cases c2:j=lo+l
    ·rw[if_pos c2];exact Int.le_refl _
    ·rw[if_neg c2,if_pos (by omega)]
     exact le (j-1) (by omega) (by omega)
   ·rw[if_neg c1]
    by_cases c3:lo+l<i∧i≤lo+k
    ·rw[if_pos c3,if_neg (by omega),if_pos (by omega)]
     exact sg1 _ _ (by omega) (by omega) (by omega)
    ·rw[if_neg c3]
     by_cases c2:j=lo+l
     ·rw[if_pos c2]
      exact ge i h1 (by omega)
     ·rw[if_neg c2]
      by_cases c4:lo+l<j∧j≤lo+k
      ·rw[if_pos c4]
       exact sg1 _ _ h1 (by omega) (by omega)
      ·rw[if_neg c4]
       exact sg1 _ _ h1 h2 (by omega)
 ·rintro c st' ⟨rfl,o1,sg1⟩
  refine⟨rfl,o1,?_⟩
  rw[show max (max ok 1) m=m by omega] at sg1
  exact sg1
 ·intro i j h1 h2 h3
  by_cases q:ok=0
  ·have:i=j:=by omega
   rw[this]
   exact Int.le_refl _
  ·exact sg i j h1 h2 (by omega)
 ·rintro c st1 ⟨rfl,o1,sg1⟩
  exact wpS_pure (h st1 o1 sg1)
def Dn (rk:Value→Int) (st:SortSt) (lo m g:Nat):Prop:=(∀ i j,lo≤i→i≤j→j<lo+m→ks rk st j≤ks rk st i)∧g+1≤m∧∀ i,lo+m≤i+g+1→i<lo+m→ks rk st i=ks rk st (lo+m-1)
theorem zbu (C:Cmp prog w A s it κ rk){st:SortSt}(o:Od rk it T κ n p lo f st){m k:Nat}(hm:lo+m≤n) (hk1:1≤k) (hk:k≤m) (sg:Sg rk st lo (lo+k)){c0:Option (Option Nat)×Nat}(hc:c0=(none,k)){g:Nat→Option (Option Nat)×Nat→StateT SortSt Sem (ForInStep (Option (Option Nat)×Nat))}
  (hg:∀ (x i:Nat) (R:ForInStep (Option (Option Nat)×Nat)→SortSt→Prop),1≤i→i<m→(ks rk st (lo+i)<ks rk st (lo+i-1)→R (.done (none,i)) st)→(¬ ks rk st (lo+i)<ks rk st (lo+i-1)→R (.yield (none,i+1)) st)→wpS (model prog w) A E s (g x (none,i)) R st){Q:Option (Option Nat)×Nat→SortSt→Prop}
  (h:∀ j,k≤j→j≤m→Sg rk st lo (lo+j)→(j=m∨ks rk st (lo+j)<ks rk st (lo+j-1))→Q (none,j) st):wpS (model prog w) A E s (forIn [k:m] c0 g) Q st:=by
 subst hc
 refine wpS_mono (wpS_forRange (I:=fun i c st'=>st'=st∧c=(none,i)∧Sg rk st lo (lo+i)) (Q:=fun c st'=>st'=st∧∃ j,c=(none,j)∧k≤j∧j≤m∧Sg rk st lo (lo+j)∧(j=m∨ks rk st (lo+j)<ks rk st (lo+j-1))) ?_ ?_ ⟨rfl,rfl,sg⟩) ?_
 ·rintro i c st1 hi1 hi ⟨rfl,rfl,sg1⟩
  refine hg i i _ (by omega) hi (fun z=>⟨rfl,i,rfl,hi1,by omega,sg1,.inr z⟩) fun z=>⟨rfl,rfl,fun a b h1 h2 h3=>?_⟩
  by_cases e:b=lo+i
  ·subst e
   by_cases e2:a=lo+i
   ·subst e2;exact Int.le_refl _
   ·have:=sg1 a (lo+i-1) h1 (by omega) (by omega)
    omega
  ·exact sg1 a b h1 h2 (by omega)
 ·rintro c st1 ⟨rfl,rfl,sg1⟩
  rw[show max k m=m by omega] at sg1 ⊢
  exact⟨rfl,m,rfl,hk,Nat.le_refl _,sg1,.inl rfl⟩
 ·rintro c st1 ⟨rfl,j,rfl,h1,h2,h3,h4⟩
  exact h j h1 h2 h3 h4
theorem jn3 {α:Type}{H:α→Prop}{G:Prop}(h:∃ P:α→Prop,(∀ m,H m→P m)∧((∀ m,H m→P m)→G)):G:=by
 obtain⟨P,J,k⟩:=h
 exact k J
theorem Vf (C:Cmp prog w A s it κ rk){st:SortSt}(o:Od rk it T κ n p lo f st){m:Nat}(h1:1≤m) (hm:lo+m≤n){Q:Option Nat→SortSt→Prop}(h:∀ k st',1≤k→k≤m→Od rk it T κ n p lo f st'→Sg rk st' lo (lo+k)→Q (some k) st'):wpS (model prog w) A E s (countRun' lo m) Q st:=by
 rw[countRun'_eq]
 refine wpS_bind (zbu C o hm (Nat.le_refl _) h1 (fun i j a b c=>by rw[show i=j by omega];exact Int.le_refl _) rfl (fun x i R i1 i2 y1 y2=>wpS_bind (t_ltAt C o.t (by omega) (by omega) (by
  dsimp only
  by_cases z:ks rk st (lo+i)<ks rk st (lo+i-1)
  ·rw[decide_eq_true z]
   exact wpS_pure (y1 z)
  ·rw[decide_eq_false z]
   exact wpS_pure (y2 z)))) fun k k1 k2 sg k3=>?_)
 dsimp only
 by_cases q:(k == m)=true
 ·rw[if_pos q]
  exact wpS_pure (h k st k1 k2 o sg)
 rw[if_neg q]
 have q:k≠m:=fun z=>q (by simp[z])
 have k3:ks rk st (lo+k)<ks rk st (lo+k-1):=k3.resolve_left q
 refine jn3 (H:=fun st2=>Od rk it T κ n p lo f st2∧Dn rk st2 lo (k+1) 0) ?_
 apply Exists.intro
 apply And.intro
 case right =>
  intro J
  by_cases qk:k>1
  ·rw[if_pos qk]
   refine wpS_bind (t_ltAt C o.t (by omega) (by omega) ?_)
   by_cases z:ks rk st lo<ks rk st (lo+k-1)
   ·rw[decide_eq_true z]
    exact wpS_pure (h k st k1 k2 o sg)
   ·rw[decide_eq_false z]
    simp only[Bool.false_eq_true,if_false]
    refine wpS_bind (t_rev o (by omega) (by omega) fun st2 o2 e2=>J st2 ⟨o2,fun i j a1 a2 a3=>?_,by omega,fun i a1 a2=>by rw[show i=lo+(k+1)-1 by omega]⟩)
    have eq:∀ x,lo≤x→x<lo+k→ks rk st x=ks rk st lo:=fun x b1 b2=>by
     have c1:=sg lo x (Nat.le_refl _) b1 b2
     have c2:=sg x (lo+k-1) b1 (by omega) (by omega)
     omega
    have eq2:∀ x,lo≤x→x<lo+k→ks rk st2 x=ks rk st lo:=fun x b1 b2=>by
     rw[e2 x,if_pos ⟨b1,b2⟩]
     exact eq _ (by omega) (by omega)
    have e4:ks rk st2 (lo+k)=ks rk st (lo+k):=by rw[e2,if_neg (by omega)]
    have e5:=eq (lo+k-1) (by omega) (by omega)
    by_cases c:j=lo+k
    ·subst c
     by_cases c2:i=lo+k
     ·subst c2;exact Int.le_refl _
     ·rw[e4,eq2 i a1 (by omega)]
      omega
    ·rw[eq2 j (by omega) (by omega),eq2 i a1 (by omega)]
     exact Int.le_refl _
  ·rw[if_neg qk]
   have:k=1:=by omega
   subst this
   refine J st ⟨o,fun i j a1 a2 a3=>?_,by omega,fun i a1 a2=>by rw[show i=lo+(1+1)-1 by omega]⟩
   rcases Nat.lt_or_eq_of_le a2 with c | c
   ·rw[show i=lo by omega,show j=lo+1 by omega]
    rw[Nat.add_sub_cancel] at k3
    omega
   ·subst c;exact Int.le_refl _
 case left =>
  intro st2 ⟨o2,d2⟩
  refine wpS_bind (wpS_lift (wpAny_rule ⟨rfl,?_⟩))
  refine wpS_bind (wpS_mono (wpS_forRange (I:=fun i c st'=>Od rk it T κ n p lo f st'∧∃ g,c=(none,i,g)∧Dn rk st' lo i g) (Q:=fun c st'=>Od rk it T κ n p lo f st'∧∃ j g,c=(none,j,g)∧k+1≤j∧j≤m∧Dn rk st' lo j g) ?_ ?_ ⟨o2,_,rfl,d2⟩) ?_)
  ·rintro i c st3 hi1 hi ⟨o3,g,rfl,⟨d1,d2,d3⟩⟩
   dsimp only
   refine wpS_bind (t_ltAt C o3.t (by omega) (by omega) ?_)
   by_cases z:ks rk st3 (lo+i)<ks rk st3 (lo+i-1)
   ·rw[decide_eq_true z]
    simp only[if_true]
    by_cases qg:g>0
    ·rw[if_pos qg]
     refine wpS_bind (t_rev o3 (by omega) (by omega) fun st4 o4 e4=>wpS_pure ⟨o4,_,rfl,?_⟩)
     have same:∀ x,lo≤x→x<n→ks rk st4 x=ks rk st3 x:=fun x b1 b2=>by
      rw[e4 x]
      by_cases c:lo+i-(g+1)≤x∧x<lo+i
      ·rw[if_pos c,d3 (lo+i-(g+1)+(lo+i)-1-x) (by omega) (by omega),d3 x (by omega) (by omega)]
      ·rw[if_neg c]
     refine⟨fun a b a1 a2 a3=>?_,by omega,fun x a1 a2=>by rw[show x=lo+(i+1)-1 by omega]⟩
     rw[same a a1 (by omega),same b (by omega) (by omega)]
     by_cases c:b=lo+i
     ·subst c
      by_cases c2:a=lo+i
      ·subst c2;exact Int.le_refl _
      ·have:=d1 a (lo+i-1) a1 (by omega) (by omega)
       omega
     ·exact d1 a b a1 a2 (by omega)
    ·rw[if_neg qg]
     refine wpS_pure ⟨o3,_,rfl,fun a b a1 a2 a3=>?_,by omega,fun x a1 a2=>by rw[show x=lo+(i+1)-1 by omega]⟩
     by_cases c:b=lo+i
     ·subst c
      by_cases c2:a=lo+i
      ·subst c2;exact Int.le_refl _
      ·have:=d1 a (lo+i-1) a1 (by omega) (by omega)
       omega
     ·exact d1 a b a1 a2 (by omega)
   ·rw[decide_eq_false z]
    simp only[Bool.false_eq_true,if_false]
    refine wpS_bind (t_ltAt C o3.t (by omega) (by omega) ?_)
    by_cases z2:ks rk st3 (lo+i-1)<ks rk st3 (lo+i)
    ·rw[decide_eq_true z2]
     exact wpS_pure ⟨o3,_,_,rfl,hi1,by omega,d1,d2,d3⟩
    ·rw[decide_eq_false z2]
     refine wpS_pure ⟨o3,_,rfl,fun a b a1 a2 a3=>?_,by omega,fun x a1 a2=>?_⟩
     ·by_cases c:b=lo+i
      ·subst c
       by_cases c2:a=lo+i
       ·subst c2;exact Int.le_refl _
       ·have:=d1 a (lo+i-1) a1 (by omega) (by omega)
        omega
      ·exact d1 a b a1 a2 (by omega)
     ·rw[show lo+(i+1)-1=lo+i by omega]
      by_cases c:x=lo+i
      ·rw[c]
      ·have:=d3 x (by omega) (by omega)
       omega
  ·rintro c st3 ⟨o3,g,rfl,d3⟩
   rw[show max (k+1) m=m by omega] at d3 ⊢
   exact⟨o3,_,_,rfl,by omega,Nat.le_refl _,d3⟩
  ·rintro c st3 ⟨o3,j,g,rfl,j1,j2,d3⟩
   dsimp only
   refine jn3 (H:=fun st4=>Od rk it T κ n p lo f st4∧∀ i j',lo≤i→i≤j'→j'<lo+j→ks rk st4 j'≤ks rk st4 i) ?_
   apply Exists.intro
   apply And.intro
   case right =>
    intro J
    by_cases qg:g>0
    ·rw[if_pos qg]
     refine wpS_bind (t_rev o3 (by have:=d3.2.1;omega) (by omega) fun st4 o4 e4=>J st4 ⟨o4,fun a b a1 a2 a3=>?_⟩)
     have same:∀ x,lo≤x→x<n→ks rk st4 x=ks rk st3 x:=fun x b1 b2=>by
      have:=d3.2.1
      rw[e4 x]
      by_cases c:lo+j-(g+1)≤x∧x<lo+j
      ·rw[if_pos c,d3.2.2 (lo+j-(g+1)+(lo+j)-1-x) (by omega) (by omega),d3.2.2 x (by omega) (by omega)]
      ·rw[if_neg c]
     rw[same a a1 (by omega),same b (by omega) (by omega)]
     exact d3.1 a b a1 a2 a3
    ·rw[if_neg qg]
     exact J st3 ⟨o3,d3.1⟩
   case left =>
    intro st4 ⟨o4,d4⟩
    refine wpS_bind (t_rev o4 (by omega) (by omega) fun st5 o5 e5=>?_)
    have sg5:Sg rk st5 lo (lo+j):=fun a b a1 a2 a3=>by
     rw[e5 a,e5 b,if_pos ⟨a1,by omega⟩,if_pos ⟨by omega,a3⟩]
     exact d4 _ _ (by omega) (by omega) (by omega)
    refine wpS_bind (zbu C o5 hm (by omega) j2 sg5 rfl (fun x i R i1 i2 y1 y2=>wpS_bind (t_ltAt C o5.t (by omega) (by omega) (by
     dsimp only
     by_cases z:ks rk st5 (lo+i)<ks rk st5 (lo+i-1)
     ·rw[decide_eq_true z]
      exact wpS_pure (y1 z)
     ·rw[decide_eq_false z]
      exact wpS_pure (y2 z)))) fun k' b1 b2 b3 b4=>?_)
    exact wpS_pure (h k' st5 (by omega) b2 o5 b3)
theorem Sg.sa {st:SortSt}(h:Sg rk st 0 (arrOf st).size):SA rk (arrOf st).toList:=SA.of fun i j hij hj=>h i j (Nat.zero_le _) (by omega) (by simpa using hj)
theorem sets_get:∀ (l:List Keyed) (s b:Nat) (a:Array Keyed) (i:Nat),b+s+l.length≤a.size→((l.zipIdx s).foldl (fun a (q,j)=>a.setIfInBounds (b+j) q) a)[i]?=if b+s≤i∧i<b+s+l.length then l[i-(b+s)]? else a[i]?
 |[],s,b,a,i,h=>by
  rw[if_neg (by simp)]
  rfl
 |q::l,s,b,a,i,h=>by
  rw[List.length_cons] at h
  rw[List.zipIdx_cons,List.foldl_cons,sets_get l (s+1) b _ i (by rw[Array.size_setIfInBounds];omega)]
  rw[Array.getElem?_setIfInBounds]
  by_cases c:b+s=i
  ·subst c
   rw[if_neg (by omega),if_pos rfl,if_pos (by omega),if_pos (by rw[List.length_cons];omega),Nat.sub_self]
   rfl
  ·rw[if_neg c]
   by_cases d:b+(s+1)≤i∧i<b+(s+1)+l.length
   ·rw[if_pos d,if_pos (by rw[List.length_cons];omega)]
    rw[show i-(b+s)=(i-(b+(s+1)))+1 by omega,List.getElem?_cons_succ]
   ·rw[if_neg d,if_neg (by rw[List.length_cons];omega)]
theorem Yi (l:List Keyed) (b:Nat) (a:Array Keyed) (h:b+l.length≤a.size):(l.zipIdx.foldl (fun a (q,j)=>a.setIfInBounds (b+j) q) a).toList=a.toList.take b++l++a.toList.drop (b+l.length):=by
 apply List.ext_getElem?
 intro i
 rw[Array.getElem?_toList,sets_get l 0 b a i h,Nat.add_zero]
 have lt:(a.toList.take b).length=b:=by rw[List.length_take,Array.length_toList];omega
 by_cases c:i<b
 ·rw[if_neg (by omega),List.append_assoc,List.getElem?_append_left (by omega),List.getElem?_take_of_lt c,Array.getElem?_toList]
 ·by_cases d:i<b+l.length
  ·rw[if_pos (by omega),List.append_assoc,List.getElem?_append_right (by omega),lt,List.getElem?_append_left (by omega)]
  ·rw[if_neg (by omega),List.getElem?_append_right (by rw[List.length_append];omega),List.length_append,lt,List.getElem?_drop,Array.getElem?_toList]
   congr 1
   omega
theorem zaq {x st:SortSt}{Q:PUnit→SortSt→Prop}(h:Q ⟨⟩ x):wpS (model prog w) A E s (set x:StateT SortSt Sem PUnit) Q st:=by
 unfold wpS
 rw[StateT.run_set]
 exact wpAny_pure ⟨rfl,h⟩
theorem Z3 (C:Cmp prog w A s it κ rk){st:SortSt}(t:TB it T κ n st){n1 p1 p2:Nat}(hp:pendingOf st = #[(0,n1,p1),(n1,n-n1,p2)]) (h1:1≤n1) (h2:n1<n) (sg1:Sg rk st 0 n1) (sg2:Sg rk st n1 n){Q:Bool→SortSt→Prop}
  (h:∀ st',TB it T κ n st'→pendingOf st' = #[(0,n,p1)]→Sg rk st' 0 n→Q true st'):wpS (model prog w) A E s (mergeAt' 0) Q st:=by
 refine wpS_bind (wpS_get ?_)
 have hq:=hp
 unfold pendingOf at hq
 rw[hq]
 have e0 : #[(0,n1,p1),(n1,n-n1,p2)][0]?=some (0,n1,p1):=rfl
 have e1 : #[(0,n1,p1),(n1,n-n1,p2)][0+1]?=some (n1,n-n1,p2):=rfl
 rw[e0,e1]
 dsimp only
 have ep:(#[(0,n1,p1),(n1,n-n1,p2)].setIfInBounds 0 (0,n1+(n-n1),p1)).eraseIdxIfInBounds (0+1) = #[(0,n,p1)]:=by
  rw[show n1+(n-n1)=n by omega]
  apply Array.toList_inj.mp
  simp[Array.setIfInBounds,Array.eraseIdxIfInBounds]
 rw[ep]
 refine wpS_bind (zaq ?_)
 have t2:TB it T κ n (setPending st #[(0,n,p1)]):=⟨t.z,t.p,t.i,t.k,t.f⟩
 have hz:=t.z
 have hn1:n1<(arrOf st).size:=by omega
 refine wpS_bind (t_elem hn1 ?_)
 have en1:=yt (rk:=rk) hn1
 refine wpS_bind (yZ C t2.k (t.i.at hn1) t.i (by omega) (by omega) (fun i j hij hj=>by rw[Nat.zero_add,Nat.zero_add];exact sg1 i j (Nat.zero_le _) hij hj) fun k hk1 g1 g2=>?_)
 simp only[Bool.false_eq_true,if_false,Nat.zero_add] at g1 g2
 rw[en1] at g1 g2
 dsimp only
 by_cases q1:(n1-k == 0)=true
 ·rw[if_pos q1]
  have q1:n1-k=0:=by simpa using q1
  refine wpS_pure (h _ t2 rfl fun i j _ hij hj=>?_)
  show ks rk st i≤ks rk st j
  by_cases c:j<n1
  ·exact sg1 i j (Nat.zero_le _) hij c
  ·by_cases d:i<n1
   ·have:=g1 i (by omega)
    have:=sg2 n1 j (Nat.le_refl _) (by omega) hj
    unfold ks at this ⊢
    omega
   ·exact sg2 i j (by omega) hij hj
 rw[if_neg q1]
 have q1:n1-k≠0:=fun z=>q1 (by simp[z])
 have hn2:0+k+(n1-k)-1<(arrOf st).size:=by omega
 refine wpS_bind (t_elem hn2 ?_)
 have en2:=yt (rk:=rk) hn2
 refine wpS_bind (yZ C t2.k (t.i.at hn2) t.i (by omega) (by omega) (fun i j hij hj=>sg2 _ _ (by omega) (by omega) (by omega)) fun m hm1 g3 g4=>?_)
 simp only[if_true] at g3 g4
 rw[en2,show 0+k+(n1-k)-1=n1-1 by omega] at g3 g4
 dsimp only
 by_cases q2:(m == 0)=true
 ·rw[if_pos q2]
  have q2:m=0:=by simpa using q2
  refine wpS_pure (h _ t2 rfl fun i j _ hij hj=>?_)
  show ks rk st i≤ks rk st j
  by_cases c:j<n1
  ·exact sg1 i j (Nat.zero_le _) hij c
  ·by_cases d:i<n1
   ·have a1:=g4 (j-n1) (by omega) (by omega)
    rw[show n1+(j-n1)=j by omega] at a1
    have a2:=sg1 i (n1-1) (Nat.zero_le _) (by omega) (by omega)
    unfold ks at a2 ⊢
    omega
   ·exact sg2 i j (by omega) hij hj
 rw[if_neg q2]
 have q2:m≠0:=fun z=>q2 (by simp[z])
 have lL:(arrOf st).toList.length=n:=by rw[Array.length_toList];exact hz
 have ea:((arrOf st).extract (0+k) n1).toList=((arrOf st).toList.drop k).take (n1-k):=by rw[Nat.zero_add];exact VW _ _ _
 have eb:((arrOf st).extract n1 (n1+m)).toList=((arrOf st).toList.drop n1).take m:=VX _ _ _
 have ka:∀ i,i<n1-k→kf rk (((arrOf st).toList.drop k).take (n1-k)) i=kf rk (arrOf st).toList (k+i):=fun i hi=>by
  unfold kf
  rw[List.getElem?_take_of_lt hi,List.getElem?_drop]
 have kb:∀ i,i<m→kf rk (((arrOf st).toList.drop n1).take m) i=kf rk (arrOf st).toList (n1+i):=fun i hi=>by
  unfold kf
  rw[List.getElem?_take_of_lt hi,List.getElem?_drop]
 have la:(((arrOf st).toList.drop k).take (n1-k)).length=n1-k:=by rw[List.length_take,List.length_drop];omega
 have lb:(((arrOf st).toList.drop n1).take m).length=m:=by rw[List.length_take,List.length_drop];omega
 have sa:SA rk ((arrOf st).extract (0+k) n1).toList:=by
  rw[ea]
  refine SA.of fun i j hij hj=>?_
  rw[la] at hj
  rw[ka i (by omega),ka j hj]
  exact sg1 _ _ (Nat.zero_le _) (by omega) (by omega)
 have sb:SA rk ((arrOf st).extract n1 (n1+m)).toList:=by
  rw[eb]
  refine SA.of fun i j hij hj=>?_
  rw[lb] at hj
  rw[kb i (by omega),kb j hj]
  exact sg2 _ _ (by omega) (by omega) (by omega)
 have za:((arrOf st).extract (0+k) n1).size=n1-k:=by rw[← Array.length_toList,ea,la]
 have zb:((arrOf st).extract n1 (n1+m)).size=m:=by rw[← Array.length_toList,eb,lb]
 have fin:∀ (o:Array Keyed) (st3:SortSt),ui rk ((arrOf st).extract (0+k) n1) ((arrOf st).extract n1 (n1+m)) o→Eqv (setPending st #[(0,n,p1)]) st3→TB it T κ n (setArr st3 (o.toList.zipIdx.foldl (fun a (q,j)=>a.setIfInBounds (0+k+j) q) (arrOf st3)))∧Sg rk (setArr st3 (o.toList.zipIdx.foldl (fun a (q,j)=>a.setIfInBounds (0+k+j) q) (arrOf st3))) 0 n:=fun o st3 ⟨po,so⟩ ev=>by
  rw[ea,eb] at po
  have hf:failedOf st3=none:=ev.f.trans t.f
  have ha:arrOf st3=arrOf st:=ev.a
  have lo:o.toList.length=n1-k+m:=by rw[po.length_eq,List.length_append,la,lb]
  have el:=Yi o.toList (0+k) (arrOf st3) (by rw[ha,lo];omega)
  rw[ha,lo,show 0+k+(n1-k+m)=n1+m by omega,Nat.zero_add] at el
  have el2:(o.toList.zipIdx.foldl (fun a (q,j)=>a.setIfInBounds (0+k+j) q) (arrOf st3)).toList=(arrOf st).toList.take k++o.toList++(arrOf st).toList.drop (n1+m):=by
   rw[ha,Nat.zero_add]
   exact el
  have perm:((arrOf st).toList.take k++o.toList++(arrOf st).toList.drop (n1+m)).Perm (arrOf st).toList:=by
   have e3:(arrOf st).toList=(arrOf st).toList.take k++(((arrOf st).toList.drop k).take (n1-k)++((arrOf st).toList.drop n1).take m)++(arrOf st).toList.drop (n1+m):=by
    have a1:(arrOf st).toList.take k++((arrOf st).toList.drop k).take (n1-k)=(arrOf st).toList.take n1:=(xK hk1).symm
    have a2:(arrOf st).toList.take n1++((arrOf st).toList.drop n1).take m=(arrOf st).toList.take (n1+m):=by rw[List.take_add]
    rw[← List.append_assoc,a1,a2,List.take_append_drop]
   exact(List.Perm.append_right _ (List.Perm.append_left _ po)).trans (List.Perm.of_eq e3.symm)
  have size:(o.toList.zipIdx.foldl (fun a (q,j)=>a.setIfInBounds (0+k+j) q) (arrOf st3)).size=n:=by
   rw[← Array.length_toList,el2,perm.length_eq,lL]
  refine⟨⟨size,?_,fun x hx=>?_,ev.k.trans t.k,hf⟩,?_⟩
  ·show(o.toList.zipIdx.foldl (fun a (q,j)=>a.setIfInBounds (0+k+j) q) (arrOf st3)).toList.Perm T
   rw[el2]
   exact perm.trans t.p
  ·have hx:x∈(o.toList.zipIdx.foldl (fun a (q,j)=>a.setIfInBounds (0+k+j) q) (arrOf st3)).toList:=Array.mem_def.mp hx
   rw[el2] at hx
   exact t.i x (Array.mem_def.mpr (perm.mem_iff.mp hx))
  ·have key:SA rk ((arrOf st).toList.take k++o.toList++(arrOf st).toList.drop (n1+m)):=by
    have sT:SA rk ((arrOf st).toList.take k):=by
     refine SA.of fun i j hij hj=>?_
     rw[List.length_take] at hj
     have x1:∀ i,i<k→kf rk ((arrOf st).toList.take k) i=kf rk (arrOf st).toList i:=fun i hi=>by unfold kf;rw[List.getElem?_take_of_lt hi]
     rw[x1 i (by omega),x1 j (by omega)]
     exact sg1 i j (Nat.zero_le _) (by omega) (by omega)
    have sD:SA rk ((arrOf st).toList.drop (n1+m)):=by
     refine SA.of fun i j hij hj=>?_
     rw[List.length_drop] at hj
     have x1:∀ i,kf rk ((arrOf st).toList.drop (n1+m)) i=kf rk (arrOf st).toList (n1+m+i):=fun i=>by unfold kf;rw[List.getElem?_drop]
     rw[x1 i,x1 j]
     exact sg2 _ _ (by omega) (by omega) (by omega)
    have oo:∀ u∈o.toList,kf rk (arrOf st).toList n1≤rk u.1∧rk u.1≤kf rk (arrOf st).toList (n1-1):=fun u hu=>by
     rcases List.mem_append.mp (po.mem_iff.mp hu) with z | z
     ·obtain⟨i,c1,c2,c3,e⟩:=vb (rk:=rk) z
      have d1:=g2 i (by omega) (by omega)
      have d2:=sg1 i (n1-1) (Nat.zero_le _) (by omega) (by omega)
      unfold ks at d2
      omega
     ·obtain⟨i,c1,c2,c3,e⟩:=vb (rk:=rk) z
      have d1:=g3 (i-n1) (by omega)
      rw[show n1+(i-n1)=i by omega] at d1
      have d2:=sg2 n1 i (Nat.le_refl _) (by omega) (by omega)
      unfold ks at d2
      omega
    refine(sT.app so fun u hu v hv=>?_).app sD fun u hu v hv=>?_
    ·obtain⟨i,c1,c2,e⟩:=yv (rk:=rk) hu
     have:=g1 i c1
     have:=(oo v hv).1
     omega
    ·obtain⟨j,c1,c2,e⟩:=yz (rk:=rk) hv
     rw[lL] at c2
     have d1:=g4 (j-n1) (by omega) (by omega)
     rw[show n1+(j-n1)=j by omega] at d1
     rcases List.mem_append.mp hu with z | z
     ·obtain⟨i,c3,c4,e2⟩:=yv (rk:=rk) z
      have d2:=sg1 i (n1-1) (Nat.zero_le _) (by omega) (by omega)
      unfold ks at d2
      omega
     ·have:=(oo u z).2
      omega
   intro i j _ hij hj
   show kf rk (o.toList.zipIdx.foldl (fun a (q,j)=>a.setIfInBounds (0+k+j) q) (arrOf st3)).toList i≤kf rk (o.toList.zipIdx.foldl (fun a (q,j)=>a.setIfInBounds (0+k+j) q) (arrOf st3)).toList j
   rw[el2]
   exact key.le hij (by rw[perm.length_eq,lL];exact hj)
 have fin2:∀ (o:Array Keyed) (st3:SortSt),ui rk ((arrOf st).extract (0+k) n1) ((arrOf st).extract n1 (n1+m)) o→Eqv (setPending st #[(0,n,p1)]) st3→Q (failedOf (setArr st3 (o.toList.zipIdx.foldl (fun a (q,j)=>a.setIfInBounds (0+k+j) q) (arrOf st3)))).isNone (setArr st3 (o.toList.zipIdx.foldl (fun a (q,j)=>a.setIfInBounds (0+k+j) q) (arrOf st3))):=fun o st3 fo ev=>by
  obtain⟨x1,x2⟩:=fin o st3 fo ev
  rw[x1.f]
  exact h _ x1 ev.p x2
 have a0:∀ i,i<n1-k→kf rk ((arrOf st).extract n1 (n1+m)).toList 0≤kf rk ((arrOf st).extract (0+k) n1).toList i:=fun i hi=>by
  rw[ea,eb,ka i hi,kb 0 (by omega),Nat.add_zero]
  have:=g2 (k+i) (by omega) (by omega)
  omega
 have al:∀ i,i<m→kf rk ((arrOf st).extract n1 (n1+m)).toList i≤kf rk ((arrOf st).extract (0+k) n1).toList (n1-k-1):=fun i hi=>by
  rw[ea,eb,kb i hi,ka _ (by omega),show k+(n1-k-1)=n1-1 by omega]
  have:=g3 i hi
  omega
 by_cases q3:n1-k≤m
 ·rw[if_pos q3]
  refine wpS_bind (Z1 C t2.k t.i.ext t.i.ext (by omega) (by omega) sa sb (a0 0 (by omega)) (fun i hi=>by rw[zb] at hi;rw[za];exact al i hi) fun o st3 fo ev=>?_)
  exact wpS_bind (wpS_modify (wpS_bind (wpS_get (wpS_pure (fin2 o st3 fo ev)))))
 ·rw[if_neg q3]
  refine wpS_bind (Z2 C t2.k t.i.ext t.i.ext (by omega) (by omega) sa sb (fun i hi=>by rw[za] at hi;exact a0 i hi) (by rw[za,zb];exact al (m-1) (by omega)) fun o st3 fo ev=>?_)
  exact wpS_bind (wpS_modify (wpS_bind (wpS_get (wpS_pure (fin2 o st3 fo ev)))))
end
end Sco
namespace Sco
open PySem PyProof.Rows PySem.W
section
variable {prog:Program}{w:World}{A:Around}{E:Value→Shared→Prop}{s:Shared}{it T:List Keyed}{κ:SortKind}{n:Nat}{rk:Value→Int}
theorem YC:∀ z,z≤66→2≤z→z≤2*minRun' z z 0∧minRun' z z 0≤z∧1≤minRun' z z 0:=by decide
theorem Ub (C:Cmp prog w A s it κ rk){st:SortSt}(t:TB it T κ n st) (hp:pendingOf st = #[]) (h2:2≤n) (h66:n≤66){Q:Unit→SortSt→Prop}(h:∀ st',TB it T κ n st'→Sg rk st' 0 n→Q () st'):wpS (model prog w) A E s sortRuns' Q st:=by
 obtain⟨r1,r2,r3⟩:=YC n h66 h2
 rw[sortRuns'_eq]
 refine wpS_bind (wpS_get ?_)
 rw[t.z]
 dsimp only
 refine wpS_bind (wpS_mono (wpS_forRange (I:=fun i c st'=>TB it T κ n st'∧∃ lo,c=(none,lo)∧i≤lo∧((lo=0∧pendingOf st' = #[])∨(1≤lo∧lo≤n∧(lo=n∨minRun' n n 0≤lo)∧Sg rk st' 0 lo∧∃ p1,pendingOf st' = #[(0,lo,p1)])∨(lo=n∧∃ n1 p1 p2,1≤n1∧n1<n∧Sg rk st' 0 n1∧Sg rk st' n1 n∧pendingOf st' = #[(0,n1,p1),(n1,n-n1,p2)])))
  (Q:=fun c st'=>TB it T κ n st'∧∃ lo,c=(none,lo)∧((Sg rk st' 0 n∧∃ p1,pendingOf st' = #[(0,n,p1)])∨∃ n1 p1 p2,1≤n1∧n1<n∧Sg rk st' 0 n1∧Sg rk st' n1 n∧pendingOf st' = #[(0,n1,p1),(n1,n-n1,p2)])) ?_ ?_ ⟨t,0,rfl,Nat.le_refl _,.inl ⟨rfl,hp⟩⟩) ?_)
 ·rintro i c st1 _ hi ⟨t1,lo,rfl,hil,hc⟩
  dsimp only
  by_cases q1:lo≥n
  ·rw[if_pos q1]
   refine wpS_pure ⟨t1,lo,rfl,?_⟩
   rcases hc with⟨l0,_⟩ | ⟨l1,l2,l3,s1,p1,hpd⟩ | ⟨l0,hpd⟩
   ·omega
   ·have:lo=n:=by omega
    subst this
    exact .inl ⟨s1,p1,hpd⟩
   ·exact .inr hpd
  rw[if_neg q1]
  have old:∀ {st2:SortSt},Sg rk st1 0 lo→(∀ i,i<lo→ks rk st2 i=ks rk st1 i)→Sg rk st2 0 lo:=fun s1 l i j h1 h2 h3=>by
   rw[l i (by omega),l j h3]
   exact s1 i j h1 h2 h3
  refine wpS_bind (Vf (p:=pendingOf st1) (f:=ks rk st1) C ⟨t1,rfl,fun _ _=>rfl⟩ (by omega) (by omega) fun fd st0 f1 f2 o0 s0=>?_)
  dsimp only
  by_cases q2:fd<minRun' n n 0
  ·rw[if_pos q2]
   refine wpS_bind (wpS_lift (wpAny_rule ⟨rfl,?_⟩))
   refine wpS_bind (zas C o0 (by omega) (by omega) (by omega) s0 fun st2 o2 s2=>?_)
   simp only[Bool.not_true,Bool.false_eq_true,if_false]
   refine wpS_bind (wpS_get ?_)
   rcases hc with⟨l0,hpd⟩ | ⟨l1,l2,l3,s1,p1,hpd⟩ | ⟨l0,_⟩
   ·subst l0
    rw[o2.p,hpd]
    refine wpS_bind (wpS_modify (wpS_pure ⟨⟨o2.t.z,o2.t.p,o2.t.i,o2.t.k,o2.t.f⟩,_,rfl,by omega,.inr (.inl ⟨by omega,by omega,by omega,by rw[Nat.zero_add] at s2 ⊢;exact s2,0,?_⟩)⟩))
    show(pendingOf st2).push _=_
    rw[o2.p,hpd,Nat.zero_add]
    rfl
   ·have hRe:min (n-lo) (minRun' n n 0)=n-lo:=by omega
    have hpd2:pendingOf st2 = #[(0,lo,p1)]:=o2.p.trans hpd
    rw[hpd2]
    refine wpS_bind (wpS_mono (wpS_forRange (I:=fun _ c st'=>st'=st2∧c=(none,())) (Q:=fun c st'=>st'=st2∧c=(none,())) ?_ (fun _ _ h=>h) ⟨rfl,rfl⟩) ?_)
    ·rintro j c st3 _ hj ⟨rfl,rfl⟩
     refine wpS_bind (wpS_get ?_)
     rw[hpd2]
     exact wpS_pure ⟨rfl,rfl⟩
    ·rintro c st3 ⟨rfl,rfl⟩
     refine wpS_bind (wpS_modify (wpS_bind (wpS_modify (wpS_pure ⟨⟨o2.t.z,o2.t.p,o2.t.i,o2.t.k,o2.t.f⟩,_,rfl,by omega,.inr (.inr ⟨by omega,lo,power' n (2*0+lo) (2*0+lo+lo+min (n-lo) (minRun' n n 0)) n,0,by omega,by omega,old s1 o2.l,by rw[hRe,show lo+(n-lo)=n by omega] at s2;exact s2,?_⟩)⟩))))
     show((pendingOf st3).modify ((pendingOf st3).size-1) _).push _=_
     rw[hpd2,hRe]
     apply Array.toList_inj.mp
     simp[Array.modify]
     rfl
   ·omega
  ·rw[if_neg q2]
   obtain⟨st2,e2⟩:∃ st2,st2=st0:=⟨_,rfl⟩
   rw[← e2] at o0 s0 ⊢
   have o2:=o0
   have s2:=s0
   refine wpS_bind (wpS_get ?_)
   rcases hc with⟨l0,hpd⟩ | ⟨l1,l2,l3,s1,p1,hpd⟩ | ⟨l0,_⟩
   ·subst l0
    rw[o2.p,hpd]
    refine wpS_bind (wpS_modify (wpS_pure ⟨⟨o2.t.z,o2.t.p,o2.t.i,o2.t.k,o2.t.f⟩,_,rfl,by omega,.inr (.inl ⟨by omega,by omega,by omega,by rw[Nat.zero_add] at s2 ⊢;exact s2,0,?_⟩)⟩))
    show(pendingOf st2).push _=_
    rw[o2.p,hpd,Nat.zero_add]
    rfl
   ·have hRe:fd=n-lo:=by omega
    have hpd2:pendingOf st2 = #[(0,lo,p1)]:=o2.p.trans hpd
    rw[hpd2]
    refine wpS_bind (wpS_mono (wpS_forRange (I:=fun _ c st'=>st'=st2∧c=(none,())) (Q:=fun c st'=>st'=st2∧c=(none,())) ?_ (fun _ _ h=>h) ⟨rfl,rfl⟩) ?_)
    ·rintro j c st3 _ hj ⟨rfl,rfl⟩
     refine wpS_bind (wpS_get ?_)
     rw[hpd2]
     exact wpS_pure ⟨rfl,rfl⟩
    ·rintro c st3 ⟨rfl,rfl⟩
     refine wpS_bind (wpS_modify (wpS_bind (wpS_modify (wpS_pure ⟨⟨o2.t.z,o2.t.p,o2.t.i,o2.t.k,o2.t.f⟩,_,rfl,by omega,.inr (.inr ⟨by omega,lo,power' n (2*0+lo) (2*0+lo+lo+fd) n,0,by omega,by omega,old s1 o2.l,by rw[hRe,show lo+(n-lo)=n by omega] at s2;exact s2,?_⟩)⟩))))
     show((pendingOf st3).modify ((pendingOf st3).size-1) _).push _=_
     rw[hpd2,hRe]
     apply Array.toList_inj.mp
     simp[Array.modify]
     rfl
   ·omega
 ·rintro c st1 ⟨t1,lo,rfl,hil,hc⟩
  refine⟨t1,lo,rfl,?_⟩
  rcases hc with⟨l0,_⟩ | ⟨l1,l2,l3,s1,p1,hpd⟩ | ⟨l0,hpd⟩
  ·omega
  ·have:lo=n:=by omega
   subst this
   exact .inl ⟨s1,p1,hpd⟩
  ·exact .inr hpd
 ·rintro c st1 ⟨t1,lo,rfl,hc⟩
  dsimp only
  refine wpS_bind (wpS_mono (wpS_forRange (I:=fun i c st'=>TB it T κ n st'∧c=(none,())∧((Sg rk st' 0 n∧∃ p1,pendingOf st' = #[(0,n,p1)])∨i=0∧∃ n1 p1 p2,1≤n1∧n1<n∧Sg rk st' 0 n1∧Sg rk st' n1 n∧pendingOf st' = #[(0,n1,p1),(n1,n-n1,p2)])) (Q:=fun c st'=>TB it T κ n st'∧c=(none,())∧Sg rk st' 0 n) ?_ ?_ ⟨t1,rfl,hc.imp id fun x=>⟨rfl,x⟩⟩) ?_)
  ·rintro i c st2 _ hi ⟨t2,rfl,hc⟩
   refine wpS_bind (wpS_get ?_)
   rcases hc with⟨sf,p1,hpd⟩ | ⟨i0,n1,p1,p2,h1,h2,s1,s2,hpd⟩
   ·rw[hpd]
    exact wpS_pure ⟨t2,rfl,sf⟩
   ·rw[hpd]
    refine wpS_bind (Z3 C t2 hpd h1 h2 s1 s2 fun st3 t3 hp3 sf=>?_)
    exact wpS_pure ⟨t3,rfl,.inl ⟨sf,_,hp3⟩⟩
  ·rintro c st2 ⟨t2,rfl,hc⟩
   rcases hc with⟨sf,_⟩ | ⟨i0,_⟩
   ·exact⟨t2,rfl,sf⟩
   ·omega
  ·rintro c st2 ⟨t2,rfl,sf⟩
   exact wpS_pure (h st2 t2 sf)
end
def PrV (h:Heap) (v:Value) (p:Int×Int):Prop:=∃ x o t u n,v=.ref x∧h.get? x=some o∧o.cls=.type "tuple" ∧ o.data=.seq #[.int p.1 t,.int p.2 u] n
noncomputable def rkP (p:Int×Int):Int:=p.1*1000+p.2
section
variable {prog:Program}{w:World}{A:Around}{E:Value→Shared→Prop}{s:Shared}
theorem zaU {x y:Value}{p q:Int×Int}(hx:PrV s.heap x p) (hy:PrV s.heap y q) (bp:0≤p.2∧p.2<1000) (bq:0≤q.2∧q.2<1000){Q:Bool→Shared→Prop}(h:Q (decide (rkP p<rkP q)) s):wpAny (model prog w) A (keyLt' (tuples' true) x y) Q E s:=by
 obtain⟨x,o,t,u,n,rfl,ho,_,hd⟩:=hx
 obtain⟨y,o',t',u',n',rfl,ho',_,hd'⟩:=hy
 unfold rkP at h
 refine kat_lt ho hd ho' hd' (kat_cons (wpAny_eqBool_int ?_))
 by_cases e1:p.1=q.1
 ·refine kat_go (fun _=>kat_yes (kat_cons (wpAny_eqBool_int ?_))) fun z=>absurd e1 (by simpa using z)
  by_cases e2:p.2=q.2
  ·refine kat_go (fun _=>kat_yes (kat_nil ?_)) fun z=>absurd e2 (by simpa using z)
   have e:decide (p.1*1000+p.2<q.1*1000+q.2)=false:=decide_eq_false (by omega)
   rw[e] at h
   exact h
  ·refine kat_go (fun z=>absurd (by simpa using z) e2) fun _=>kat_no (kat_one _ _ (lt_int ?_))
   have e:decide (p.1*1000+p.2<q.1*1000+q.2)=decide (p.2<q.2):=decide_eq_decide.mpr (by omega)
   rw[e] at h
   exact h
 ·refine kat_go (fun z=>absurd (by simpa using z) e1) fun _=>kat_no (oneLt_int ?_)
  have e:decide (p.1*1000+p.2<q.1*1000+q.2)=decide (p.1<q.1):=decide_eq_decide.mpr (by omega)
  rw[e] at h
  exact h
theorem Ym:∀ {vs:List Value},(∀ v∈vs,(∃ p,PrV s.heap v p))→∃ fs:List Value,KatTups s.heap vs fs∧fs.length=vs.length∧∀ f∈fs,∃ i t,f=.int i t
 |[],_=>⟨[],.nil,rfl,fun f hf=>by cases hf⟩
 |v::vs,h=>by
  obtain⟨fs,k,hl,hi⟩:=Ym (vs:=vs) fun v hv=>h v (List.mem_cons_of_mem _ hv)
  obtain⟨⟨i,j⟩,x,o,t,u,n,rfl,ho,hc,hd⟩:=h v List.mem_cons_self
  refine⟨.int i t::fs,.cons ho hc hd rfl k,by simp[hl],fun f hf=>?_⟩
  rcases List.mem_cons.mp hf with rfl | hf
  ·exact⟨i,t,rfl⟩
  ·exact hi f hf
theorem Vu {vs:List Value}(h:∀ v∈vs,(∃ p,PrV s.heap v p)) (hne:0<vs.length){Q:SortKind→Shared→Prop}(q:Q (tuples' true) s):wpAny (model prog w) A (keyKind' vs.toArray) Q E s:=by
 obtain⟨fs,k,hl,hi⟩:=Ym h
 refine kat_kind (T:=.type "int") k (by omega) (fun v hv=>?_) rfl q
 obtain⟨i,t,rfl⟩:=hi v hv
 exact Looks.of_pure rfl
theorem Zm {vs:List Value}{p:Keyed}(h:p∈vs.toArray.zip vs.toArray):p.1∈vs∧p.2∈vs:=by
 have h:p∈(vs.toArray.zip vs.toArray).toList:=Array.mem_def.mp h
 rw[Array.toList_zip] at h
 obtain⟨a,b⟩:=p
 exact List.of_mem_zip h
theorem PrV.keeps {h h':Heap}{v:Value}{p:Int×Int}(q:PrV h v p) (k:∀ b o,h.get? b=some o→o.cls=.type "tuple" → h'.get? b=some o):PrV h' v p:=by
 obtain⟨x,o,t,u,n,e,ho,hc,hd⟩:=q
 exact⟨x,o,t,u,n,e,k _ _ ho hc,hc,hd⟩
theorem ZR:∀ vs:List Value,(vs.toArray.zip vs.toArray).toList.map (fun p:Keyed=>p.2)=vs:=fun vs=>by
 rw[Array.toList_zip]
 exact List.map_snd_zip (Nat.le_refl _)
theorem uR {vs:List Value}{p:Keyed}(h:p∈(vs.toArray.zip vs.toArray).toList):p.1=p.2:=by
 rw[Array.toList_zip] at h
 obtain⟨i,hi,e⟩:=List.getElem_of_mem h
 rw[List.getElem_zip] at e
 rw[← e]
theorem Vt {vs:List Value}{val:Value→Int×Int}(h:∀ v∈vs,PrV s.heap v (val v)) (hb:∀ v∈vs,0≤(val v).2∧(val v).2<1000) (h2:2≤vs.length) (h66:vs.length≤66){Q:Unit→SortSt→Prop}
  (q:∀ st':SortSt,failedOf st'=none→((arrOf st').map (·.2)).toList.Perm vs→((arrOf st').map (·.2)).toList.Pairwise (fun x y=>rkP (val x)≤rkP (val y))→Q () st') :
  wpS (model prog w) A E s sortRuns' Q (SortSt.mk' (tuples' true) (vs.toArray.zip vs.toArray) #[] 7 none):=by
 have hz:(vs.toArray.zip vs.toArray).size=vs.length:=by simp
 refine Ub (it:=(vs.toArray.zip vs.toArray).toList) (T:=(vs.toArray.zip vs.toArray).toList) (κ:=tuples' true) (n:=vs.length) (rk:=fun v=>rkP (val v)) (fun x hx y hy Q E hq=>?_) ⟨hz,List.Perm.refl _,fun x hx=>Array.mem_def.mp hx,rfl,rfl⟩ rfl h2 h66 fun st' t sg=>q st' t.f ?_ ?_
 ·have mx:=(Zm (Array.mem_def.mpr hx)).1
  have my:=(Zm (Array.mem_def.mpr hy)).1
  exact zaU (h _ mx) (h _ my) (hb _ mx) (hb _ my) hq
 ·rw[Array.toList_map]
  have:=t.p.map (fun p:Keyed=>p.2)
  rw[ZR] at this
  exact this
 ·rw[Array.toList_map,List.pairwise_map]
  have sa:SA (fun v=>rkP (val v)) (arrOf st').toList:=Sg.sa (by rw[t.z];exact sg)
  refine sa.imp_of_mem fun {x y} hx hy hxy=>?_
  rw[← uR (t.p.mem_iff.mp hx),← uR (t.p.mem_iff.mp hy)]
  exact hxy
theorem xN {a:Addr}{vs:List Value}{n:Nat}{P:PySem.Fin→Shared→Prop}(ho:s.heap.get? a=some (seqObj "list" vs.toArray n)){val:Value→Int×Int}(hp:∀ v∈vs,PrV s.heap v (val v)) (hb:∀ v∈vs,0≤(val v).2∧(val v).2<1000) (h66:vs.length≤66)
  (h:∀ o:Array Value,o.toList.Perm vs→o.toList.Pairwise (fun x y=>rkP (val x)≤rkP (val y))→P (.done (.ret .none)) { s with heap:=sortedHeap s.heap a vs o }):wpAny (model prog w) A (Builtin.«list.sort» ⟨[.ref a],[]⟩) P E s:=by
 have big:66≤sizeLine:=by decide
 have ha:=Heap.lt_size ho
 rw[list_sort_plain]
 refine wpAny_bind (listItems_at ho rfl (wpAny_bind (listUpdate_at ho rfl ?_ (by simp;omega) (Nat.zero_le _))))
 have o1:=get?_update_seq ho (fun _=>(#[]:Array Value))
 refine wpAny_bind (seqEpoch_at o1 rfl (wpAny_bind (wpAny_newTuple (wpAny_bind (wpAny_newList (wpAny_holding ?_) (Nat.zero_le _))) (by show vs.length≤_;omega))))
 generalize hH:Heap.push (Heap.push (s.heap.update a (Obj.mapSeq fun _=>(#[]:Array Value))) (seqObj "tuple" vs.toArray 0)) (seqObj "list" #[] 0)=H6
 have hs:∀ o:Array Value,sortedHeap s.heap a vs o=H6.update a (Obj.mapSeq fun _=>o):=fun o=>by rw[← hH];rfl
 have o6:=Heap.get?_push_of_some (seqObj "list" #[] 0) (Heap.get?_push_of_some (seqObj "tuple" vs.toArray 0) o1)
 rw[hH] at o6
 have hp6:∀ v∈vs,PrV H6 v (val v):=fun v hv=>(hp v hv).keeps fun b o e hc=>by
  have hb:a≠b:=fun z=>by
   rw[← z,ho] at e
   cases e
   have hc:Value.type "list" = .type "tuple" := hc
   injection hc with hc
   exact absurd hc (by decide)
  rw[← hH]
  refine Heap.get?_push_of_some _ (Heap.get?_push_of_some _ ?_)
  rw[Heap.get?_update_other _ _ hb]
  exact e
 have e6:({ s with heap:=Heap.push (Heap.push (s.heap.update a (Obj.mapSeq fun _=>(#[]:Array Value))) (seqObj "tuple" vs.toArray 0)) (seqObj "list" #[] 0) }:Shared)={ s with heap:=H6 }:=by rw[hH]
 refine(show wpAny (model prog w) A _ P E { s with heap:=H6 } from ?_)
 dsimp only
 have hz0:((vs.toArray.zip vs.toArray).map (fun p:Keyed=>p.2)).size=vs.length:=by simp
 by_cases q:vs.toArray.size<2
 ·rw[if_pos q,if_pos q]
  refine wpAny_bind (wpAny_pure ?_)
  rw[StateT.run_pure]
  refine wpAny_bind (wpAny_pure (wpAny_bind (seqEpoch_at o6 rfl (wpAny_bind (listUpdate_at o6 rfl ?_ (Nat.zero_le _) (by show((vs.toArray.zip vs.toArray).map (fun p:Keyed=>p.2)).size≤_;omega))))))
  simp only[bne_self_eq_false,Bool.false_eq_true,if_false]
  refine wpAny_pure ?_
  rw[← hs]
  have e:((vs.toArray.zip vs.toArray).map (fun p:Keyed=>p.2)).toList=vs:=by rw[Array.toList_map];exact ZR vs
  refine h _ (by rw[e]) ?_
  rw[e]
  have q:vs.length<2:=by simpa using q
  match vs,q with
  |[],_=>exact List.Pairwise.nil
  |[x],_=>exact List.pairwise_singleton _ _
 ·rw[if_neg q,if_neg q]
  have q:2≤vs.length:=by simp at q;omega
  refine wpAny_bind (Vu (fun v hv=>⟨_,hp6 v hv⟩) (by omega) ?_)
  refine wpAny_bind (wpAny_mono (Vt (s:={ s with heap:=H6 }) hp6 hb q h66 (Q:=fun _ st'=>failedOf st'=none∧((arrOf st').map (·.2)).toList.Perm vs∧((arrOf st').map (·.2)).toList.Pairwise (fun x y=>rkP (val x)≤rkP (val y))) fun st' a1 a2 a3=>⟨a1,a2,a3⟩) ?_ fun _ _ e=>e)
  rintro⟨⟨⟩,st'⟩ s' ⟨rfl,hf,hz,hm⟩
  have hz':((arrOf st').map (·.2)).size=vs.length:=by rw[← Array.length_toList,hz.length_eq]
  refine wpAny_bind (seqEpoch_at o6 rfl (wpAny_bind (listUpdate_at o6 rfl ?_ (Nat.zero_le _) (by show((arrOf st').map (·.2)).size≤_;omega))))
  rw[hf]
  simp only[bne_self_eq_false,Bool.false_eq_true,if_false]
  refine wpAny_pure ?_
  rw[← hs]
  exact h _ hz hm
theorem vQ {l:Addr}{vs:List Value}{Q:Value→Shared→Prop}(hl:s.heap.IsList l vs.toArray){val:Value→Int×Int}(hp:∀ v∈vs,PrV s.heap v (val v)) (hb:∀ v∈vs,0≤(val v).2∧(val v).2<1000) (h66:vs.length≤66)
  (h:∀ o:Array Value,o.toList.Perm vs→o.toList.Pairwise (fun x y=>rkP (val x)≤rkP (val y))→Q (.ref (s.heap.objs.size+1)) { s with heap:=sortedAll s.heap vs o }):wpAny (model prog w) A (call (.builtin "sorted") [.ref l]) Q E s:=by
 have big:66≤sizeLine:=by decide
 refine Calls.call_function_entry kind_sorted plain_sorted entry_sorted (args_sorted1 _) ?_
 unfold Builtin.«sorted»
 refine wpAny_bind (m:=checkCount "sorted" 1 1 _) (wpAny_pure (wpAny_bind (collect_list hl (wpAny_bind (wpAny_newList ?_ (by show vs.length≤_;omega))) (by omega))))
 have hz:(Heap.update (Heap.push s.heap (seqObj "list" #[] 0)) s.heap.objs.size (Obj.mapSeq fun x=>x++vs.toArray)).objs.size=s.heap.objs.size+1:=(Heap.size_update _ _ _).trans (size_push' _ _)
 have hk:∀ b o,s.heap.get? b=some o→(Heap.push (Heap.update (Heap.push s.heap (seqObj "list" #[] 0)) s.heap.objs.size (Obj.mapSeq fun x=>x++vs.toArray)) (seqObj "list" vs.toArray 0)).get? b=some o:=fun b o e=>by
  refine Heap.get?_push_of_some _ ?_
  rw[Heap.get?_update_other _ _ (Nat.ne_of_gt (Heap.lt_size e))]
  exact Heap.get?_push_of_some _ e
 have ho:=Heap.get?_push_size (Heap.update (Heap.push s.heap (seqObj "list" #[] 0)) s.heap.objs.size (Obj.mapSeq fun x=>x++vs.toArray)) (o:=seqObj "list" vs.toArray 0) rfl
 refine(show wpAny _ _ _ _ _ { s with heap:=Heap.push (Heap.update (Heap.push s.heap (seqObj "list" #[] 0)) s.heap.objs.size (Obj.mapSeq fun x=>x++vs.toArray)) (seqObj "list" vs.toArray 0) } from ?_)
 rw[hz] at ho ⊢
 refine wpAny_bind (wpAny_holding (wpAny_call_entry slot_list_sort ⟨_,ho,rfl⟩ entry_list_sort ?_ (args_list_sort _)))
 refine xN ho (fun v hv=>(hp v hv).keeps fun b o e _=>hk b o e) hb h66 fun o z m=>⟨_,rfl,wpAny_pure ⟨_,rfl,h o z m⟩⟩
end
section
variable {X:Cx}
abbrev PT:=Addr×Int×Int
theorem Yp {α β:Type}{f:α→β}:∀ {l m:List β},l.Perm m→∀ ps:List α,ps.map f=m→∃ qs:List α,qs.Perm ps∧qs.map f=l:=by
 intro l m h
 induction h with
 |nil =>
  intro ps e
  exact⟨ps,List.Perm.refl _,e⟩
 | @cons x l m _ ih =>
  intro ps e
  cases ps with
  |nil=>cases e
  |cons p ps =>
   rw[List.map_cons] at e
   injection e with e1 e2
   obtain⟨qs,h1,h2⟩:=ih ps e2
   exact⟨p::qs,h1.cons p,by rw[List.map_cons,h2,e1]⟩
 |swap x y l =>
  intro ps e
  match ps,e with
  |p::q::ps,e =>
   rw[List.map_cons,List.map_cons] at e
   injection e with e1 e2
   injection e2 with e2 e3
   exact⟨q::p::ps,List.Perm.swap _ _ _,by rw[List.map_cons,List.map_cons,e1,e2,e3]⟩
 |trans _ _ ih1 ih2 =>
  intro ps e
  obtain⟨qs,h1,h2⟩:=ih2 ps e
  obtain⟨rs,h3,h4⟩:=ih1 qs h2
  exact⟨rs,h3.trans h1,h4⟩
noncomputable def vlH (H:Hp):Value→Int×Int
 |.ref a=>match H a with
  |some (.tup [.int i,.int j])=>(i,j)
  |_=>(0,0)
 |_=>(0,0)
def PsAt (H:Hp) (ps:List PT):Prop:=∀ p∈ps,H p.1=some (.tup [.int p.2.1,.int p.2.2])∧0≤p.2.2∧p.2.2<1000
theorem PsAt.vl {H:Hp}{ps:List PT}(h:PsAt H ps){p:PT}(hp:p∈ps):vlH H (.ref p.1)=p.2:=by
 show(match H p.1 with
  |some (.tup [.int i,.int j])=>(i,j)
  |_=>(0,0))=p.2
 rw[(h p hp).1]
theorem PsAt.prv {pins:List (Addr×Obj)}{σ:St}{H:Hp}{s:Shared}{ps:List PT}(I:Inv X pins σ H s) (h:PsAt H ps):∀ v∈ps.map (fun p=>Value.ref p.1),PrV s.heap v (vlH H v):=fun v hv=>by
 obtain⟨p,hp,rfl⟩:=List.mem_map.mp hv
 rw[h.vl hp]
 obtain⟨_,vs,rr,ob,e1,e2,n,e3⟩:=(show ObjOk X.prog X.w H s.heap p.1 (.tup [.int p.2.1,.int p.2.2]) from I.hok p.1 _ (h p hp).1)
 cases rr with
 |cons r1 rr =>
  cases rr with
  |cons r2 rr =>
   cases rr
   obtain⟨t1,rfl⟩:=r1
   obtain⟨t2,rfl⟩:=r2
   exact⟨p.1,ob,t1,t2,n,rfl,e1,e2,e3⟩
theorem wo:∀ {ps:List PT}{us:List Value},Vals (ps.map fun p=>V.ref p.1) us→us=ps.map fun p=>Value.ref p.1
 |[],_,h=>by cases h;rfl
 |p::ps,_,h=>by
  cases h with
  |cons r t =>
   cases r
   rw[List.map_cons,wo t]
theorem xz:∀ (ps:List PT),Vals (ps.map fun p=>V.ref p.1) (ps.map fun p=>Value.ref p.1)
 |[]=>.nil
 |p::ps=>.cons rfl (xz ps)
def UA (K:PySem.W.Frag):List V→Hp→VK→Prop:=fun xs H Q=>∃ (a:Addr) (ps:List PT),xs=[V.ref a]∧SqL K H a (ps.map fun p=>V.ref p.1)∧ps.length≤66∧PsAt H ps ∧
 ∀ (l:Addr) (qs:List PT),H l=none→qs.Perm ps→qs.Pairwise (fun x y=>rkP x.2≤rkP y.2)→Q (.ref l) (upd H l (.lst (qs.map fun p=>V.ref p.1)))
theorem wv {H:Hp}{ps:List PT}(h:PsAt H ps){o:Array Value}(po:o.toList.Perm (ps.map fun p=>Value.ref p.1)) (so:o.toList.Pairwise (fun x y=>rkP (vlH H x)≤rkP (vlH H y))):∃ qs:List PT,qs.Perm ps∧qs.Pairwise (fun x y=>rkP x.2≤rkP y.2)∧o.toList=qs.map fun p=>Value.ref p.1:=by
 obtain⟨qs,h1,h2⟩:=Yp po ps rfl
 refine⟨qs,h1,?_,h2.symm⟩
 rw[← h2,List.pairwise_map] at so
 refine so.imp_of_mem fun {x y} hx hy hxy=>?_
 rw[h.vl (h1.mem_iff.mp hx),h.vl (h1.mem_iff.mp hy)] at hxy
 exact hxy
theorem call_sortX:xr X (.builtin "sorted") (UA X.K):=by
 intro pins s σ H xs us Q I r h
 obtain⟨a,ps,rfl,ha,h66,hy,q⟩:=h
 obtain⟨u,rfl,ru⟩:=r.one
 cases ru
 obtain⟨its,rv,p,hz⟩:=I.list ha
 have hl:=wo rv
 subst hl
 refine vQ p.isList (hy.prv I) (fun v hv=>?_) (by rw[List.length_map];exact h66) fun o z m=>?_
 ·obtain⟨p,hp,rfl⟩:=List.mem_map.mp hv
  rw[hy.vl hp]
  exact(hy p hp).2
 ·obtain⟨qs,h1,h2,h3⟩:=wv hy z m
  have hn:H (s.heap.objs.size+1)=none:=I.hok.fresh (Nat.le_succ _)
  obtain⟨c,hc⟩:=sortedAll_at s.heap (ps.map fun p=>Value.ref p.1) o
  refine⟨.ref _,_,I.laid (a:=s.heap.objs.size+1) (o:=.lst (qs.map fun p=>V.ref p.1)) (t':=s.toks) (fun _ _ e=>sortedAll_old e) (Nat.le_succ _) ⟨by rw[List.length_map,h1.length_eq];rw[List.length_map] at hz;exact hz,o.toList,c,by rw[h3];exact xz qs,hc⟩,rfl,q _ qs hn h1 h2⟩
end
end Sco
end L2
namespace L2
open PySem PySem.Spec PyProof.Rows
def vD (h:Heap) (d:Addr) (es:Array DictEntry) (ep:Nat):Prop:=∃ o,h.get? d=some o∧o.ExactDict∧o.data=.dict es ep
def VIt (h:Heap) (it d:Addr) (i n ep:Nat):Prop:=h.get? it=some { cls:=.type "dict_valueiterator",data:=.fields #[.ref d,.int i 0,.int n 0,.int ep 0] }
section
variable {prog:Program}{w:World}{A:Around}{E:Value→Shared→Prop}{s:Shared}
theorem Va {it d:Addr}{i ep:Nat}{es:Array DictEntry}{e:DictEntry}{Q:PySem.Fin→Shared→Prop}(hi:VIt s.heap it d i es.size ep) (hd:vD s.heap d es ep) (he:es[i]?=some e)
  (h:∀ h',VIt h' it d (i+1) es.size ep→Heap.SameBut it s.heap h'→Q (.done (.ret e.val)) { s with heap:=h' }):wpAny (model prog w) A (Builtin.«dict_valueiterator.__next__» ⟨[.ref it],[]⟩) Q E s:=by
 obtain⟨⟨c,dct,dat,sl⟩,ho,ex,hdat⟩:=hd
 cases hdat
 have hT:s.TypeIs (.ref it) "dict_valueiterator" := ⟨_,hi,rfl⟩
 refine wpAny_bind (m:=Builtin.Dict_items.slot0 "__next__" _) (wpAny_pure ?_)
 refine wpAny_bind ?_
 refine wpAny_bind ?_
 have z1:((es.size:Int) != (es.size:Int))=false:=by simp
 have z2:((ep:Int) != (ep:Int))=false:=by simp
 repeat (any_goals (first | assumption | (simp only[z1,z2,Bool.false_eq_true,if_false]) | wp_step))
 have z3:(if (i:Int)<0 then none else es[((i:Int)).toNat]?)=some e:=by
  rw[if_neg (by omega)]
  exact he
 rw[z3]
 refine wpAny_bind ?_
 refine wpAny_bind (m:=typeNameOfWhole (.ref it)) ?_
 repeat (any_goals (first | assumption | wp_step))
 refine h _ ((Heap.get?_update_self _ hi (by kernel_rfl)).trans (congrArg some ?_)) ⟨Heap.size_update _ _ _,fun b hb=>Heap.get?_update_ne _ _ _ _ hb⟩
 kernel_rfl
theorem V7 {it d:Addr}{ep:Nat}{es:Array DictEntry}{Q:PySem.Fin→Shared→Prop}(hh:A.handled=none) (hi:VIt s.heap it d es.size es.size ep) (hd:vD s.heap d es ep)
  (h:∀ h' e,Heap.ExtBut it s.heap h'→(∃ o,h'.get? e=some o∧o.cls=.type "StopIteration")→E (.ref e) { s with heap:=h' }):wpAny (model prog w) A (Builtin.«dict_valueiterator.__next__» ⟨[.ref it],[]⟩) Q E s:=by
 obtain⟨⟨c,dct,dat,sl⟩,ho,ex,hdat⟩:=hd
 cases hdat
 have hT:s.TypeIs (.ref it) "dict_valueiterator" := ⟨_,hi,rfl⟩
 refine wpAny_bind (m:=Builtin.Dict_items.slot0 "__next__" _) (wpAny_pure ?_)
 refine wpAny_bind ?_
 refine wpAny_bind ?_
 have z1:((es.size:Int) != (es.size:Int))=false:=by simp
 have z2:((ep:Int) != (ep:Int))=false:=by simp
 repeat (any_goals (first | assumption | (simp only[z1,z2,Bool.false_eq_true,if_false]) | wp_step))
 have z3:(if (es.size:Int)<0 then none else es[((es.size:Int)).toNat]?)=none:=by
  rw[if_neg (by omega)]
  show es[es.size]?=none
  simp
 rw[z3]
 refine wpAny_bind ?_
 refine wpAny_bind (m:=typeNameOfWhole (.ref it)) ?_
 repeat (any_goals (first | assumption | wp_step))
 refine wpAny_raiseNew_none hh ?_
 refine h _ _ (fun b o hb e=>?_) ⟨_,Heap.get?_push_size _ rfl,rfl⟩
 exact Heap.get?_push_of_some _ (Heap.get?_push_of_some _ ((Heap.get?_update_ne _ _ _ _ hb).trans e))
theorem ZW {it d:Addr}{i ep:Nat}{es:Array DictEntry}{e:DictEntry}{Q:Option Value→Shared→Prop}(hi:VIt s.heap it d i es.size ep) (hd:vD s.heap d es ep) (he:es[i]?=some e)
  (h:∀ h',VIt h' it d (i+1) es.size ep→Heap.SameBut it s.heap h'→Q (some e.val) { s with heap:=h' }):wpAny (model prog w) A (pyNext (.ref it)) Q E s:=by
 have hT:s.TypeIs (.ref it) "dict_valueiterator" := ⟨_,hi,rfl⟩
 unfold pyNext
 exact wpAny_bind (wpAny_attempt (wpAny_callSpecial?_slot (name:=Str.ofString "__next__") hT F.slot_dict_valueiterator_next (wpAny_call_entry F.slot_dict_valueiterator_next hT F.entry_dict_valueiterator_next (Va hi hd he fun h' a1 a2=>⟨_,rfl,wpAny_pure (h h' a1 a2)⟩) (F.args_dict_valueiterator_next_1 _))))
theorem Xp {it d:Addr}{ep:Nat}{es:Array DictEntry}{Q:Option Value→Shared→Prop}(hh:A.handled=none) (hi:VIt s.heap it d es.size es.size ep) (hd:vD s.heap d es ep)
  (h:∀ h',Heap.ExtBut it s.heap h'→Q none { s with heap:=h' }):wpAny (model prog w) A (pyNext (.ref it)) Q E s:=by
 have hT:s.TypeIs (.ref it) "dict_valueiterator" := ⟨_,hi,rfl⟩
 unfold pyNext
 refine wpAny_bind (wpAny_attempt (wpAny_callSpecial?_slot (name:=Str.ofString "__next__") hT F.slot_dict_valueiterator_next (wpAny_call_entry F.slot_dict_valueiterator_next hT F.entry_dict_valueiterator_next (V7 hh hi hd fun h' e hk he=>?_) (F.args_dict_valueiterator_next_1 _))))
 obtain⟨o,ho,hc⟩:=he
 exact wpAny_bind (wpAny_isInstance (T := "StopIteration") (b:=true) ⟨o,ho,hc⟩ isSubtype_stop (wpAny_pure (h _ hk)))
theorem Xo (hh:A.handled=none) (it d:Addr) (es:Array DictEntry) (ep:Nat) (hne:it≠d):Walks prog w A it [it,d] [it] es.size (fun i v=>∃ e,es[i]?=some e∧v=e.val) (fun i h=>VIt h it d i es.size ep∧vD h d es ep) where
 sub:=fun b hb=>by simp at hb;simp[hb]
 frame:=fun i h h' ⟨a1,o,ho,r⟩ k=>⟨k it (by simp) _ a1,o,k d (by simp) _ ho,r⟩
 item:=fun i s Q E hi ⟨a1,hd⟩ q=>by
  have hd':=hd
  obtain⟨o,ho,r⟩:=hd
  refine ZW a1 hd' (e:=es[i]) (by simp[hi]) fun h' b1 sb=>?_
  exact q _ h' s.toks ⟨es[i],by simp[hi],rfl⟩ ⟨b1,o,(sb.2 d hne.symm).trans ho,r⟩ fun b o hb e=>(sb.2 b (by simpa using hb)).trans e
 done:=fun s Q E ⟨a1,hd⟩ q=>Xp hh a1 hd fun h' k=>q h' s.toks fun b o hb e=>k b o (by simpa using hb) e
 self:=fun i s Q E ⟨a1,_⟩ q=>wpAny_pyIter_valiter (it:=it) (d:=d) (i:=i) (n:=es.size) (ep:=ep) ⟨_,a1,rfl,rfl⟩ q
theorem Vb {r d:Addr}{ep:Nat}{es:Array DictEntry}{Q:Value→Shared→Prop}(hv:s.heap.IsValuesView r d) (hd:vD s.heap d es ep)
  (q:Q (.ref s.heap.objs.size) { s with heap:=s.heap.push { cls:=.type "dict_valueiterator",data:=.fields #[.ref d,.int 0 0,.int es.size 0,.int ep 0] } }):wpAny (model prog w) A (pyIter (.ref r)) Q E s:=by
 obtain⟨⟨c,dct,dat,sl⟩,ho,ex,hdat⟩:=hd
 cases hdat
 obtain⟨⟨cv,dv,av,sv⟩,h1,h2,h3⟩:=hv
 cases h3
 have hT:s.TypeIs (.ref r) "dict_values" := ⟨_,h1,h2⟩
 refine wpAny_pyIter_slot hT F.slot_dict_values_iter (wpAny_call_entry F.slot_dict_values_iter hT F.entry_dict_values_iter ?_ (F.args_dict_values_iter_1 _))
 unfold Builtin.«dict_values.__iter__»
 refine wpAny_bind (m:=Builtin.Dict_items.slot0 "__iter__" _) (wpAny_pure ?_)
 repeat (any_goals (first | assumption | wp_step))
 refine⟨_,rfl, "dict_valueiterator",_,⟨_,Heap.get?_push_size _ rfl,rfl⟩,F.slot_dict_valueiterator_next.lookup,?_⟩
 exact q
theorem V6 {r d:Addr}(es:Array DictEntry) (ep:Nat):PySem.W.KdlSrc prog w "dict_values" r d es.size (fun i v=>∃ e,es[i]?=some e∧v=e.val) (fun h=>h.IsValuesView r d∧vD h d es ep) where
 type:=fun s ⟨⟨o,h1,h2,_⟩,_⟩=>⟨o,h1,h2⟩
 there:=fun h ⟨⟨o,h1,_⟩,o2,h2,_⟩=>⟨Heap.lt_size h1,Heap.lt_size h2⟩
 keep:=fun h h' ⟨⟨o,h1,h2⟩,o2,h3,h4⟩ k=>⟨⟨o,k r (.inl rfl) _ h1,h2⟩,o2,k d (.inr rfl) _ h3,h4⟩
 notList:=by decide
 notTuple:=by decide
 hint:=fun A E s Q ⟨⟨o,h1,h2,_⟩,_⟩ q=>PySem.W.kdl_hint_values ⟨o,h1,h2⟩ q
 iter:=fun A s hh ⟨hv,hd⟩=>by
  have hd':=hd
  obtain⟨o,ho,hr⟩:=hd
  refine⟨_,_,fun E Q q=>Vb hv hd' q,Xo hh s.heap.objs.size d es ep (Nat.ne_of_gt (Heap.lt_size ho)),Heap.get?_push_size _ rfl,o,Heap.get?_push_of_some _ ho,hr⟩
theorem W6 {d:Addr}{Q:PySem.Fin→Shared→Prop}(hT:s.TypeIs (.ref d) "dict") (hd:(d == sysModules)=false)
  (q:Q (.done (.ret (.ref s.heap.objs.size))) { s with heap:=s.heap.push { cls:=.type "dict_values",data:=.fields #[.ref d] } }):wpAny (model prog w) A (Builtin.«dict.values» ⟨[.ref d],[]⟩) Q E s:=by
 refine wpAny_bind (m:=Builtin.Dict.noArgs "values" _) ?_
 unfold Builtin.Dict.noArgs
 refine wpAny_bind (wpAny_notOrdered_dict hT ?_)
 show wpAny _ _ (pure d) _ _ _
 refine wpAny_pure ?_
 have e:Builtin.Dict.showsAll d=pure ():=by
  unfold Builtin.Dict.showsAll
  rw[if_neg (by rw[hd];simp)]
 rw[e]
 repeat (any_goals (first | assumption | wp_step))
open Sco PySem.W in
theorem Yg {r d:Addr}{es:Array DictEntry}{ep:Nat}{Q:Value→Shared→Prop}(hh:A.handled=none) (hv:s.heap.IsValuesView r d) (hd:vD s.heap d es ep){val:Value→Int×Int}
  (hp:∀ v∈es.toList.map (·.val),PrV s.heap v (val v)) (hb:∀ v∈es.toList.map (·.val),0≤(val v).2∧(val v).2<1000) (h66:es.size≤66)
  (h:∀ (D:Addr) (h':Heap) (tk:Nat) (o:Array Value),(∀ b u,s.heap.get? b=some u→h'.get? b=some u)→s.heap.get? D=none→o.toList.Perm (es.toList.map (·.val))→o.toList.Pairwise (fun x y=>rkP (val x)≤rkP (val y))→(∃ c,h'.get? D=some (seqObj "list" o c))→Q (.ref D) { s with heap:=h',toks:=tk }) :
  wpAny (model prog w) A (call (.builtin "sorted") [.ref r]) Q E s:=by
 have big:66≤sizeLine:=by decide
 refine Calls.call_function_entry kind_sorted plain_sorted entry_sorted (args_sorted1 _) ?_
 unfold Builtin.«sorted»
 refine wpAny_bind (m:=checkCount "sorted" 1 1 _) (wpAny_pure ?_)
 refine wpAny_bind (PySem.W.kdu_collect (A:=A.in1) (V6 es ep) hh ⟨hv,hd⟩ (by omega) fun h' tk acc hk' hacc=>?_)
 have ev:acc.toList=es.toList.map (·.val):=by
  apply List.ext_getElem?
  intro i
  by_cases hi:i<es.size
  ·have hi':i<acc.size:=by rw[hacc.1];exact hi
   obtain⟨e,e1,e2⟩:=hacc.2 i acc[i] (by simp[hi'])
   rw[List.getElem?_map,Array.getElem?_toList,Array.getElem?_toList,e1,Array.getElem?_eq_getElem hi',e2]
   rfl
  ·rw[List.getElem?_eq_none (by rw[Array.length_toList,hacc.1];omega),List.getElem?_eq_none (by rw[List.length_map,Array.length_toList];omega)]
 have hl:acc.toList.length=es.size:=by rw[Array.length_toList];exact hacc.1
 refine wpAny_bind (wpAny_newList ?_ (by omega))
 have hoL:(h'.push (seqObj "list" acc.toList.toArray 0)).get? h'.objs.size=some (seqObj "list" acc.toList.toArray 0):=Heap.get?_push_size _ rfl
 refine(show wpAny _ _ _ _ _ { s with heap:=h'.push (seqObj "list" acc.toList.toArray 0),toks:=tk } from ?_)
 refine wpAny_bind (wpAny_holding (wpAny_call_entry slot_list_sort ⟨_,hoL,rfl⟩ entry_list_sort ?_ (args_list_sort _)))
 refine xN (val:=val) hoL (fun v hv=>?_) (fun v hv=>hb v (by rw[← ev];exact hv)) (by omega) fun o z m=>⟨_,rfl,?_⟩
 ·exact(hp v (by rw[← ev];exact hv)).keeps fun b o e _=>Heap.get?_push_of_some _ (hk' b o e)
 rw[ev] at z
 refine wpAny_pure ⟨_,rfl,h h'.objs.size _ tk o (fun b o e=>?_) ?_ z m (sortedHeap_at hoL)⟩
 ·have e1:=hk' b o e
  have lt:=Heap.lt_size e1
  rw[sortedHeap_old (Nat.ne_of_lt lt) (by rw[size_push'];exact Nat.lt_succ_of_lt lt)]
  exact Heap.get?_push_of_some _ e1
 ·cases z:s.heap.get? h'.objs.size with
  |none=>rfl
  |some o=>exact absurd (Heap.lt_size (hk' _ _ z)) (Nat.lt_irrefl _)
end
section
variable {X:Cx}
open Sco in
def Vg (td:TE):TE:=fun σ H Q=>td σ H fun x H1=>∃ (d:Addr) (kvs:List (List Key×V)) (ps:List Sco.PT),x=.ref d∧H1 d=some (.dT kvs)∧kvs.map (·.2)=ps.map (fun p=>V.ref p.1)∧ps.length≤66∧PsAt H1 ps ∧
 ∀ (l:Addr) (qs:List Sco.PT),H1 l=none→qs.Perm ps→qs.Pairwise (fun x y=>rkP x.2≤rkP y.2)→Q (.ref l) (upd H1 l (.lst (qs.map fun p=>V.ref p.1)))
theorem KT.vals {H:Hp}:∀ {kvs:List (List Key×V)}{xs:List (List Key×Addr×Value)},KT H kvs xs→Vals (kvs.map (·.2)) (xs.map (·.2.2))
 |_,_,.nil=>.nil
 |_,_,.cons h t=>.cons h.2.2 (KT.vals t)
open Sco in
theorem um {o:Expr}{td:TE}{apos cpos p pos:Pos}(hc:X.calm=true) (hgl:Gl X "sorted") (hm:X.mg "sorted" = none) (hv:bootBuiltins "sorted" = some (.builtin "sorted")) (ho:Bx (PE X o td)) (hbase:attributeBase o "values" X.env (eval o X.env)=eval o X.env:=by rfl) (hline:(apos.endLine == cpos.line)=true:=by rfl) (hs:starEach [.Call (.Attribute o "values" apos) [] [] cpos] X.env=[(false,eval (.Call (.Attribute o "values" apos) [] [] cpos) X.env)]:=by rfl):Bx (PE X (.Call (.Name "sorted" p) [.Call (.Attribute o "values" apos) [] [] cpos] [] pos) (Vg td)):=by
 have ho:=ho.of
 refine⟨?_⟩
 intro pins s σ H Q I h
 refine wpAny_Call_Name_kw (ld_blt I hgl hm hv ?_ (by decide) (by decide))
 refine Calls.callWith_builtin rfl (Calls.evalArgs_plain ?_)
 show wpAny _ _ (spliced ((false,eval (.Call (.Attribute o "values" apos) [] [] cpos) X.env)::backTo pos [])) _ _ s
 refine Calls.spliced_cons (wpAny_Call_method0_late hbase hline (thn (ho pins s σ H _ I h) fun v s1 hq0=>?_))
 obtain⟨x,H1,I1,rx,d,kvs,ps,ex,e,ek,h66,hps,q⟩:=hq0
 subst ex
 obtain rfl:v=Value.ref d:=rx
 obtain⟨t1,t2,_⟩:=va I1 (.inr ⟨_,.inl e⟩)
 obtain⟨z,hd,xs,rel,dd⟩:=uJ I1.hok e
 refine⟨"dict", "dict.values",PySem.F.plainAttrs_dict,PySem.F.slot_dict_values,PySem.F.type_dict_values,t1,t2,Calls.callWith_builtin rfl (PySem.evalArgs_none ?_)⟩
 have hT:=dd.typeIs
 obtain⟨od,es,ep,q1,q2,q3,q4,q5,q6⟩:=dd
 refine wpAny_call_entry PySem.F.slot_dict_values hT PySem.F.entry_dict_values ?_ (PySem.F.args_dict_values_1 _)
 refine W6 hT hd ?_
 refine⟨_,rfl,Calls.spliced_nil ?_⟩
 have I2:=I1.kept (t':=s1.toks) (h':=s1.heap.push { cls:=.type "dict_values",data:=.fields #[.ref d] }) fun b u q=>Heap.get?_push_of_some _ q
 have rv:=rel.vals
 rw[ek] at rv
 have er:=wo rv
 have ev:es.toList.map (·.val)=ps.map (fun p=>Value.ref p.1):=by
  rw[q4,← er,List.map_map]
  rfl
 refine Yg (val:=vlH H1) (s:={ s1 with heap:=s1.heap.push { cls:=.type "dict_values",data:=.fields #[.ref d] } }) (I1.ok.hd hc) ⟨_,Heap.get?_push_size _ rfl,rfl,rfl⟩ ⟨od,Heap.get?_push_of_some _ q1,q2,q3⟩ ?_ ?_ ?_ fun D h' tk o k1 k2 z m hD=>?_
 ·rw[ev]
  exact hps.prv I2
 ·rw[ev]
  intro v hv
  obtain⟨p,hp,rfl⟩:=List.mem_map.mp hv
  rw[hps.vl hp]
  exact(hps p hp).2
 ·have:=congrArg List.length ev
  rw[List.length_map,List.length_map,Array.length_toList] at this
  omega
 ·rw[ev] at z
  obtain⟨qs,h1,h2,h3⟩:=wv hps z m
  obtain⟨c,hD⟩:=hD
  exact⟨.ref D,_,Srt.laidF (o:=.lst (qs.map fun p=>V.ref p.1)) I2 k1 k2 ⟨by rw[List.length_map,h1.length_eq];exact Nat.le_trans h66 (by decide),o.toList,c,by rw[h3];exact xz qs,by rw[Array.toArray_toList];exact hD⟩,rfl,q D qs (I2.hok.untr k2) h1 h2⟩
theorem uB:OpR X (compareOp .IsNot) (fun x y H Q=>∃ b,x=.bl b∧y=.bl true∧Q (.bl (!b)) H):=by
 intro pins s σ H x y v u Q I rx ry h
 obtain⟨b,rfl,rfl,q⟩:=h
 cases rx
 cases ry
 have e:compareOp .IsNot (.bool b) (.bool true)=pure (.bool (!b)):=by cases b<;>rfl
 rw[e]
 exact wpAny_pure ⟨.bl (!b),H,I,rfl,q⟩
end
def KIt (h:Heap) (it d:Addr) (i n ep:Nat):Prop:=h.get? it=some { cls:=.type "dict_keyiterator",data:=.fields #[.ref d,.int i 0,.int n 0,.int ep 0] }
section
variable {prog:Program}{w:World}{A:Around}{E:Value→Shared→Prop}{s:Shared}
theorem Vc {it d:Addr}{i ep:Nat}{es:Array DictEntry}{e:DictEntry}{Q:PySem.Fin→Shared→Prop}(hi:KIt s.heap it d i es.size ep) (hd:vD s.heap d es ep) (he:es[i]?=some e)
  (h:∀ h',KIt h' it d (i+1) es.size ep→Heap.SameBut it s.heap h'→Q (.done (.ret e.key)) { s with heap:=h' }):wpAny (model prog w) A (Builtin.«dict_keyiterator.__next__» ⟨[.ref it],[]⟩) Q E s:=by
 obtain⟨⟨c,dct,dat,sl⟩,ho,ex,hdat⟩:=hd
 cases hdat
 have hT:s.TypeIs (.ref it) "dict_keyiterator" := ⟨_,hi,rfl⟩
 refine wpAny_bind (m:=Builtin.Dict_items.slot0 "__next__" _) (wpAny_pure ?_)
 refine wpAny_bind ?_
 refine wpAny_bind ?_
 have z1:((es.size:Int) != (es.size:Int))=false:=by simp
 have z2:((ep:Int) != (ep:Int))=false:=by simp
 repeat (any_goals (first | assumption | (simp only[z1,z2,Bool.false_eq_true,if_false]) | wp_step))
 have z3:(if (i:Int)<0 then none else es[((i:Int)).toNat]?)=some e:=by
  rw[if_neg (by omega)]
  exact he
 rw[z3]
 refine wpAny_bind ?_
 refine wpAny_bind (m:=typeNameOfWhole (.ref it)) ?_
 repeat (any_goals (first | assumption | wp_step))
 refine h _ ((Heap.get?_update_self _ hi (by kernel_rfl)).trans (congrArg some ?_)) ⟨Heap.size_update _ _ _,fun b hb=>Heap.get?_update_ne _ _ _ _ hb⟩
 kernel_rfl
theorem V8 {it d:Addr}{ep:Nat}{es:Array DictEntry}{Q:PySem.Fin→Shared→Prop}(hh:A.handled=none){i:Nat}(hi:KIt s.heap it d i es.size ep) (hle:es.size≤i) (hd:vD s.heap d es ep)
  (h:∀ h' e,Heap.ExtBut it s.heap h'→(∃ o,h'.get? e=some o∧o.cls=.type "StopIteration")→E (.ref e) { s with heap:=h' }):wpAny (model prog w) A (Builtin.«dict_keyiterator.__next__» ⟨[.ref it],[]⟩) Q E s:=by
 obtain⟨⟨c,dct,dat,sl⟩,ho,ex,hdat⟩:=hd
 cases hdat
 have hT:s.TypeIs (.ref it) "dict_keyiterator" := ⟨_,hi,rfl⟩
 refine wpAny_bind (m:=Builtin.Dict_items.slot0 "__next__" _) (wpAny_pure ?_)
 refine wpAny_bind ?_
 refine wpAny_bind ?_
 have z1:((es.size:Int) != (es.size:Int))=false:=by simp
 have z2:((ep:Int) != (ep:Int))=false:=by simp
 repeat (any_goals (first | assumption | (simp only[z1,z2,Bool.false_eq_true,if_false]) | wp_step))
 have z3:(if (i:Int)<0 then none else es[((i:Int)).toNat]?)=none:=by
  rw[if_neg (by omega)]
  show es[i]?=none
  simp[hle]
 rw[z3]
 refine wpAny_bind ?_
 refine wpAny_bind (m:=typeNameOfWhole (.ref it)) ?_
 repeat (any_goals (first | assumption | wp_step))
 refine wpAny_raiseNew_none hh ?_
 refine h _ _ (fun b o hb e=>?_) ⟨_,Heap.get?_push_size _ rfl,rfl⟩
 exact Heap.get?_push_of_some _ (Heap.get?_push_of_some _ ((Heap.get?_update_ne _ _ _ _ hb).trans e))
theorem vJ {it d:Addr}{i ep:Nat}{es:Array DictEntry}{e:DictEntry}{Q:Option Value→Shared→Prop}(hi:KIt s.heap it d i es.size ep) (hd:vD s.heap d es ep) (he:es[i]?=some e)
  (h:∀ h',KIt h' it d (i+1) es.size ep→Heap.SameBut it s.heap h'→Q (some e.key) { s with heap:=h' }):wpAny (model prog w) A (pyNext (.ref it)) Q E s:=by
 have hT:s.TypeIs (.ref it) "dict_keyiterator" := ⟨_,hi,rfl⟩
 unfold pyNext
 exact wpAny_bind (wpAny_attempt (wpAny_callSpecial?_slot (name:=Str.ofString "__next__") hT F.slot_dict_keyiterator_next (wpAny_call_entry F.slot_dict_keyiterator_next hT F.entry_dict_keyiterator_next (Vc hi hd he fun h' a1 a2=>⟨_,rfl,wpAny_pure (h h' a1 a2)⟩) (F.args_dict_keyiterator_next_1 _))))
theorem uW {it d:Addr}{ep:Nat}{es:Array DictEntry}{Q:Option Value→Shared→Prop}(hh:A.handled=none){i:Nat}(hi:KIt s.heap it d i es.size ep) (hle:es.size≤i) (hd:vD s.heap d es ep)
  (h:∀ h',Heap.ExtBut it s.heap h'→Q none { s with heap:=h' }):wpAny (model prog w) A (pyNext (.ref it)) Q E s:=by
 have hT:s.TypeIs (.ref it) "dict_keyiterator" := ⟨_,hi,rfl⟩
 unfold pyNext
 refine wpAny_bind (wpAny_attempt (wpAny_callSpecial?_slot (name:=Str.ofString "__next__") hT F.slot_dict_keyiterator_next (wpAny_call_entry F.slot_dict_keyiterator_next hT F.entry_dict_keyiterator_next (V8 hh hi hle hd fun h' e hk he=>?_) (F.args_dict_keyiterator_next_1 _))))
 obtain⟨o,ho,hc⟩:=he
 exact wpAny_bind (wpAny_isInstance (T := "StopIteration") (b:=true) ⟨o,ho,hc⟩ isSubtype_stop (wpAny_pure (h _ hk)))
theorem uq {d:Addr}{ep:Nat}{es:Array DictEntry}{Q:Value→Shared→Prop}(hd:vD s.heap d es ep) (hm:(d == sysModules)=false)
  (q:Q (.ref s.heap.objs.size) { s with heap:=s.heap.push { cls:=.type "dict_keyiterator",data:=.fields #[.ref d,.int 0 0,.int es.size 0,.int ep 0] } }):wpAny (model prog w) A (pyIter (.ref d)) Q E s:=by
 obtain⟨⟨c,dct,dat,sl⟩,ho,ex,hdat⟩:=hd
 cases hdat
 have hT:s.TypeIs (.ref d) "dict" := ⟨_,ho,ex.1⟩
 refine wpAny_pyIter_slot hT F.slot_dict_iter (wpAny_call_entry F.slot_dict_iter hT F.entry_dict_iter ?_ (F.args_dict_iter_1 _))
 unfold Builtin.«dict.__iter__»
 refine wpAny_bind ?_
 unfold Builtin.Dict.dictSlotNone
 refine wpAny_bind (wpAny_notOrdered_dict hT ?_)
 show wpAny _ _ (pure (Value.ref d)) _ _ _
 refine wpAny_pure ?_
 have e:Builtin.Dict.showsAll d=pure ():=by
  unfold Builtin.Dict.showsAll
  rw[if_neg (by rw[hm];simp)]
 refine wpAny_bind (m:=Builtin.Dict.addrOf (.ref d)) (wpAny_pure ?_)
 rw[e]
 repeat (any_goals (first | assumption | wp_step))
 refine⟨_,rfl, "dict_keyiterator",_,⟨_,Heap.get?_push_size _ rfl,rfl⟩,F.slot_dict_keyiterator_next.lookup,?_⟩
 exact q
end
section
variable {X:Cx}{pins:List (Addr×Obj)}{σ:St}{H G:Hp}{s:Shared}{d:Addr}{od:Obj}{kvs:List (List Key×V)}
theorem Inv.frozT (I:Inv X pins σ H s) (e:H d=some (.dT kvs)) (q0:s.heap.get? d=some od):Inv X pins σ (upd H d (.frz od (.dT kvs))) s:=by
 have ne:∀ {b:Addr}{o:HO},H b=some o→(∀ kvs,o≠.dT kvs)→upd H d (.frz od (.dT kvs)) b=some o:=fun {b o} q n=>by
  rw[upd_ne (fun z=>by rw[z,e] at q;injection q with q;exact n _ q.symm)];exact q
 have no:∀ {b:Addr},H b=none→upd H d (.frz od (.dT kvs)) b=none:=fun {b} q=>by
  rw[upd_ne (fun z=>by rw[z,e] at q;cases q)];exact q
 refine⟨I.ok,I.os,I.bare,⟨I.base.keep,I.base.slot,fun b o q n x=>no (I.base.free b o q n x),I.base.there,fun b xs q=>ne (I.base.tups b xs q) (fun _ z=>by cases z),fun b o u q=>ne (I.base.frzs b o u q) (fun _ z=>by cases z),fun b ps q=>?_⟩,I.loc,I.cell,no I.free,fun x c q=>no (I.freeC x c q),fun p hp=>?_,fun b o q=>?_,I.len⟩
 ·obtain⟨m,q⟩:=I.base.tbls b ps q
  exact⟨m,ne q (fun _ z=>by cases z)⟩
 ·obtain⟨p1,p2,p3⟩:=I.pin p hp
  exact⟨p1,no p2,p3⟩
 ·have st:∀ {b:Addr}{o:HO},H b=some o→ObjOk X.prog X.w (upd H d (.frz od (.dT kvs))) s.heap b o:=fun {b o} q=>(I.hok b o q).stay (fun c u _ q=>q) (fun c q=>ne q (fun _ z=>by cases z)) fun c xs q=>ne q (fun _ z=>by cases z)
  by_cases c:b=d
  ·subst c
   rw[upd_same] at q
   cases q
   exact⟨q0,st e⟩
  ·rw[upd_ne c] at q
   exact st q
noncomputable def ItT (d:Addr) (od:Obj) (kvs:List (List Key×V)):It :=
 ⟨fun i H=>H d=some (.frz od (.dT kvs))∧i<kvs.length,fun i H x H'=>H'=H∧∃ kv b,kvs[i]?=some kv∧x=.ref b∧H b=some (.tup (kv.1.map kV)),fun i H=>H d=some (.frz od (.dT kvs))∧kvs.length≤i⟩
theorem KT.getAt {H:Hp}:∀ {kvs:List (List Key×V)}{xs:List (List Key×Addr×Value)},KT H kvs xs→∀ {i:Nat}{p:List Key×V},kvs[i]?=some p→∃ x,xs[i]?=some x∧p.1=x.1∧H x.2.1=some (.tup (p.1.map kV))
 |_,_,.cons h t,0,p,e=>by cases e;exact⟨_,rfl,h.1,h.2.1⟩
 |_,_,.cons h t,i+1,p,e=>by
  obtain⟨x,h1,h2⟩:=KT.getAt t (i:=i) (p:=p) (by simpa using e)
  exact⟨x,by simpa using h1,h2⟩
 |_,_,.nil,i,p,e=>by simp at e
theorem wt {P:Program}{w:World}{K:PySem.W.Frag}{tg:Expr}{it d:Addr}{od:Obj}{kvs:List (List Key×V)}{es:Array DictEntry}{ep:Nat}(hed:od.ExactDict) (hda:od.data=.dict es ep) (hle:es.size=kvs.length) :
  Turn P w K tg (ItT d od kvs) [it] it (fun i h=>KIt h it d i es.size ep) where
 mem:=by simp
 obj:=fun i h o1 b hb=>by
  rw[List.mem_singleton.mp hb]
  exact⟨_,o1,fun v z=>by
   have z':Data.fields _=Data.cell v:=z
   cases z'⟩
 keep:=fun i h h' st k=>k it (by simp) _ st
 item:=by
  intro X hP hw hK hc i pins s σ H E I hf st hg
  subst hP hw hK
  obtain⟨f0,f1,f2,f3,f4,f5⟩:=hf it (by simp)
  obtain⟨d3,d4⟩:=I.hok d _ hg.1
  have hx:kvs[i]?=some (kvs[i]'hg.2):=List.getElem?_eq_getElem hg.2
  obtain⟨z,y,xs,rel,o,es2,ep2,h1,h2,h3,h4,h5⟩:=(show ObjOk X.prog X.w H s.heap d (.dT kvs) from d4)
  rw[d3] at h1
  cases h1
  rw[hda] at h3
  cases h3
  obtain⟨x,hxi,e1,e2⟩:=KT.getAt rel hx
  have he:es[i]?=some (entryOfKey (tupleKind (zI X.prog X.w)) x):=by
   rw[← Array.getElem?_toList,h4,List.getElem?_map,hxi]
   rfl
  refine vJ st ⟨od,d3,hed,hda⟩ he fun h' st4 sb=>?_
  refine⟨_,rfl,X0 (s:={ s with heap:=h' }) (n := "dict_keyiterator") st4 rfl rfl (by decide) ⟨.ref x.2.1,H,I.turned (t':=s.toks) (fun b o hb q=>sb.extBut b o hb q) f0 f1 f3 f4 f5,rfl,⟨rfl,_,x.2.1,hx,rfl,e2⟩,st4,fun b hb=>(hf b hb).1⟩⟩
 done:=by
  intro X hP hw hK hc i pins s σ H E I hf st hg
  subst hP hw hK
  obtain⟨f0,f1,f2,f3,f4,f5⟩:=hf it (by simp)
  have d3:=(I.hok d _ hg.1).1
  exact uW (I.ok.hd hc) st (by have:=hg.2;omega) ⟨od,d3,hed,hda⟩ fun h' kk=>⟨rfl,I.turned (t':=s.toks) (fun b o hb q=>kk b o hb q) f0 f1 f3 f4 f5⟩
 self:=fun _ i s _ _ st h=>wpAny_pyIter_keyiter (it:=it) (d:=d) (i:=i) (n:=es.size) (ep:=ep) ⟨_,st,rfl,rfl⟩ h
def zcq (td:TE):TI:=fun σ H R=>td σ H fun x H1=>∃ (d:Addr) (kvs:List (List Key×V)),x=.ref d∧H1 d=some (.dT kvs)∧∀ od:Obj,R (ItT d od kvs) (upd H1 d (.frz od (.dT kvs)))
theorem ul {tg l:Expr}{td:TE}(hl:Bx (PE X l td)):Bx (PI X tg l (zcq td)):=by
 have hl:=hl.of
 refine⟨?_⟩
 intro pins s σ H R I h
 refine thn (hl pins s σ H _ I h) fun v s1 hq0=>?_
 obtain⟨x,H1,I1,rx,d,kvs,ex,e,q⟩:=hq0
 subst ex
 obtain rfl:v=Value.ref d:=rx
 obtain⟨z,hd,xs,rel,dd⟩:=uJ I1.hok e
 obtain⟨od,es',ep,q1,q2,q3,q4,q5,q6⟩:=dd
 refine uq ⟨od,q1,q2,q3⟩ hd ?_
 have I1f:=I1.frozT e q1
 have hle:es'.size=kvs.length:=by
  rw[← Array.length_toList,q4,List.length_map]
  exact(Paired.length rel).symm
 refine⟨_,[s1.heap.objs.size],_,_,_,rfl,I1f.kept (t':=s1.toks) fun b u q=>Heap.get?_push_of_some _ q,wt q2 q3 hle,Heap.get?_push_size _ rfl,fun b hb=>?_,q od⟩
 rw[List.mem_singleton.mp hb]
 exact I1f.fpOk (Nat.le_refl _) (I1f.hok.fresh (Nat.le_refl _))
end
theorem for_keysT {d:Addr}{od:Obj}{kvs:List (List Key×V)}{g:TG}{tb:TS}{D:Ends}{σ:St}{H:Hp}(Pv:Nat→St→Hp→Prop) (h0:Pv 0 σ H) (hf:∀ i σ H,Pv i σ H→H d=some (.frz od (.dT kvs)))
  (hs:∀ i kv b σ H,kvs[i]?=some kv→H b=some (.tup (kv.1.map kV))→Pv i σ H→g (.ref b) σ H fun σ2 H2=>tb { D with nx:=Pv (i+1),ct:=Pv (i+1),bk:=D.nx } σ2 H2) (hd:∀ σ H,Pv kvs.length σ H→D.nx σ H) :
  ∃ W:Nat→Nat→St→Hp→Prop,(∃ m,W 0 m σ H)∧∀ i m σ H,W i m σ H →
   ((ItT d od kvs).stop i H∧D.nx σ H)∨((ItT d od kvs).go i H∧∃ N:St→Hp→Prop,(∀ σ' H',N σ' H'→∃ m',m'<m∧W (i+1) m' σ' H')∧∀ x H',(ItT d od kvs).yld i H x H'→g x σ H' fun σ2 H2=>tb { D with nx:=N,ct:=N,bk:=D.nx } σ2 H2):=by
 refine⟨fun i m σ H=>m=kvs.length-i∧i≤kvs.length∧Pv i σ H,⟨_,rfl,Nat.zero_le _,h0⟩,?_⟩
 rintro i m σ H ⟨rfl,hi,p⟩
 by_cases hlt:i<kvs.length
 ·refine .inr ⟨⟨hf i σ H p,hlt⟩,Pv (i+1),fun σ' H' p'=>⟨_,by omega,rfl,hlt,p'⟩,fun x H' y=>?_⟩
  obtain⟨rfl,kv,b,hk,rfl,hb⟩:=y
  exact hs i kv b σ _ hk hb p
 ·have e:i=kvs.length:=by omega
  subst e
  exact .inl ⟨⟨hf _ σ H p,Nat.le_refl _⟩,hd σ H p⟩
section
variable {X:Cx}
theorem Ys {H:Hp}{q t:Addr}{i j i' j':Int}(hq:H q=some (.tup [.int i',.int j'])) (ht:H t=some (.tup [.int i,.int j])):EqP X H (.ref q) (.ref t) (decide ((i',j')=(i,j))) 1:=by
 by_cases z:q=t
 ·subst z
  rw[hq] at ht
  cases ht
  rw[decide_eq_true rfl]
  exact EqP.same
 ·refine EqP.of ?_
  have e:decide ((i',j')=(i,j))=(List.range 2).all (fun k=>if k=0 then i' == i else j' == j):=by
   show decide ((i',j')=(i,j))=((i' == i)&&((j' == j)&&true))
   by_cases h1:i'=i
   ·by_cases h2:j'=j
    ·subst h1 h2;simp
    ·subst h1;simp[h2]
   ·simp[h1]
  rw[e]
  refine EqD.tup (xs:=[.int i',.int j']) (ys:=[.int i,.int j]) (e:=fun k=>if k=0 then i' == i else j' == j) (n:=0) z (SqT.of hq) (SqT.of ht) rfl fun k x y e1 e2=>?_
  match k,e1,e2 with
  |0,e1,e2=>cases e1;cases e2;exact EqD.flat (x:=.int i') (y:=.int i) rfl rfl
  |1,e1,e2=>cases e1;cases e2;exact EqD.flat (x:=.int j') (y:=.int j) rfl rfl
  |_+2,e1,e2=>simp at e1
def prO (ps:List (Addr×Int×Int)) (v:Value):Int×Int:=match v with
 |.ref t=>((ps.find? fun p=>p.1=t).map (·.2)).getD (0,0)
 |_=>(0,0)
theorem Zd {H:Hp}{ps:List (Addr×Int×Int)}(hy:∀ p∈ps,H p.1=some (.tup [.int p.2.1,.int p.2.2])){p:Addr×Int×Int}(hm:p∈ps):prO ps (.ref p.1)=p.2:=by
 obtain⟨t,i,j⟩:=p
 have ht:=hy _ hm
 show((ps.find? fun p=>p.1=t).map (·.2)).getD (0,0)=(i,j)
 cases hf:ps.find? fun p=>p.1=t with
 |none =>
  have:=List.find?_eq_none.mp hf (t,i,j) hm
  simp at this
 |some p' =>
  have e1:p'.1=t:=by simpa using List.find?_some hf
  have h2:=hy p' (List.mem_of_find?_eq_some hf)
  rw[e1] at h2
  rw[h2] at ht
  injection ht with ht
  injection ht with ht
  obtain⟨c,i',j'⟩:=p'
  simp at ht
  simp[ht]
theorem vf:∀ {ps:List (Addr×Int×Int)}{us:List Value},Vals (ps.map fun p=>V.ref p.1) us→us=ps.map fun p=>Value.ref p.1
 |[],_,.nil=>rfl
 |p::ps,_,.cons r t=>by rw[vf t];cases r;rfl
def zbU (K:PySem.W.Frag) (A:Around) (neg:Bool):R2:=fun x y H Q=>∃ (l t:Addr) (ps:List (Addr×Int×Int)) (i j:Int),x=.ref t∧y=.ref l∧SqL K H l (ps.map fun p=>V.ref p.1)∧(∀ p∈ps,H p.1=some (.tup [.int p.2.1,.int p.2.2]))∧H t=some (.tup [.int i,.int j])∧A.units+5<cLine ∧
 Q (.bl (if neg then !decide ((i,j)∈ps.map (·.2)) else decide ((i,j)∈ps.map (·.2)))) H
theorem Xc {H:Hp}{ps:List (Addr×Int×Int)}{i j:Int}(hps:∀ p∈ps,H p.1=some (.tup [.int p.2.1,.int p.2.2])):((ps.map fun p=>Value.ref p.1).toArray.any fun v=>decide (prO ps v=(i,j)))=decide ((i,j)∈ps.map (·.2)):=by
 rw[Bool.eq_iff_iff,decide_eq_true_eq]
 simp only[List.any_toArray,List.any_eq_true,decide_eq_true_eq]
 constructor
 ·rintro⟨v,hv,e⟩
  obtain⟨p,hp,rfl⟩:=List.mem_map.mp hv
  rw[Zd hps hp] at e
  exact List.mem_map.mpr ⟨p,hp,e⟩
 ·intro hm
  obtain⟨p,hp,e⟩:=List.mem_map.mp hm
  exact⟨_,List.mem_map.mpr ⟨p,hp,rfl⟩,by rw[Zd hps hp];exact e⟩
theorem zbX:OpR X (compareOp .In) (zbU X.K X.A false):=by
 intro pins s σ H x y v u Q I rx ry h
 obtain⟨l,t,ps,i,j,rfl,rfl,hl,hps,ht,hu,q⟩:=h
 cases rx
 cases ry
 obtain⟨its,r,pl,hz⟩:=I.list hl
 obtain rfl:=vf r
 refine SeqAt.in_listAt (fun v=>decide (prO ps v=(i,j))) pl.isList (fun w hw=>?_) ⟨.bl _,H,I,rfl,?_⟩
 ·obtain⟨p,hp,rfl⟩:=List.mem_map.mp (List.mem_toArray.mp hw)
  rw[Zd hps hp]
  exact Ys (X:=X) (hps p hp) ht pins σ s I X.A.in1 _ _ (by rw[yg];omega) rfl rfl
 ·rw[Xc hps]
  exact q
theorem vY:OpR X (compareOp .NotIn) (zbU X.K X.A true):=by
 intro pins s σ H x y v u Q I rx ry h
 obtain⟨l,t,ps,i,j,rfl,rfl,hl,hps,ht,hu,q⟩:=h
 cases rx
 cases ry
 obtain⟨its,r,pl,hz⟩:=I.list hl
 obtain rfl:=vf r
 refine SeqAt.notIn_listAt (fun v=>decide (prO ps v=(i,j))) pl.isList (fun w hw=>?_) ⟨.bl _,H,I,rfl,?_⟩
 ·obtain⟨p,hp,rfl⟩:=List.mem_map.mp (List.mem_toArray.mp hw)
  rw[Zd hps hp]
  exact Ys (X:=X) (hps p hp) ht pins σ s I X.A.in1 _ _ (by rw[yg];omega) rfl rfl
 ·rw[Xc hps]
  exact q
end
section
variable {prog:Program}{w:World}{KK:Type} [DecidableEq KK]{knd:HeapKind prog w KK}{A:Around}{E:Value→Shared→Prop}{s:Shared}
theorem Yk {nm:String}{a b:Addr}{xs ys:List (KK×Addr×Value)}{Q:Bool→Shared→Prop}(hu:knd.room A) (ha:(a == sysModules)=false) (hb:(b == sysModules)=false)
  (da:s.heap.DictOfH knd a xs) (db:s.heap.DictOfH knd b ys) (hl:xs.length=ys.length) (hits:∀ x∈xs,∃ p,(x.1,p)∈ys∧SeqAt.EqAt A s x.2.2 p.2 true) (h:Q true s) :
  wpAny (model prog w) A (Builtin.Dict.samePairs nm a b) Q E s:=by
 obtain⟨oa,es,ep,hoa,_,hda,hea,hia,hna⟩:=da
 obtain⟨ob,es',ep',hob,_,hdb,heb,hib,hnb⟩:=db
 have hla:=size_of_entries hea
 have hlb:=size_of_entries heb
 unfold Builtin.Dict.samePairs Builtin.Dict.showsAll
 rw[if_neg (show ¬ (a == sysModules)=true by rw[ha];exact Bool.false_ne_true),if_neg (show ¬ (b == sysModules)=true by rw[hb];exact Bool.false_ne_true)]
 refine wpAny_bind (wpAny_pure (wpAny_bind (wpAny_pure ?_)))
 refine wpAny_bind (wpAny_dictEntries hoa hda ?_)
 dsimp only
 refine wpAny_bind (wpAny_dictEntries hob hdb ?_)
 rw[if_neg (by rw[hla,hlb,hl];simp)]
 refine wpAny_bind (wpAny_dictEpoch hoa hda ?_)
 refine wpAny_bind ?_
 rw[Std.Legacy.Range.forIn_eq_forIn_range']
 simp only[Std.Legacy.Range.size,Nat.sub_zero,Nat.add_sub_cancel,Nat.div_one]
 refine wpAny_forIn_list _ (fun rest q s'=>s'=s∧q=(none,())∧∃ i,rest=List.range' i (es.size-i)∧i≤es.size) _ ?_ ?_ _ _ ⟨rfl,rfl,0,by simp,Nat.zero_le _⟩
 ·rintro x rest q s' ⟨rfl,rfl,i,hr,hi⟩
  have hlt:i<es.size:=by
   rcases Nat.lt_or_ge i es.size with h | h
   ·exact h
   ·rw[Nat.sub_eq_zero_of_le h] at hr;simp at hr
  obtain⟨rfl,hrest⟩:x=i∧rest=List.range' (i+1) (es.size-(i+1)):=by
   have e:es.size-i=(es.size-(i+1))+1:=by omega
   rw[e,List.range'_succ] at hr
   injection hr with h1 h2
   exact⟨h1,h2⟩
  have hlt':x<xs.length:=by rw[← hla];exact hlt
  have hxx:xs[x]?=some xs[x]:=List.getElem?_eq_getElem hlt'
  have hxm:xs[x]∈xs:=List.getElem_mem hlt'
  refine wpAny_bind (wpAny_dictEntries hoa hda ?_)
  rw[entry_at hea x,hxx]
  generalize xs[x]=y at *
  obtain⟨k,ad,v⟩:=y
  obtain⟨p,hpm,he⟩:=hits _ hxm
  have hkey:=hia _ hxm
  dsimp only at hpm he hkey
  show wpAny _ _ (holding [Value.ref ad,v] _ >>= _) _ _ _
  refine wpAny_bind (wpAny_holding (wpAny_bind (wpAny_dictFind_heap hu hkey hob hdb heb hib hnb ?_ ?_)))
  ·intro hno
   obtain⟨j,hj⟩:=List.getElem?_of_mem hpm
   exact absurd hj (hno j p)
  ·intro j p' hj
   have ep:p'=p:=by
    have h1:=atKey_of_get hnb hj
    obtain⟨j2,hj2⟩:=List.getElem?_of_mem hpm
    have h2:=atKey_of_get hnb hj2
    rw[h1] at h2
    injection h2
   subst ep
   refine wpAny_bind (wpAny_dictEntries hob hdb ?_)
   rw[entry_at heb j,hj]
   refine wpAny_holding (he prog w _ _ ?_)
   show wpAny _ _ (if (!true)=true then _ else _) _ _ _
   rw[if_neg (by decide)]
   refine wpAny_bind (wpAny_dictEpoch hoa hda ?_)
   rw[if_neg (by simp)]
   exact wpAny_pure ⟨rfl,rfl,x+1,hrest,hlt⟩
 ·rintro q s' ⟨rfl,rfl,i,hr,hi⟩
  exact wpAny_pure h
end
section
variable {X:Cx}
theorem KT.get1 {H:Hp}{kvs:List (List Key×V)}{xs:List (List Key×Addr×Value)}(r:KT H kvs xs):∀ {x},x∈xs→∃ p∈kvs,p.1=x.1∧RelV p.2 x.2.2:=by
 induction r with
 |nil=>intro x hx;exact nomatch hx
 | @cons p q ps qs hq t ih =>
  intro x hx
  rcases List.mem_cons.mp hx with z | z
  ·exact⟨p,List.mem_cons_self,by rw[z];exact hq.1,by rw[z];exact hq.2.2⟩
  ·obtain⟨p',h1,h2⟩:=ih z
   exact⟨p',List.mem_cons_of_mem _ h1,h2⟩
theorem KT.get2 {H:Hp}{kvs:List (List Key×V)}{xs:List (List Key×Addr×Value)}(r:KT H kvs xs):∀ {p},p∈kvs→∃ x∈xs,p.1=x.1∧RelV p.2 x.2.2:=by
 induction r with
 |nil=>intro x hx;exact nomatch hx
 | @cons p q ps qs hq t ih =>
  intro x hx
  rcases List.mem_cons.mp hx with z | z
  ·exact⟨q,List.mem_cons_self,by rw[z];exact hq.1,by rw[z];exact hq.2.2⟩
  ·obtain⟨p',h1,h2⟩:=ih z
   exact⟨p',List.mem_cons_of_mem _ h1,h2⟩
end
def ThT (G:Hp) (Q:Hp→Prop) (H:Hp):Prop:=Q H∨∃ (d:Addr) (od:Obj) (kvs:List (List Key×V)),(∀ o u,G d≠some (.frz o u))∧H d=some (.frz od (.dT kvs))∧Q (upd H d (.dT kvs))
def zb5 (G:Hp) (t:TS):TS:=fun D σ H=>t ⟨fun σ=>ThT G (D.nx σ),fun v=>ThT G (D.rt v),fun σ=>ThT G (D.bk σ),fun σ=>ThT G (D.ct σ)⟩ σ H
section
variable {X:Cx}{pins:List (Addr×Obj)}{σ:St}{H G:Hp}{s:Shared}{d:Addr}{od:Obj}{kvs:List (List Key×V)}
theorem Inv.thawT (I:Inv X pins σ G s) (S:∀ o u,X.H₀ d≠some (.frz o u)) (g:G d=some (.frz od (.dT kvs))):Inv X pins σ (upd G d (.dT kvs)) s:=by
 have ne:∀ {b:Addr}{o:HO},G b=some o→(∀ ob u,o≠.frz ob u)→upd G d (.dT kvs) b=some o:=fun {b o} q n=>by
  rw[upd_ne (fun z=>by rw[z,g] at q;injection q with q;exact n _ _ q.symm)];exact q
 have no:∀ {b:Addr},G b=none→upd G d (.dT kvs) b=none:=fun {b} q=>by
  rw[upd_ne (fun z=>by rw[z,g] at q;cases q)];exact q
 refine⟨I.ok,I.os,I.bare,⟨I.base.keep,I.base.slot,fun b o q n x=>no (I.base.free b o q n x),I.base.there,fun b xs q=>ne (I.base.tups b xs q) (fun _ _ z=>by cases z),fun b o u q=>?_,fun b ps q=>?_⟩,I.loc,I.cell,no I.free,fun x c q=>no (I.freeC x c q),fun p hp=>?_,fun b o q=>?_,I.len⟩
 ·rw[upd_ne (fun(z:b=d)=>S o u (by rw[← z];exact q))]
  exact I.base.frzs b o u q
 ·obtain⟨m,q⟩:=I.base.tbls b ps q
  exact⟨m,ne q (fun _ _ z=>by cases z)⟩
 ·obtain⟨p1,p2,p3⟩:=I.pin p hp
  exact⟨p1,no p2,p3⟩
 ·have st:∀ {b:Addr}{o:HO},ObjOk X.prog X.w G s.heap b o→ObjOk X.prog X.w (upd G d (.dT kvs)) s.heap b o:=fun {b o} q=>q.stay (fun c u _ q=>q) (fun c q=>ne q (fun _ _ z=>by cases z)) fun c xs q=>ne q (fun _ _ z=>by cases z)
  by_cases c:b=d
  ·subst c
   rw[upd_same] at q
   cases q
   exact st (I.hok b _ g).2
  ·rw[upd_ne c] at q
   exact st (I.hok b o q)
theorem ThT.inv {Q:Hp→Prop}(I:Inv X pins σ H s) (h:ThT X.H₀ Q H):∃ H',Inv X pins σ H' s∧Q H':=by
 rcases h with h | ⟨d,od,kvs,S,g,h⟩
 ·exact⟨_,I,h⟩
 ·exact⟨_,I.thawT S g,h⟩
theorem Zy {st:Stmt}{t:TS}(h:Bx (PS X st t)):Bx (PS X st (zb5 X.H₀ t)):=by
 have h:=h.of
 refine⟨?_⟩
 intro pins s σ H D I q
 refine thn (h pins s σ H _ I q) fun f s' q'=>?_
 cases f with
 |next=>obtain⟨σ',H',I',q'⟩:=q';obtain⟨H2,I2,q2⟩:=ThT.inv I' q';exact⟨_,_,I2,q2⟩
 |cont=>obtain⟨σ',H',I',q'⟩:=q';obtain⟨H2,I2,q2⟩:=ThT.inv I' q';exact⟨_,_,I2,q2⟩
 |brk=>obtain⟨σ',H',I',q'⟩:=q';obtain⟨H2,I2,q2⟩:=ThT.inv I' q';exact⟨_,_,I2,q2⟩
 |ret v=>obtain⟨x,σ',H',I',r,q'⟩:=q';obtain⟨H2,I2,q2⟩:=ThT.inv I' q';exact⟨_,_,_,I2,r,q2⟩
theorem Wa (I:Inv X pins σ H s) (e:H d=some (.dT kvs)):∀ o u,X.H₀ d≠some (.frz o u):=fun o u z=>by
 have:=I.base.frzs d o u z
 rw[e] at this;cases this
def iKT (G:Hp) (td:TE):TI:=fun σ H R=>td σ H fun x H1=>∃ (d:Addr) (kvs:List (List Key×V)),x=.ref d∧H1 d=some (.dT kvs)∧∀ od:Obj,(∀ o u,G d≠some (.frz o u))→R (ItT d od kvs) (upd H1 d (.frz od (.dT kvs)))
theorem uj {tg l:Expr}{td:TE}(hl:Bx (PE X l td)):Bx (PI X tg l (iKT X.H₀ td)):=by
 have hl:=hl.of
 refine⟨?_⟩
 intro pins s σ H R I h
 refine thn (hl pins s σ H _ I h) fun v s1 hq0=>?_
 obtain⟨x,H1,I1,rx,d,kvs,ex,e,q⟩:=hq0
 subst ex
 obtain rfl:v=Value.ref d:=rx
 obtain⟨z,hd,xs,rel,dd⟩:=uJ I1.hok e
 obtain⟨od,es',ep,q1,q2,q3,q4,q5,q6⟩:=dd
 refine uq ⟨od,q1,q2,q3⟩ hd ?_
 have I1f:=I1.frozT e q1
 have hle:es'.size=kvs.length:=by
  rw[← Array.length_toList,q4,List.length_map]
  exact(Paired.length rel).symm
 refine⟨_,[s1.heap.objs.size],_,_,_,rfl,I1f.kept (t':=s1.toks) fun b u q=>Heap.get?_push_of_some _ q,wt q2 q3 hle,Heap.get?_push_size _ rfl,fun b hb=>?_,q od (Wa I1 e)⟩
 rw[List.mem_singleton.mp hb]
 exact I1f.fpOk (Nat.le_refl _) (I1f.hok.fresh (Nat.le_refl _))
end
theorem ZI:typeLookup (.type "list_reverseiterator") "__len__" = pure none:=by rw[typeLookup_type,builtinLookup_eq_fast];kernel_rfl
theorem XU:typeLookup (.type "list_reverseiterator") "__length_hint__" = pure (some (.builtin "list_reverseiterator.__length_hint__")):=by rw[typeLookup_type,builtinLookup_eq_fast];kernel_rfl
section
variable {prog:Program}{w:World}{A:Around}{E:Value→Shared→Prop}{s:Shared}
theorem Vn {it l:Addr}{i:Int}{Q:Bool→Shared→Prop}(hit:s.heap.IsRevIter it l i) (q:Q false s):wpAny (model prog w) A (Builtin.List.listLengthHint (.ref it)) Q E s:=by
 unfold Builtin.List.listLengthHint
 refine wpAny_bind (wpAny_specialOf hit.typeIs ZI ?_)
 show wpAny _ _ (specialOf (Value.ref it) (Str.ofString "__length_hint__") >>= _) _ _ _
 refine wpAny_bind (wpAny_specialOf hit.typeIs XU ?_)
 generalize hid:("list_reverseiterator.__length_hint__" : String)=id0
 wp_delta
 rw[show splitId id0=some ("list_reverseiterator", "__length_hint__") from by subst hid;decide +kernel]
 subst hid
 refine wpAny_bind (wpAny_isInstance (T := "list_reverseiterator") (b:=true) hit.typeIs (by rw[isSubtype_type];kernel_rfl) ?_)
 refine wpAny_ite_split (fun hab=>absurd hab (by decide)) (fun _=>?_)
 refine wpAny_ite_split (fun _=>?_) (fun hab=>absurd (by decide +kernel) hab)
 refine wpAny_ite_split (fun hab=>absurd hab (by decide +kernel)) (fun _=>?_)
 exact wpAny_pure q
theorem Vm {it l:Addr}{items:Array Value}{Q:Value→Shared→Prop}(hh:A.handled=none) (hne:l≠it) (hit:s.heap.IsRevIter it l ((items.size:Int)-1)) (hl:s.heap.IsList l items) (hn:items.size≤sizeLine)
  (hQ:∀ h' tk acc' c',(∀ b o,b≠it→s.heap.get? b=some o→h'.get? b=some o)→h'.get? s.heap.objs.size=some { cls:=.type "list",dict:=none,data:=.seq acc' c',slots:=#[] }→ItemsOf (fun i v=>items[items.size-1-i]?=some v) acc' items.size→Q (.ref s.heap.objs.size) { s with heap:=h',toks:=tk }) :
  wpAny (model prog w) A (call (.type "list") [.ref it]) Q E s:=by
 refine callType_codes (Q₁:=fun obj s₁=>obj=.ref s.heap.objs.size∧s₁={ s with heap:=s.heap.push { cls:=.type "list",data:=.seq #[] } }) PySem.F.called_list (PySem.F.typeCall_list_1 _) PySem.F.entry_list_init
  (code_list_new _ ⟨rfl,rfl⟩) fun obj s₁ h₁=>?_
 obtain⟨rfl,rfl⟩:=h₁
 have hS:(s.heap.push { cls:=.type "list",data:=.seq #[] }).get? s.heap.objs.size=some { cls:=.type "list",data:=.seq #[] }:=Heap.get?_push_size _ rfl
 have li:it<s.heap.objs.size:=by obtain⟨o,e,_⟩:=hit;exact Heap.lt_size e
 have ll:l<s.heap.objs.size:=by obtain⟨o,e,_⟩:=hl;exact Heap.lt_size e
 have hSI:s.heap.objs.size≠it:=Nat.ne_of_gt li
 have hSf:s.heap.objs.size∉[it,l]:=by
  simp only[List.mem_cons,List.not_mem_nil,or_false,not_or]
  exact⟨hSI,Nat.ne_of_gt ll⟩
 refine⟨⟨_,hS,rfl⟩,PySem.F.args_list_init_2 _ _,?_⟩
 show wpAny _ _ (do let old ← Builtin.List.listItems (.ref s.heap.objs.size);Builtin.List.listUpdate (.ref s.heap.objs.size) (fun _=>#[]);letGo old.toList.reverse;Builtin.List.listExtendWith (.ref s.heap.objs.size) (.ref it) .none) _ _ _
 refine wpAny_bind ?_
 unfold Builtin.List.listItems
 refine wpAny_bind (wpAny_seqItems hS rfl (wpAny_pure ?_))
 show wpAny _ _ (updateSeq s.heap.objs.size (fun _=>#[]) >>= fun _=>letGo (#[]:Array Value).toList.reverse >>= fun _=>Builtin.List.listExtendWith (.ref s.heap.objs.size) (.ref it) .none) _ _ _
 refine wpAny_bind (wpAny_updateSeq hS rfl ?_)
 have hS₂:=Heap.get?_update_self (Obj.mapSeq (fun _=>(#[]:Array Value))) hS rfl
 have oth:∀ b o,s.heap.get? b=some o→((s.heap.push { cls:=.type "list",data:=.seq #[] }).update s.heap.objs.size (Obj.mapSeq (fun _=>(#[]:Array Value)))).get? b=some o :=
  fun b o e=>(Heap.get?_update_other _ _ (Nat.ne_of_gt (Heap.lt_size e))).trans (Heap.get?_push_of_some _ e)
 refine wpAny_bind (wpAny_letGo ?_)
 generalize hh2:(s.heap.push { cls:=.type "list",data:=.seq #[] }).update s.heap.objs.size (Obj.mapSeq (fun _=>(#[]:Array Value)))=h2 at *
 have hit2:h2.IsRevIter it l ((items.size:Int)-1):=hit.at fun o e=>oth _ o e
 have hl2:h2.IsList l items:=hl.at fun o e=>oth _ o e
 unfold Builtin.List.listExtendWith
 refine wpAny_bind (wpAny_typeOf (T := "list_reverseiterator") (s:={ s with heap:=h2 }) hit2.typeIs ?_)
 have h1:Builtin.List.listSameRef (.ref s.heap.objs.size) (.ref it)=false:=by simp[Builtin.List.listSameRef,hSI]
 have h3:(Value.type "list_reverseiterator" == Value.type "list")=false:=by decide
 have h4:(Value.type "list_reverseiterator" == Value.type "tuple")=false:=by decide
 simp only[h1,h3,h4,Bool.or_false,Bool.false_eq_true,if_false]
 refine wpAny_bind (wpAny_pyIter_revIter (s:={ s with heap:=h2 }) hit2 ?_)
 refine wpAny_bind (wpAny_holding (Vn (s:={ s with heap:=h2 }) hit2 ?_))
 refine wpAny_ite_split (fun hab=>absurd hab (by decide +kernel)) (fun _=>?_)
 have W:=(Walks.listRev (prog:=prog) (w:=w) (A:=A.in1.in1) hh it l hne items).toS
 have hst:0≤items.size∧h2.IsRevIter it l ((items.size:Int)-1-((0:Nat):Int))∧h2.IsList l items:=⟨Nat.zero_le _,by simpa using hit2,hl2⟩
 refine wpAny_pure ⟨plainId_quiet F.plain_extend_loop _,codeAny_extend_loopS W hn _ hSf _ items.size 0 _ _ _ rfl (Nat.zero_le _) hst hS₂ (ItemsOf.nil _) fun s' acc' c' hm hS' hacc=>?_⟩
 refine⟨rfl,?_⟩
 rw[Moved.eq_with hm]
 refine hQ s'.heap s'.toks acc' c' (fun b o hb e=>hm.heap b o (fun hmem=>?_) (oth b o e)) hS' hacc
 rcases List.mem_cons.mp hmem with e' | hmem
 ·exact absurd (Heap.lt_size e) (by rw[e'];exact Nat.lt_irrefl _)
 ·exact hb (List.mem_singleton.mp hmem)
end
section
variable {X:Cx}
def zax (K:PySem.W.Frag) (ta:TA):TE:=fun σ H Q=>ta σ H fun vs H1=>∃ (a:Addr) (xs:List V),vs=[.ref a]∧SqL K H1 a xs∧∀ l,H1 l=none→Q (.ref l) (upd H1 l (.lst xs.reverse))
theorem Uy {its:List Value}{acc:Array Value}(h:ItemsOf (fun i v=>its.toArray[its.toArray.size-1-i]?=some v) acc its.toArray.size):acc.toList=its.reverse:=by
 refine List.ext_getElem? fun j=>?_
 by_cases c:j<its.length
 ·have hj:j<acc.size:=by rw[h.1];simpa using c
  have e:acc.toList[j]?=some acc[j]:=by simp[hj]
  have h2:=h.2 j acc[j] (by simp[hj])
  rw[e,List.getElem?_reverse c]
  simp only[List.size_toArray,List.getElem?_toArray] at h2
  exact h2.symm
 ·rw[List.getElem?_eq_none (by rw[Array.length_toList,h.1];simp;omega),List.getElem?_eq_none (by simp;omega)]
theorem vG {e:Expr}{ta:TA}{p p2 pos cpos:Pos}(hc:X.calm=true) (hgl:Gl X "list") (hm:X.mg "list" = none) (hg:Gl X "reversed") (hm2:X.mg "reversed" = none) (ha:Bx (PA X [e] ta)) (hs2:starEach [e] X.env=[(false,eval e X.env)]:=by rfl) (hs:starEach [.Call (.Name "reversed" p2) [e] [] cpos] X.env=[(false,eval (.Call (.Name "reversed" p2) [e] [] cpos) X.env)]:=by rfl):Bx (PE X (.Call (.Name "list" p) [.Call (.Name "reversed" p2) [e] [] cpos] [] pos) (zax X.K ta)):=by
 have ha:=ha.of
 refine⟨?_⟩
 intro pins s σ H Q I h
 refine wpAny_Call_Name_kw (ld_blt I hgl hm bt_list ?_ (by decide) (by decide))
 refine PyProof.Rows.callWith_type1 ?_ hs rfl
 rw[hs]
 show wpAny _ _ (spliced ((false,eval (.Call (.Name "reversed" p2) [e] [] cpos) X.env)::backTo pos [])) _ _ s
 refine Calls.spliced_cons (Call_ (ld_blt I hg hm2 vC (PyProof.Rows.callWith_type1 (thn (ha cpos pins s σ H _ I h) fun us s1 hq0=>?_) hs2 rfl)))
 obtain⟨vs,H1,I1,r1,q1⟩:=hq0
 obtain⟨b,xs,ex,hq,q⟩:=q1
 subst ex
 obtain⟨u,rfl,ru⟩:=r1.one
 cases ru
 obtain⟨its,rv,pl,hz⟩:=I1.list hq
 have hl:=rv.length
 refine call_reversed_list pl.isList ?_
 refine Calls.spliced_nil ?_
 have lb:b<s1.heap.objs.size:=by obtain⟨o,e,_⟩:=pl.isList;exact Heap.lt_size e
 have hle:s1.heap.objs.size≤(s1.heap.push (revObj b ((its.toArray.size:Int)-1))).objs.size:=by rw[Heap.size_push];exact Nat.le_succ _
 refine Vm (s:={ s1 with heap:=s1.heap.push (revObj b ((its.toArray.size:Int)-1)) }) (it:=s1.heap.objs.size) (l:=b) (items:=its.toArray) (I1.ok.hd hc) (Nat.ne_of_lt lb) ⟨_,Heap.get?_push_size _ rfl,rfl,rfl⟩ (pl.isList.push _) (by rw[List.size_toArray,← hl];exact hz) fun h' tk acc c' kp ea hit=>?_
 refine⟨.ref _,_,I1.laid (t':=tk) (h':=h') (fun b o e=>kp b o (Nat.ne_of_lt (Heap.lt_size e)) (Heap.get?_push_of_some _ e)) hle (show ObjOk X.prog X.w _ h' _ (.lst xs.reverse) from⟨by rw[List.length_reverse];exact hz,acc.toList,c',?_,ea⟩),rfl,q _ (I1.hok.fresh hle)⟩
 rw[Uy hit]
 exact rv.reverse
theorem Xj {tg e:Expr}{i1 i2:TI}(h1:Bx (PI X tg e i1)) (h2:Bx (PI X tg e i2)):Bx (PI X tg e (fun σ H R=>i1 σ H R∨i2 σ H R)):=by
 have h1:=h1.of
 have h2:=h2.of
 refine⟨?_⟩
 intro pins s σ H R I h
 rcases h with h | h
 ·exact h1 pins s σ H R I h
 ·exact h2 pins s σ H R I h
def lsO (ps:List (Addr×LI)) (v:Value):LI:=match v with
 |.ref t=>((ps.find? fun p=>p.1=t).map (·.2)).getD []
 |_=>[]
theorem xY {H:Hp}{ps:List (Addr×LI)}(hy:∀ p∈ps,H p.1=some (.lst (p.2.map V.int))){p:Addr×LI}(hm:p∈ps):lsO ps (.ref p.1)=p.2:=by
 obtain⟨t,ns⟩:=p
 have ht:=hy _ hm
 show((ps.find? fun p=>p.1=t).map (·.2)).getD []=ns
 cases hf:ps.find? fun p=>p.1=t with
 |none =>
  have:=List.find?_eq_none.mp hf (t,ns) hm
  simp at this
 |some p' =>
  have e1:p'.1=t:=by simpa using List.find?_some hf
  have h2:=hy p' (List.mem_of_find?_eq_some hf)
  rw[e1,ht] at h2
  injection h2 with h2
  injection h2 with h2
  have inj:∀ {as bs:LI},as.map V.int=bs.map V.int→as=bs:=by
   intro as
   induction as with
   |nil=>intro bs h;cases bs with
    |nil=>rfl
    |cons b bs=>simp at h
   |cons a as ih=>intro bs h;cases bs with
    |nil=>simp at h
    |cons b bs =>
     rw[List.map_cons,List.map_cons] at h
     injection h with h1 h2
     injection h1 with h1
     rw[h1,ih h2]
  exact(inj h2).symm
theorem wf {β:Type}:∀ {ps:List (Addr×β)}{us:List Value},Vals (ps.map fun p=>V.ref p.1) us→us=ps.map fun p=>Value.ref p.1
 |[],_,.nil=>rfl
 |p::ps,_,.cons r t=>by rw[wf t];cases r;rfl
def zck (K:PySem.W.Frag) (A:Around) (neg:Bool):R2:=fun x y H Q=>∃ (l t:Addr) (ps:List (Addr×LI)) (ns:LI),x=.ref t∧y=.ref l∧SqL K H l (ps.map fun p=>V.ref p.1)∧(∀ p∈ps,H p.1=some (.lst (p.2.map V.int)))∧H t=some (.lst (ns.map V.int))∧A.units+70<cLine ∧
 Q (.bl (if neg then !decide (ns∈ps.map (·.2)) else decide (ns∈ps.map (·.2)))) H
theorem wA:OpR X (compareOp .NotIn) (zck X.K X.A true):=by
 intro pins s σ H x y v u Q I rx ry h
 obtain⟨l,t,ps,ns,rfl,rfl,hl,hps,ht,hu,q⟩:=h
 cases rx
 cases ry
 obtain⟨its,r,pl,hz⟩:=I.list hl
 obtain rfl:=wf r
 obtain⟨it2,r2,pl2,_⟩:=I.list (SqL.of ht)
 refine SeqAt.notIn_listAt (fun v=>decide (lsO ps v=ns)) pl.isList (fun w hw=>?_) ⟨.bl _,H,I,rfl,?_⟩
 ·obtain⟨p,hp,rfl⟩:=List.mem_map.mp (List.mem_toArray.mp hw)
  rw[xY hps hp]
  obtain⟨it3,r3,pl3,_⟩:=I.list (SqL.of (hps p hp))
  exact PySem.W.keq_ints pl3.isList (yW r3) pl2.isList (yW r2) (by rw[yg];omega)
 ·have e:((ps.map fun p=>Value.ref p.1).toArray.any fun v=>decide (lsO ps v=ns))=decide (ns∈ps.map (·.2)):=by
   rw[Bool.eq_iff_iff,decide_eq_true_eq]
   simp only[List.any_toArray,List.any_eq_true,decide_eq_true_eq]
   constructor
   ·rintro⟨v,hv,e⟩
    obtain⟨p,hp,rfl⟩:=List.mem_map.mp hv
    rw[xY hps hp] at e
    exact List.mem_map.mpr ⟨p,hp,e⟩
   ·intro hm
    obtain⟨p,hp,e⟩:=List.mem_map.mp hm
    exact⟨_,List.mem_map.mpr ⟨p,hp,rfl⟩,by rw[xY hps hp];exact e⟩
  rw[e]
  exact q
end
end L2
namespace L2
open PySem PySem.W PyProof.Rows
structure Fe where
 a:Addr
 n:Str
 q:Str
 s:Stmt
 ps:List Str
 N:List Str
 c:Addr
structure Ce where
 a:Addr
 n:Str
 i:Addr
 fs:List Str
structure Tab where
 f:List Fe
 c:List Ce
 b:List Str
 k:List (Value×Value×Bool)
 m:List (Str×Value)
 t:List (Addr×List Str)
 x:List Addr
 y:List Addr
 u:List (Addr×Addr×Bool)
noncomputable def dK (K:Frag) (f:Addr):FuncData:=match K.lookup f with
 |some ⟨_,_,.func d,_⟩=>d
 |_=>default
def fnX (e:Fe) (g:FuncData):FuncData:=fnOf e.n e.q (defArgs e.s) (defBody e.s) (defScope e.s) .none g.kwdefaults g.doc g.pyModule g.annotations g.code g.closureTuple
def fnB (K:Frag) (e:Fe):Option Obj:=match K.lookup e.a with
 |some ⟨c,d,.func g,sl⟩=>some ⟨c,d,.func (fnX e g),sl⟩
 |_=>none
def scB (e:Fe):Bool:=decide ((defScope e.s).kind=.function)&&!(defScope e.s).isCoroutine&&!(defScope e.s).isGenerator&&decide e.N.Nodup&&decide (e.N.take e.ps.length=e.ps) &&
 e.ps.all (fun x=>decide ((defScope e.s).names.lookup x=some .local∨(defScope e.s).names.lookup x=some .cell))&&(defScope e.s).names.all fun y=>decide (y.2≠.free)
theorem zcf {e:Fe}(h:scB e=true):FnScope e.N e.ps (defScope e.s):=by
 unfold scB at h
 simp only[Bool.and_eq_true,decide_eq_true_eq,Bool.not_eq_true',List.all_eq_true] at h
 exact⟨h.1.1.1.1.1.1,h.1.1.1.1.1.2,h.1.1.1.1.2,h.1.1.1.2,h.1.1.2,h.1.2,h.2⟩
noncomputable def eqv (x y:Option (Option Value)):Bool:=decide (x=y)
def fnC (K:Frag) (e:Fe):Bool:=codeIn K (dK K e.a).code e.q&&keepIn K (.ref e.a)&&isFn K (.ref e.a)&&eqv (if e.c=0 then nsIn K mainGlobals e.n else findIn K (.ref e.c) e.n) (some (some (.ref e.a)))
def clC (K:Frag) (e:Ce):Bool:=plainGet K e.a Str.empty&&hasDictIn K e.a&&plainOver K e.a&&eqv (findIn K (.ref e.a) "__setattr__") (some (some (.builtin "object.__setattr__"))) &&
 eqv (nsIn K mainGlobals e.n) (some (some (.ref e.a)))&&makesIn K e.a&&eqv (findIn K (.ref e.a) "__init__") (some (some (if e.i=0 then .builtin "object.__init__" else .ref e.i)))&&keepIn K (.ref e.a) &&
 eqv (findIn K (.ref e.a) "__class__") (some (some (.builtin "object.__class__")))&&decide (mroIn K e.a (.type "object")=some true)&&e.fs.all (fun f=>eqv (findIn K (.ref e.a) f) (some none))&&(e.i == 0||isFn K (.ref e.i))
def tpC (K:Frag) (p:Addr×List Str):Bool:=match K.lookup p.1 with
 |some ⟨.type "tuple",_,.seq its _,_⟩=>decide (its.toList.map (fun v=>match v with | .str x _=>some x | _=>none)=p.2.map some)
 |_=>false
def xiC (K:Frag) (c:Addr):Bool:=eqv (findIn K (.ref c) "__getattribute__") (some (some (.builtin "BaseException.__getattribute__")))&&eqv (findIn K (.ref c) "__getattr__") (some none)&&eqv (findIn K (.ref c) "__class__") (some (some (.builtin "object.__class__"))) &&
 decide (mroIn K c (.type "object")=some true)&&decide (mroIn K c (.type "BaseException")=some true)&&hasDictIn K c
def chk (t:Tab) (K:Frag):Bool :=
 t.f.all (fnC K)&&t.c.all (clC K)&&t.b.all (fun x=>eqv (nsIn K mainGlobals x) (some none))&&t.k.all (fun p=>decide (kitOne K p.1 p.2.1=some p.2.2))&&t.m.all (fun p=>eqv (nsIn K mainGlobals p.1) (some (some p.2)))&&t.t.all (tpC K) &&
 t.x.all (fun c=>excIn K c zaj "ValueError.__new__")&&t.y.all (xiC K)&&t.u.all (fun p=>decide (zbt K p.1 p.2.1=some p.2.2))&&eqv (specialIn K (.builtin "object.__class__") "__get__") (some (some (.builtin "getset_descriptor.__get__")))&&decide (takesIn K (.builtin "object.__class__")=some true)
abbrev bdA (t:Tab) (g:FuncData) (us:List Value):Prop:=(t.f.filter fun e=>e.ps.length == us.length).map (fun e=>bindArgs (fnX e g) ⟨us,[]⟩)=(t.f.filter fun e=>e.ps.length == us.length).map fun e=>pure (e.ps.zip us)
structure Txt0 (t:Tab) (K:Frag) (mg:Str→Option Value):Prop where
 ck:chk t K=true
 fe:t.f.map (fun e=>K.lookup e.a)=t.f.map (fnB K)
 bd:∀ (g:FuncData) (us:List Value),us.length≤8→bdA t g us
 mg:∀ x v,nsIn K mainGlobals x=some v→mg x=v
theorem WQ {α β:Type}{f g:α→β}{l:List α}(h:l.map f=l.map g){i:Nat}{e:α}(hi:l[i]?=some e):f e=g e:=by
 have:=congrArg (fun l=>l[i]?) h
 simpa[List.getElem?_map,hi] using this
theorem yK {α:Type}{f:α→Bool}{l:List α}(h:l.all f=true){i:Nat}{e:α}(hi:l[i]?=some e):f e=true:=List.all_eq_true.mp h e (List.mem_of_getElem? hi)
section
variable {t:Tab}{K:Frag}{mg:Str→Option Value}
theorem Txt0.parts (T:Txt0 t K mg):(t.f.all (fnC K)=true∧t.c.all (clC K)=true∧t.b.all (fun x=>eqv (nsIn K mainGlobals x) (some none))=true∧t.k.all (fun p=>decide (kitOne K p.1 p.2.1=some p.2.2))=true)∧(t.m.all (fun p=>eqv (nsIn K mainGlobals p.1) (some (some p.2)))=true∧t.t.all (tpC K)=true ∧
  t.x.all (fun c=>excIn K c zaj "ValueError.__new__")=true∧t.y.all (xiC K)=true∧t.u.all (fun p=>decide (zbt K p.1 p.2.1=some p.2.2))=true)∧specialIn K (.builtin "object.__class__") "__get__" = some (some (.builtin "getset_descriptor.__get__"))∧takesIn K (.builtin "object.__class__")=some true:=by
 have h:=T.ck
 unfold chk at h
 simp only[Bool.and_eq_true] at h
 obtain⟨⟨⟨⟨⟨⟨⟨⟨⟨⟨h1,h2⟩,h3⟩,h4⟩,h5⟩,h6⟩,h7⟩,h8⟩,h9⟩,h10⟩,h11⟩:=h
 exact⟨⟨h1,h2,h3,h4⟩,⟨h5,h6,h7,h8,h9⟩,of_decide_eq_true h10,of_decide_eq_true h11⟩
theorem Zr {e:Fe}(h:fnC K e=true):codeIn K (dK K e.a).code e.q=true∧keepIn K (.ref e.a)=true∧isFn K (.ref e.a)=true∧(if e.c=0 then nsIn K mainGlobals e.n else findIn K (.ref e.c) e.n)=some (some (.ref e.a)):=by
 unfold fnC at h
 simp only[Bool.and_eq_true] at h
 exact⟨h.1.1.1,h.1.1.2,h.1.2,of_decide_eq_true h.2⟩
theorem fnD {e:Fe}(T:Txt0 t K mg){i:Nat}(hi:t.f[i]?=some e):∃ oc od sl,K.lookup e.a=some ⟨oc,od,.func (dK K e.a),sl⟩∧dK K e.a=fnX e (dK K e.a):=by
 have h1:=WQ T.fe hi
 have hk:=(Zr (yK T.parts.1.1 hi)).2.1
 simp only[fnB] at h1
 unfold dK
 split at h1
 ·rename_i c d g sl lk
  rw[lk] at h1 ⊢
  injection h1 with h1
  injection h1 with _ _ h1 _
  injection h1 with h1
  exact⟨c,d,sl,rfl,h1⟩
 ·unfold keepIn at hk
  simp only[h1] at hk
  cases hk
theorem Txt0.fn (T:Txt0 t K mg) (i:Nat){a c:Addr}{n q:Str}{s:Stmt}{ps N:List Str}(hi:t.f[i]?=some ⟨a,n,q,s,ps,N,c⟩:=by rfl):Fun K n q s a (dK K a):=by
 obtain⟨oc,od,sl,h1,h2⟩:=fnD T hi
 obtain⟨k1,k2,_⟩:=Zr (yK T.parts.1.1 hi)
 exact⟨⟨oc,od,(dK K a).kwdefaults,(dK K a).doc,(dK K a).pyModule,(dK K a).annotations,(dK K a).code,(dK K a).closureTuple,sl,h2,h1,k1⟩,k2⟩
theorem Txt0.be (T:Txt0 t K mg) (i:Nat){a c:Addr}{n q:Str}{s:Stmt}{ps N:List Str}(hi:t.f[i]?=some ⟨a,n,q,s,ps,N,c⟩:=by rfl) (h8:ps.length≤8:=by exact Nat.le_of_ble_eq_true rfl) (us:List Value) (hl:us.length=ps.length):bindArgs (dK K a) ⟨us,[]⟩=pure (ps.zip us):=by
 obtain⟨oc,od,sl,h1,h2⟩:=fnD T hi
 have hb:=T.bd (dK K a) us (by omega)
 have hm:(⟨a,n,q,s,ps,N,c⟩:Fe)∈t.f.filter fun e=>e.ps.length == us.length:=List.mem_filter.mpr ⟨List.mem_of_getElem? hi,by simp[hl]⟩
 obtain⟨j,hj⟩:=List.getElem?_of_mem hm
 have:=WQ hb hj
 rw[← h2] at this
 exact this
theorem Txt0.bi (T:Txt0 t K mg) (i:Nat){a c:Addr}{n q:Str}{s:Stmt}{ps N:List Str}(hi:t.f[i]?=some ⟨a,n,q,s,ps,N,c⟩:=by rfl) (h8:ps.length≤8:=by exact Nat.le_of_ble_eq_true rfl):Binds K (dK K a) ps []:=.all (T.be i hi h8)
theorem Txt0.g (T:Txt0 t K mg) (i:Nat){a:Addr}{n q:Str}{s:Stmt}{ps N:List Str}(hi:t.f[i]?=some ⟨a,n,q,s,ps,N,0⟩:=by rfl):mg n=some (.ref a):=T.mg _ _ (Zr (yK T.parts.1.1 hi)).2.2.2
theorem Txt0.mt (T:Txt0 t K mg) (i:Nat){a c:Addr}{n q:Str}{s:Stmt}{ps N:List Str}(hi:t.f[i]?=some ⟨a,n,q,s,ps,N,c⟩:=by rfl) (hc:c≠0:=by exact Nat.succ_ne_zero _):Meth K c n a:=by
 obtain⟨_,k2,k3,k4⟩:=Zr (yK T.parts.1.1 hi)
 exact⟨by simpa[hc] using k4,k3,k2⟩
theorem uc {e:Ce}(h:clC K e=true):Cls K e.a∧nsIn K mainGlobals e.n=some (some (.ref e.a))∧makesIn K e.a=true∧findIn K (.ref e.a) "__init__" = some (some (if e.i=0 then .builtin "object.__init__" else .ref e.i))∧keepIn K (.ref e.a)=true∧findIn K (.ref e.a) "__class__" = some (some (.builtin "object.__class__"))∧mroIn K e.a (.type "object")=some true∧(∀ f∈e.fs,findIn K (.ref e.a) f=some none)∧(e.i≠0→isFn K (.ref e.i)=true):=by
 unfold clC at h
 simp only[Bool.and_eq_true,eqv,decide_eq_true_eq,List.all_eq_true,Bool.or_eq_true,beq_iff_eq] at h
 obtain⟨⟨⟨⟨⟨⟨⟨⟨⟨⟨⟨h1,h2⟩,h3⟩,h4⟩,h5⟩,h6⟩,h7⟩,h8⟩,h9⟩,h10⟩,h11⟩,h12⟩:=h
 exact⟨⟨h1,h2,h3,h4⟩,h5,h6,h7,h8,h9,h10,h11,fun z=>h12.resolve_left z⟩
theorem Txt0.gc (T:Txt0 t K mg) (i:Nat){a z:Addr}{n:Str}{fs:List Str}(hi:t.c[i]?=some ⟨a,n,z,fs⟩:=by rfl):mg n=some (.ref a):=T.mg _ _ (uc (yK T.parts.1.2.1 hi)).2.1
theorem Txt0.cl (T:Txt0 t K mg) (i:Nat){a z:Addr}{n:Str}{fs:List Str}(hi:t.c[i]?=some ⟨a,n,z,fs⟩:=by rfl):Cls K a:=(uc (yK T.parts.1.2.1 hi)).1
theorem Txt0.mm (T:Txt0 t K mg) (i:Nat){a z:Addr}{n:Str}{fs:List Str}(hi:t.c[i]?=some ⟨a,n,z,fs⟩:=by rfl) (hz:z≠0:=by exact Nat.succ_ne_zero _):Mk K a z:=by
 obtain⟨_,_,h3,h4,h5,_,_,_,h9⟩:=uc (yK T.parts.1.2.1 hi)
 exact⟨h3,by simpa[hz] using h4,h9 hz,h5⟩
theorem Txt0.ty (T:Txt0 t K mg) (i:Nat){a z:Addr}{n:Str}{fs:List Str}(hi:t.c[i]?=some ⟨a,n,z,fs⟩:=by rfl):∀ (H:Hp) (p dx:Addr) (gs:List (Str×V)),H p=some (.ins a dx gs)→TyOf K H (.ref p) (.ref a):=fun H p dx gs e=>by
 obtain⟨h1,_,_,_,_,h6,h7,_⟩:=uc (yK T.parts.1.2.1 hi)
 exact .ins e h1 h6 T.parts.2.2.1 T.parts.2.2.2 h7
theorem Txt0.na (T:Txt0 t K mg) (i j:Nat){a z:Addr}{n f:Str}{fs:List Str}(hi:t.c[i]?=some ⟨a,n,z,fs⟩:=by rfl) (hj:fs[j]?=some f:=by rfl):NoAttr K a f:=(uc (yK T.parts.1.2.1 hi)).2.2.2.2.2.2.2.1 f (List.mem_of_getElem? hj)
theorem Txt0.n (T:Txt0 t K mg) (i:Nat){x:Str}(hi:t.b[i]?=some x:=by rfl):mg x=none:=T.mg _ _ (of_decide_eq_true (yK T.parts.1.2.2.1 hi))
theorem Txt0.k (T:Txt0 t K mg) (i:Nat){x y:Value}{b:Bool}(hi:t.k[i]?=some (x,y,b):=by rfl):kitOne K x y=some b:=of_decide_eq_true (yK T.parts.1.2.2.2 hi)
theorem Txt0.gg (T:Txt0 t K mg) (i:Nat){x:Str}{v:Value}(hi:t.m[i]?=some (x,v):=by rfl):mg x=some v:=T.mg _ _ (of_decide_eq_true (yK T.parts.2.1.1 hi))
end
theorem zbp {t:Tab}(h0:∀ g,bdA t g []) (h1:∀ g a,bdA t g [a]) (h2:∀ g a b,bdA t g [a,b]) (h3:∀ g a b c,bdA t g [a,b,c]) (h4:∀ g a b c d,bdA t g [a,b,c,d]) (h5:∀ g a b c d e,bdA t g [a,b,c,d,e]) (h6:∀ g a b c d e f,bdA t g [a,b,c,d,e,f]) (h7:∀ g a b c d e f i,bdA t g [a,b,c,d,e,f,i]) (h8:∀ g a b c d e f i j,bdA t g [a,b,c,d,e,f,i,j]):∀ (g:FuncData) (us:List Value),us.length≤8→bdA t g us
 |g,[],_=>h0 g
 |g,[a],_=>h1 g a
 |g,[a,b],_=>h2 g a b
 |g,[a,b,c],_=>h3 g a b c
 |g,[a,b,c,d],_=>h4 g a b c d
 |g,[a,b,c,d,e],_=>h5 g a b c d e
 |g,[a,b,c,d,e,f],_=>h6 g a b c d e f
 |g,[a,b,c,d,e,f,i],_=>h7 g a b c d e f i
 |g,[a,b,c,d,e,f,i,j],_=>h8 g a b c d e f i j
 |g,_::_::_::_::_::_::_::_::_::_,h=>by simp at h
end L2
namespace L2
open PySem PySem.Spec PyProof.Rows
theorem mtV {X:Cx}{m:Str}{t:TA}{σ:St}{H:Hp}{Q:VK}{i:Nat}{a C dx f:Addr}{fs:List (Str×V)}{fd:FuncData}{ps:List Str}{k:Nat}{sp:Sp}(hv:σ[i]?=some (some (.ref a))) (hp:H a=some (.ins C dx fs)) (hl:fs.lookup m=none) (hc:Cls X.K C) (hm:Meth X.K C m f)
  (ok:FnOk X.prog X.w X.K X.mg X.base CX0 k f fd ps sp) (hr:Room k X.A) (hb:Binds X.K fd ps []) (h:t σ H fun vs H2=>sp (.ref a::(vs++[])) H2 Q E0):vN X m (Z4 i) t σ H Q:=⟨_,hv,a,C,dx,fs,f,fd,ps,k,sp,rfl,hp,hl,hc,hm,ok,hr,hb,h⟩
theorem ag0 {σ:St}{H:Hp}{R:List V→Hp→Prop}(h:R [] H):Xw σ H R:=h
theorem ag1 {i:Nat}{σ:St}{H:Hp}{v:V}{R:List V→Hp→Prop}(hv:σ[i]?=some (some v)) (h:R [v] H):xl (Z4 i) Xw σ H R:=⟨_,hv,h⟩
theorem cl1 {sp:Sp}{E:XK}{Q:VK}{i:Nat}{σ:St}{H:Hp}{v:V}(hv:σ[i]?=some (some v)) (h:sp [v] H Q E):ZD sp [] E (xl (Z4 i) Xw) σ H Q:=⟨_,hv,h⟩
theorem cl2 {sp:Sp}{E:XK}{Q:VK}{i j:Nat}{σ:St}{H:Hp}{v u:V}(hv:σ[i]?=some (some v)) (hu:σ[j]?=some (some u)) (h:sp [v,u] H Q E):ZD sp [] E (xl (Z4 i) (xl (Z4 j) Xw)) σ H Q:=⟨_,hv,_,hu,h⟩
theorem cl3 {sp:Sp}{E:XK}{Q:VK}{i j l:Nat}{σ:St}{H:Hp}{v u z:V}(hv:σ[i]?=some (some v)) (hu:σ[j]?=some (some u)) (hz:σ[l]?=some (some z)) (h:sp [v,u,z] H Q E):ZD sp [] E (xl (Z4 i) (xl (Z4 j) (xl (Z4 l) Xw))) σ H Q:=⟨_,hv,_,hu,_,hz,h⟩
end L2
namespace K04
open PySem L2
noncomputable def top (i:Nat):Stmt:=PySem.Challenge.pw_beatless_k27_whole_made_ways_are_let_by.main.body.getD i (.Pass ⟨0,0,0,0⟩)
def inC (i j:Nat):Stmt:=inClass (top i) j
def fnT:List Fe:=[⟨77, "is_whole", "is_whole",top 7,["value"],["value"],0⟩,
 ⟨82, "copied", "copied",top 9,["value"],["value"],0⟩,
 ⟨173, "are_parents", "are_parents",top 11,["web", "parents"],["web", "parents", "hand", "parent"],0⟩,
 ⟨180, "come_to_leaders", "come_to_leaders",top 12,["web", "way"],["web", "way", "hand"],0⟩,
 ⟨187, "is_bridge", "is_bridge",top 13,["web", "way", "bridge"],["web", "way", "bridge"],0⟩,
 ⟨194, "are_bridges", "are_bridges",top 14,["web", "way", "bridges"],["web", "way", "bridges", "seen", "bridge"],0⟩,
 ⟨201, "is_grounded", "is_grounded",top 15,["web", "way"],["web", "way"],0⟩,
 ⟨208, "first_joins", "first_joins",top 16,["way", "lines"],["way", "lines", "found", "one", "other", "leaders"],0⟩,
 ⟨215, "lets", "lets",top 17,["web", "way"],["web", "way", "bridged", "leaders"],0⟩,
 ⟨222, "refuse_unlet", "refuse_unlet",top 18,["web", "way"],["web", "way"],0⟩,
 ⟨229, "next_ring", "next_ring",top 19,["web", "left", "parents", "ring"],["web", "left", "parents", "ring", "found", "hand", "other"],0⟩,
 ⟨236, "parents_in_cluster", "parents_in_cluster",top 20,["web", "left", "reach"],["web", "left", "reach", "parents", "ring", "steps", "found"],0⟩,
 ⟨241, "by_clusters", "by_clusters",top 21,["web", "reach"],["web", "reach", "parents", "left", "joins"],0⟩,
 ⟨248, "by_neighbours", "by_neighbours",top 22,["web"],["web"],0⟩,
 ⟨255, "by_tree", "by_tree",top 23,["web"],["web"],0⟩,
 ⟨262, "road_within", "road_within",top 25,["way", "hand", "neighbour"],["way", "hand", "neighbour", "down"],0⟩,
 ⟨269, "road_over", "road_over",top 26,["way", "hand", "neighbour", "bridge"],["way", "hand", "neighbour", "bridge"],0⟩,
 ⟨276, "bridges_by_leaders", "bridges_by_leaders",top 27,["way"],["way", "found", "one", "other"],0⟩,
 ⟨281, "roads_for", "roads_for",top 28,["way", "bridges", "hand", "neighbour"],["way", "bridges", "hand", "neighbour", "leaders"],0⟩,
 ⟨288, "pairs_of", "pairs_of",top 29,["web"],["web", "pairs", "one", "other"],0⟩,
 ⟨295, "roads", "roads",top 30,["web", "way"],["web", "way", "bridges", "paper", "hand", "neighbour"],0⟩,
 ⟨302, "are_wholes", "are_wholes",top 31,["values"],["values", "value"],0⟩,
 ⟨309, "has_just_pairs", "has_just_pairs",top 32,["paper", "pairs"],["paper", "pairs", "key"],0⟩,
 ⟨316, "holds", "holds",top 33,["web", "way", "paper"],["web", "way", "paper", "pairs", "bridges", "hand", "neighbour", "road"],0⟩,
 ⟨323, "are_hands", "are_hands",top 37,["hands"],["hands", "ahead", "hand"],0⟩,
 ⟨330, "is_line", "is_line",top 38,["line", "hands"],["line", "hands"],0⟩,
 ⟨337, "are_lines", "are_lines",top 39,["lines", "hands"],["lines", "hands", "seen", "line"],0⟩,
 ⟨344, "near_by_hand", "near_by_hand",top 40,["hands", "lines"],["hands", "lines", "near", "hand", "one", "other"],0⟩,
 ⟨421, "_law_cell_at", "_law_cell_at",top 43,["_law_script", "_law_k"],["_law_script", "_law_k"],0⟩,
 ⟨428, "_law_draws", "_law_draws",top 44,["_law_cell", "_law_many"],["_law_cell", "_law_many", "_law_found", "_law_rest", "_law_number", "_law_k", "_law_mixed"],0⟩,
 ⟨435, "_law_take", "_law_take",top 45,["_law_xs", "_law_size"],["_law_xs", "_law_size"],0⟩,
 ⟨440, "_law_hands", "_law_hands",top 46,["_law_xs", "_law_most"],["_law_xs", "_law_most", "_law_hand", "_law_found", "_law_k"],0⟩,
 ⟨447, "_law_lines", "_law_lines",top 47,["_law_xs", "_law_hands_here"],["_law_xs", "_law_hands_here", "_law_way", "_law_found", "_law_j", "_law_k", "_law_near_here", "_law_draw", "_law_at"],0⟩,
 ⟨452, "_law_near", "_law_near",top 48,["_law_lines_here", "_law_hand"],["_law_lines_here", "_law_hand", "_law_found"],0⟩,
 ⟨459, "_law_up", "_law_up",top 49,["_law_parents", "_law_hand"],["_law_parents", "_law_hand", "_law_found"],0⟩,
 ⟨464, "_law_lets", "_law_lets",top 50,["_law_hands_here", "_law_lines_here", "_law_parents", "_law_bridges"],["_law_hands_here", "_law_lines_here", "_law_parents", "_law_bridges", "_law_leads", "_law_hand", "_law_one", "_law_other", "_law_joined"],0⟩,
 ⟨469, "_law_right", "_law_right",top 51,["_law_hands_here", "_law_lines_here", "_law_way", "_law_reach"],["_law_hands_here", "_law_lines_here", "_law_way", "_law_reach", "_law_parents", "_law_leads", "_law_hand", "_law_near_here", "_law_joined", "_law_one", "_law_other", "_law_both"],0⟩,
 ⟨474, "_law_pairs", "_law_pairs",top 52,["_law_hands_here", "_law_lines_here"],["_law_hands_here", "_law_lines_here", "_law_found", "_law_hand"],0⟩,
 ⟨481, "_law_two_webs", "_law_two_webs",top 53,["_law_web", "_law_other", "_law_way", "_law_hands_here", "_law_lines_here", "_law_more"],["_law_web", "_law_other", "_law_way", "_law_hands_here", "_law_lines_here", "_law_more", "_law_paper", "_law_told"],0⟩,
 ⟨488, "law", "law",top 54,["_law_script"],["_law_script", "_law_xs", "_law_hands_here", "_law_lines_here", "_law_web", "_law_ways", "_law_reach", "_law_way", "_law_most", "_law_more", "_law_other", "_law_due", "_law_found"],0⟩,
 ⟨96, "__init__", "Way.__init__",inC 10 0,["self", "parents", "bridges"],["self", "parents", "bridges"],162⟩,
 ⟨103, "parent_of", "Way.parent_of",inC 10 1,["self", "hand"],["self", "hand", "each", "parent"],162⟩,
 ⟨110, "all_parents", "Way.all_parents",inC 10 2,["self"],["self"],162⟩,
 ⟨117, "all_bridges", "Way.all_bridges",inC 10 3,["self"],["self"],162⟩,
 ⟨124, "path_up", "Way.path_up",inC 10 4,["self", "hand"],["self", "hand", "path", "above"],162⟩,
 ⟨131, "leader", "Way.leader",inC 10 5,["self", "hand"],["self", "hand"],162⟩,
 ⟨138, "depth_of", "Way.depth_of",inC 10 6,["self", "hand"],["self", "hand"],162⟩,
 ⟨358, "__init__", "Web.__init__",inC 41 0,["self", "hands", "lines"],["self", "hands", "lines"],410⟩,
 ⟨365, "hands", "Web.hands",inC 41 1,["self"],["self"],410⟩,
 ⟨372, "lines", "Web.lines",inC 41 2,["self"],["self"],410⟩,
 ⟨379, "has_hand", "Web.has_hand",inC 41 3,["self", "hand"],["self", "hand"],410⟩,
 ⟨386, "has_line", "Web.has_line",inC 41 4,["self", "one", "other"],["self", "one", "other"],410⟩,
 ⟨393, "neighbours", "Web.neighbours",inC 41 5,["self", "hand"],["self", "hand"],410⟩]
def tbT:Tab:={ f:=fnT,c:=[⟨162, "Way",96,["own_parents", "own_bridges"]⟩,⟨410, "Web",358,["own_hands", "own_lines", "near"]⟩],b:=["len", "int", "range", "isinstance", "list", "dict", "sorted", "bool", "tuple", "reversed", "ValueError"],k:=[(.type "int",.type "int",true),(.type "int",.type "bool",false),(.type "list",.type "list",true),(.type "tuple",.type "tuple",true),(.type "tuple",.type "list",false),(.type "dict",.type "list",false),(.type "dict",.type "tuple",false),(.type "dict",.type "dict",true),(.type "int",.type "list",false),(.type "int",.type "tuple",false),(.type "int",.type "dict",false),(.type "NoneType",.type "list",false),(.type "NoneType",.type "tuple",false),(.type "NoneType",.type "dict",false),(.type "NoneType",.type "int",false),(.type "str",.type "int",false),(.ref 162,.ref 162,true),(.type "bool",.type "bool",true)],m:=[("MOST_HANDS",.int 12 599),("LAST_HAND",.int 99 601)],t:=[],x:=[],y:=[],u:=[] }
theorem scA:fnT.all scB=true:=by decide +kernel
theorem scp (i:Nat){a c:Addr}{n q:Str}{s:Stmt}{ps N:List Str}(hi:fnT[i]?=some ⟨a,n,q,s,ps,N,c⟩:=by rfl):FnScope N ps (defScope s):=zcf (yK scA hi)
abbrev Ad:=Unit
abbrev Txt (w:World) (K:PySem.W.Frag) (mg:Str→Option Value) (_:Ad):Prop:=Txt0 tbT K mg
structure Hs (hs:LI):Prop where
 l1:1≤hs.length
 l12:hs.length≤12
 up:hs.Pairwise (· < ·)
 lo:∀ h∈hs,0≤h
 hi:∀ h∈hs,h≤99
structure Ls (hs:LI) (ls:LP):Prop where
 nd:ls.Nodup
 ok:∀ p∈ls,p.1∈hs∧p.2∈hs∧p.1<p.2
 le:ls.length≤66
def Adj (ls:LP) (x y:Int):Prop:=(x,y)∈ls∨(y,x)∈ls
theorem Xu {as:LI}(h:as.Pairwise (· < ·)):as.Nodup:=h.imp fun {a b} z=>by omega
theorem xn:∀ {as bs:LI},as.Nodup→(∀ x∈as,x∈bs)→as.length≤bs.length
 |[],_,_,_=>Nat.zero_le _
 |a::as,bs,hn,hs=>by
  rw[List.nodup_cons] at hn
  have ha:=hs a List.mem_cons_self
  have ih:=xn (as:=as) (bs:=bs.erase a) hn.2 fun x hx=>by
   have ne:x≠a:=fun z=>hn.1 (by rw[← z];exact hx)
   exact(List.mem_erase_of_ne ne).mpr (hs x (List.mem_cons_of_mem _ hx))
  rw[List.length_erase_of_mem ha] at ih
  have:=List.length_pos_of_mem ha
  rw[List.length_cons];omega
def nbs (ls:LP) (h:Int):LI:=ls.flatMap fun p=>(if p.1=h then[p.2] else[])++if p.2=h then[p.1] else[]
theorem mem_nbs {ls:LP}{h x:Int}:x∈nbs ls h↔Adj ls h x:=by
 unfold nbs Adj
 rw[List.mem_flatMap]
 constructor
 ·rintro⟨⟨u,v⟩,hp,hx⟩
  dsimp only at hx
  rw[List.mem_append] at hx
  rcases hx with hx | hx
  ·split at hx
   ·rename_i e;subst e
    rw[List.mem_singleton] at hx;subst hx;exact .inl hp
   ·cases hx
  ·split at hx
   ·rename_i e;subst e
    rw[List.mem_singleton] at hx;subst hx;exact .inr hp
   ·cases hx
 ·rintro(h1 | h1)
  ·exact⟨_,h1,by simp⟩
  ·exact⟨_,h1,by simp⟩
theorem Yy {h:Int}:∀ {ls:LP},(nbs ls h).length≤2*ls.length
 |[]=>Nat.le_refl _
 |p::ls=>by
  have ih:=Yy (h:=h) (ls:=ls)
  unfold nbs at ih ⊢
  rw[List.flatMap_cons,List.length_append,List.length_append,List.length_cons]
  have h1:(if p.1=h then[p.2] else[]).length≤1:=by split<;>simp
  have h2:(if p.2=h then[p.1] else[]).length≤1:=by split<;>simp
  omega
theorem XN {ls:LP}{p:Int×Int}{h:Int}:nbs (ls++[p]) h=nbs ls h++((if p.1=h then[p.2] else[])++if p.2=h then[p.1] else[]):=by
 unfold nbs
 rw[List.flatMap_append,List.flatMap_cons,List.flatMap_nil,List.append_nil]
theorem XM {ls:LP}{p:Int×Int}{i:Nat}{h:Int}(e:ls[i]?=some p):nbs (ls.take (i+1)) h=nbs (ls.take i) h++((if p.1=h then[p.2] else[])++if p.2=h then[p.1] else[]):=by
 rw[List.take_add_one,e]
 exact XN
def LnAt (H:Hp) (rs:List V) (ls:LP):Prop:=rs.length=ls.length∧∀ (i:Nat) r p,rs[i]?=some r→ls[i]?=some p→∃ q,r=.ref q∧H q=some (.tup [.int p.1,.int p.2])
theorem LnAt.same {H H':Hp}{rs:List V}{ls:LP}(h:LnAt H rs ls) (s:Same H H'):LnAt H' rs ls:=⟨h.1,fun i r p h1 h2=>by
 obtain⟨q,e,t⟩:=h.2 i r p h1 h2
 exact⟨q,e,s _ _ t⟩⟩
theorem LnAt.get {H:Hp}{rs:List V}{ls:LP}(h:LnAt H rs ls){i:Nat}{r:V}(e:rs[i]?=some r):∃ p q,ls[i]?=some p∧r=.ref q∧H q=some (.tup [.int p.1,.int p.2]):=by
 have hi:i<ls.length:=by rw[← h.1];exact(List.getElem?_eq_some_iff.mp e).1
 have hp:ls[i]?=some ls[i]:=by simp[hi]
 obtain⟨q,e1,e2⟩:=h.2 i r _ e hp
 exact⟨_,q,hp,e1,e2⟩
theorem yP {x:Int}:∀ {ns:LI},inV (.int x) (ns.map V.int)=decide (x∈ns)
 |[]=>by simp[inV]
 |n::ns=>by
  have ih:=yP (x:=x) (ns:=ns)
  unfold inV at ih ⊢
  rw[List.map_cons,List.any_cons,ih]
  show((n == x)||decide (x∈ns))=decide (x∈n::ns)
  by_cases e:n=x
  ·simp[e]
  ·have e':¬ x=n:=fun z=>e z.symm
   simp[e,e']
theorem yu (ns:LI):(ns.map V.int).all wG=true:=by
 rw[List.all_eq_true]
 intro v hv
 obtain⟨x,_,rfl⟩:=List.mem_map.mp hv
 rfl
section
variable {P:Program}{w:World}{K:PySem.W.Frag}{mg:Str→Option Value}{base:Heap}{a:Ad}
def vk:Sp:=fun vs H Q _=>∃ i:Int,vs=[.int i]∧Q (.bl true) H
theorem vw (T:Txt w K mg a):FnOk P w K mg base CX0 1 77 (dK K 77) ["value"] vk:=by
 refine(T.fn 0 rfl).ok (scp 0 rfl) (fun vs H Q E h=>?_) (fun cdv A outer s H vs Q E hr h=>?_)
 ·obtain⟨i,rfl,_⟩:=h
  rfl
 ·obtain⟨i,rfl,k⟩:=h
  refine⟨_,(yb (yQ (Zh (yq zY (by rfl) (T.n 3 rfl) zA (xV (pv 0) (xV (wW (T.n 1 rfl) WZ) yf))) (Yq (WB (yq zY (by rfl) (T.n 3 rfl) zA (xV (pv 0) (xV (wW (T.n 7 rfl) uP) yf)))))))),?_⟩
  refine⟨_,rfl,_,_,_,_,_,rfl,rfl,.int i,(T.k 0 rfl),_,rfl,wa ?_⟩
  exact⟨_,rfl,_,_,_,_,_,rfl,rfl,.int i,(T.k 1 rfl),_,rfl,k⟩
def Yd:Sp:=fun vs H Q _=>∃ (h:Addr) (hs:LI),vs=[.ref h]∧H h=some (.lst (hs.map V.int))∧Hs hs∧Q (.bl true) H
theorem XG (T:Txt w K mg a):FnOk P w K mg base CX0 2 323 (dK K 323) ["hands"] Yd:=by
 have c_is_whole:Callee P w K mg base "is_whole" 77 (dK K 77) ["value"] 1 vk:=⟨vw T,(T.g 0 rfl),(T.fn 0 rfl).kp,(T.bi 0 rfl)⟩
 refine(T.fn 24 rfl).ok (scp 24 rfl) (fun vs H Q E h=>?_) (fun cdv A outer s H vs Q E hr h=>?_)
 ·obtain⟨h,hs,rfl,_⟩:=h
  rfl
 ·obtain⟨h,hs,rfl,hh,W,k⟩:=h
  have w1:=W.l1
  have w12:=W.l12
  refine⟨_,(zS (vo (PW.pt (vT (xf (xc (yq zY (by rfl) (T.n 3 rfl) zA (xV (pv 0) (xV (wW (T.n 4 rfl) bt_list) yf))))) (vT (xP vt (yq zF (by rfl) (T.n 0 rfl) yj (xV (pv 0) yf)) xg (zC _)) (wV (xP v0 (yq zF (by rfl) (T.n 0 rfl) yj (xV (pv 0) yf)) (uz (v:=.int 12) rfl (T.gg 0 rfl) ⟨_,rfl⟩) (zC _))))))
    (yb (yQ wM))
    yO)
   (zS (vU (i:=1) (scp 24 rfl).nd rfl (Or.inl rfl) (UH xU xg))
   (zS (vV PassesOwn.never rfl (wy (pv 0)) (xQ (i:=2) (scp 24 rfl).nd rfl (Or.inl rfl))
    (zS (vo (PW.pt (vT (xf (xc (WD c_is_whole hr.m (xV (pv 2) yf)))) (vT (xP zaW (pv 2) (pv 1) (zC _)) (wV (xP v0 (pv 2) (uz (v:=.int 99) rfl (T.gg 1 rfl) ⟨_,rfl⟩) (zC _))))))
     (yb (yQ wM))
     yO)
    (yb (vU (i:=1) (scp 24 rfl).nd rfl (Or.inl rfl) (pv 2)))))
   (yb (yQ wM))))),?_⟩
  refine⟨_,rfl,_,_,_,_,_,rfl,rfl,.lst hh,(T.k 2 rfl),_,rfl,iteN rfl ?_⟩
  refine⟨_,rfl,h,_,rfl,.inl (SqL.of hh),_,_,rfl,rfl,_,rfl,iteN (decide_eq_false (by rw[List.length_map];omega)) ?_⟩
  refine⟨_,rfl,h,_,rfl,.inl (SqL.of hh),_,_,rfl,rfl,_,rfl,iteN (decide_eq_false (by rw[List.length_map];omega)) ?_⟩
  refine⟨1,rfl,_,rfl,h,rfl,⟨_,SqL.of hh⟩,?_⟩
  refine for_list (K:=K) (a:=h) (xs:=hs.map V.int) (fun i σ H'=>H'=H∧∃ (m:Int) (o:Option V),σ=[some (.ref h),some (.int m),o]∧-1≤m∧∀ j x,i≤j→hs[j]?=some x→m<x) ?_ ?_ ?_ ?_
  ·refine⟨rfl,-1,none,rfl,Int.le_refl _,fun j x _ hx=>?_⟩
   have:=W.lo x (List.mem_of_getElem? hx)
   omega
  ·rintro i σ H' _ ⟨rfl,_⟩
   exact SqL.of hh
  ·rintro i x σ H' hi ⟨rfl,m,o,rfl,hm,hall⟩
   rw[List.getElem?_map] at hi
   obtain⟨y,hy,rfl⟩:=Option.map_eq_some_iff.mp hi
   have y1:=hall i y (Nat.le_refl _) hy
   have y2:=W.hi y (List.mem_of_getElem? hy)
   refine⟨_,rfl,y,rfl,_,rfl,iteN rfl ?_⟩
   refine⟨_,rfl,_,rfl,_,_,rfl,rfl,_,rfl,iteN (decide_eq_false (by omega)) ?_⟩
   refine⟨_,rfl,_,_,rfl,rfl,_,rfl,iteN (decide_eq_false (by omega)) ?_⟩
   refine⟨_,rfl,rfl,y,_,rfl,by omega,fun j z hj hz=>?_⟩
   have hlt:i<j:=by omega
   obtain⟨b1,e1⟩:=List.getElem?_eq_some_iff.mp hy
   obtain⟨b2,e2⟩:=List.getElem?_eq_some_iff.mp hz
   rw[← e1,← e2]
   exact List.pairwise_iff_getElem.mp W.up i j b1 b2 hlt
  ·rintro σ H' ⟨rfl,_⟩
   exact k
def spLine:Sp:=fun vs H Q _=>∃ (q h:Addr) (hs:LI) (p:Int×Int),vs=[.ref q,.ref h]∧H q=some (.tup [.int p.1,.int p.2])∧H h=some (.lst (hs.map V.int))∧(p.1∈hs∧p.2∈hs∧p.1<p.2)∧Q (.bl true) H
theorem VF (T:Txt w K mg a):FnOk P w K mg base CX0 2 330 (dK K 330) ["line", "hands"] spLine:=by
 have c_is_whole:Callee P w K mg base "is_whole" 77 (dK K 77) ["value"] 1 vk:=⟨vw T,(T.g 0 rfl),(T.fn 0 rfl).kp,(T.bi 0 rfl)⟩
 refine(T.fn 25 rfl).ok (scp 25 rfl) (fun vs H Q E h=>?_) (fun cdv A outer s H vs Q E hr h=>?_)
 ·obtain⟨q,h,hs,p,rfl,_⟩:=h
  rfl
 ·obtain⟨q,h,hs,⟨x,y⟩,rfl,hq,hh,⟨h1,h2,h3⟩,k⟩:=h
  dsimp only at hq h1 h2 h3
  refine⟨_,(zS (vo (PW.pt (vT (xf (xc (yq zY (by rfl) (T.n 3 rfl) zA (xV (pv 0) (xV (wW (T.n 8 rfl) xb) yf))))) (wV (xP x6 (yq zF (by rfl) (T.n 0 rfl) yj (xV (pv 0) yf)) xg (zC _)))))
    (yb (yQ wM))
    yO)
   (zS (vo (PW.pt (vT (xf (xc (WD c_is_whole hr.m (yU (uy ym (pv 0) xg (fun _ _=>rfl)) yf)))) (wV (xf (xc (WD c_is_whole hr.m (yU (uy ym (pv 0) xg (fun _ _=>rfl)) yf)))))))
    (yb (yQ wM))
    yO)
   (yb (yQ (Zh (vq xB (uy ym (pv 0) xg (fun _ _=>rfl)) (pv 1) (by with_unfolding_all rfl)) (Zh (vq xB (uy ym (pv 0) xg (fun _ _=>rfl)) (pv 1) (by with_unfolding_all rfl)) (Yq (vq vt (uy ym (pv 0) xg (fun _ _=>rfl)) (uy ym (pv 0) xg (fun _ _=>rfl)) (zC _))))))))),?_⟩
  refine⟨_,rfl,_,_,_,_,_,rfl,rfl,.tup hq,(T.k 3 rfl),_,rfl,iteN rfl ?_⟩
  refine⟨_,rfl,q,_,rfl,.inr (SqT.of hq),rfl,_,rfl,iteN rfl ?_⟩
  refine⟨_,rfl,q,_,0,_,rfl,rfl,SqT.of hq,rfl,x,rfl,_,rfl,iteN rfl ?_⟩
  refine⟨_,rfl,q,_,1,_,rfl,rfl,SqT.of hq,rfl,y,rfl,_,rfl,iteN rfl ?_⟩
  refine⟨_,rfl,q,_,0,_,rfl,rfl,SqT.of hq,rfl,_,rfl,h,_,rfl,.inl (SqL.of hh),rfl,yu hs,_,rfl,iteB (by show inV (.int x) _=true;rw[yP];exact decide_eq_true h1) ?_⟩
  refine⟨_,rfl,q,_,1,_,rfl,rfl,SqT.of hq,rfl,_,rfl,h,_,rfl,.inl (SqL.of hh),rfl,yu hs,_,rfl,iteB (by show inV (.int y) _=true;rw[yP];exact decide_eq_true h2) ?_⟩
  refine⟨_,rfl,q,_,0,_,rfl,rfl,SqT.of hq,rfl,_,rfl,q,_,1,_,rfl,rfl,SqT.of hq,rfl,_,_,rfl,rfl,?_⟩
  show Q (.bl (decide (x<y))) H
  rw[decide_eq_true h3]
  exact k
section
variable {κ:Type} [DecidableEq κ]
theorem wq {kvs:List (κ×V)}{k:κ}:(yE kvs k).isSome=decide (k∈kvs.map (·.1)):=by
 rw[← yM]
 by_cases h:k∈kvs.map (·.1)
 ·rw[decide_eq_true h,List.any_eq_true]
  obtain⟨p,hp,rfl⟩:=List.mem_map.mp h
  exact⟨p,hp,decide_eq_true rfl⟩
 ·rw[decide_eq_false h,List.any_eq_false]
  intro p hp e
  exact h (List.mem_map.mpr ⟨p,hp,of_decide_eq_true e⟩)
theorem valV_no {kvs:List (κ×V)}{k:κ}(h:k∉kvs.map (·.1)):(yE kvs k).isSome=false:=by rw[wq];exact decide_eq_false h
theorem putK_new {kvs:List (κ×V)}{k:κ}{v:V}(h:k∉kvs.map (·.1)):putK kvs k v=kvs++[(k,v)]:=by
 unfold putK
 rw[if_neg]
 rw[yM,wq,decide_eq_true_iff]
 exact h
end
theorem _root_.L2.Same.updF {p:Addr}{H H':Hp}{o:HO}(x:Same H H') (h:H p=none):Same H (L2.upd H' p o):=fun b u e=>by
 rw[upd_ne (ne_of_none e h)];exact x b u e
noncomputable abbrev xo (p:Int×Int):List Key:=[Sum.inl p.1,Sum.inl p.2]
theorem y9 {p q:Int×Int}(h:xo p=xo q):p=q:=by
 obtain⟨a,b⟩:=p
 obtain⟨c,d⟩:=q
 simp[xo] at h
 rw[h.1,h.2]
theorem vx {α:Type}{xs:List α}{i:Nat}{x:α}(h:xs.Nodup) (e:xs[i]?=some x):x∉xs.take i:=by
 intro m
 obtain⟨j,hj,ej⟩:=List.getElem_of_mem m
 obtain⟨hi,ei⟩:=List.getElem?_eq_some_iff.mp e
 rw[List.getElem_take] at ej
 rw[List.length_take] at hj
 have:=(List.nodup_iff_pairwise_ne.mp h)
 exact List.pairwise_iff_getElem.mp this j i (by omega) hi (by omega) (ej.trans ei.symm)
def Yb:Sp:=fun vs H Q _=>∃ (l h:Addr) (rs:List V) (hs:LI) (ls:LP),vs=[.ref l,.ref h]∧H l=some (.lst rs)∧LnAt H rs ls∧H h=some (.lst (hs.map V.int))∧Ls hs ls∧∀ H',Same H H'→Q (.bl true) H'
theorem XF (T:Txt w K mg a):FnOk P w K mg base CX0 3 337 (dK K 337) ["lines", "hands"] Yb:=by
 have c_is_line:Callee P w K mg base "is_line" 330 (dK K 330) ["line", "hands"] 2 spLine:=⟨VF T,(T.g 25 rfl),(T.fn 25 rfl).kp,(T.bi 25 rfl)⟩
 refine(T.fn 26 rfl).ok (scp 26 rfl) (fun vs H Q E h=>?_) (fun cdv A outer s H vs Q E hr h=>?_)
 ·obtain⟨l,h,rs,hs,ls,rfl,_⟩:=h
  rfl
 ·obtain⟨l,h,rs,hs,ls,rfl,hl,hrs,hh,L,k⟩:=h
  have l66:=L.le
  have hu:=yA hr
  refine⟨_,(zS (vo (xf (xc (yq zY (by rfl) (T.n 3 rfl) zA (xV (pv 0) (xV (wW (T.n 4 rfl) bt_list) yf)))))
    (yb (yQ wM))
    yO)
   (zS (vU (i:=2) (scp 26 rfl).nd rfl (Or.inl rfl) Zf)
   (zS (vV PassesOwn.never rfl (wy (pv 0)) (xQ (i:=3) (scp 26 rfl).nd rfl (Or.inl rfl))
    (zS (vo (PW.pt (vT (xf (xc (WD c_is_line hr.m (xV (pv 3) (xV (pv 1) yf))))) (wV (Wz (WE hu (pv 3) (pv 2))))))
     (yb (yQ wM))
     yO)
    (yb (uw hu (pv 2) (pv 3) wM rfl))))
   (yb (yQ wM))))),?_⟩
  refine⟨_,rfl,_,_,_,_,_,rfl,rfl,.lst hl,(T.k 2 rfl),_,rfl,iteN rfl ?_⟩
  refine fun d hd=>?_
  refine⟨_,rfl,l,rfl,⟨_,SqL.of (Same.new hd _ _ hl)⟩,?_⟩
  refine for_list (K:=K) (a:=l) (xs:=rs) (fun i σ H'=>∃ (kvs:List (List Key×V)) (o:Option V),σ=[some (.ref l),some (.ref h),some (.ref d),o]∧H' d=some (.dT kvs)∧kvs.map (·.1)=(ls.take i).map xo∧Same H H') ?_ ?_ ?_ ?_
  ·exact⟨[],none,rfl,upd_same,by simp,Same.new hd⟩
  ·rintro i σ H' _ ⟨kvs,o,_,_,_,sm⟩
   exact SqL.of (sm _ _ hl)
  ·rintro i x σ H' hi ⟨kvs,o,rfl,hd',hk,sm⟩
   obtain⟨p,q,hp,rfl,hq⟩:=(hrs.same sm).get hi
   have hm:p∈ls:=List.mem_of_getElem? hp
   refine⟨_,rfl,_,rfl,q,h,hs,p,rfl,hq,sm _ _ hh,L.ok p hm,_,rfl,iteN rfl ?_⟩
   have hnew:xo p∉kvs.map (·.1):=by
    rw[hk]
    intro z
    obtain⟨p',m',e'⟩:=List.mem_map.mp z
    rw[y9 e'] at m'
    exact vx L.nd hp m'
   have hz:kvs.length≤1000:=by
    have:=congrArg List.length hk
    rw[List.length_map,List.length_map,List.length_take] at this
    omega
   refine⟨_,rfl,_,rfl,d,_,rfl,DGet.t (k:=xo p) hd' hq,_,rfl,iteN ?_ ?_⟩
   ·exact valV_no hnew
   ·refine⟨_,rfl,_,rfl,d,_,rfl,DPut.t (k:=xo p) hd' hq (zu hz),?_⟩
    refine⟨_,_,rfl,upd_same,?_,sm.updF hd⟩
    rw[putK_new hnew,List.map_append,hk,List.take_add_one,hp,List.map_append]
    rfl
  ·rintro σ H' ⟨kvs,o,_,_,_,sm⟩
   exact k H' sm
def tab (ad:Int→Addr) (us:LI):List (Key×V):=us.map fun h=>(Sum.inl h,V.ref (ad h))
theorem Xv {ad:Int→Addr}{us:LI}:(tab ad us).map (·.1)=us.map Sum.inl:=by
 unfold tab;rw[List.map_map];rfl
theorem Wo {ad:Int→Addr}{x:Int}:∀ {us:LI},x∈us→yE (tab ad us) (Sum.inl x:Key)=some (V.ref (ad x))
 |u::us,h=>by
  show yE ((Sum.inl u,V.ref (ad u))::tab ad us) _=_
  by_cases e:u=x
  ·subst e;rw[xw rfl]
  ·rw[xx (fun z=>e (by injection z)),Wo]
   rcases List.mem_cons.mp h with z | z
   ·exact absurd z.symm e
   ·exact z
theorem wu {H:Hp}{d:Addr}{ad:Int→Addr}{us:LI}{x:Int}(e:H d=some (.dK (tab ad us))) (h:x∈us):DGet H d (V.int x) (some (V.ref (ad x))):=by
 have:=DGet.k (k:=Sum.inl x) e
 rw[Wo h] at this
 exact this
theorem uI {x:Int}{us:LI}:(Sum.inl x:Key)∈us.map (Sum.inl:Int→Key)↔x∈us:=by
 rw[List.mem_map]
 exact⟨fun⟨y,h,e⟩=>by injection e with e;exact e ▸ h,fun h=>⟨x,h,rfl⟩⟩
noncomputable def zao (ad:Int→Addr) (y:Int) (p:Addr):Int→Addr:=fun x=>if x=y then p else ad x
theorem putA_at {ad:Int→Addr}{x y:Int}{p:Addr}(e:x=y):zao ad y p x=p:=if_pos e
theorem putA_ne {ad:Int→Addr}{x y:Int}{p:Addr}(e:¬ x=y):zao ad y p x=ad x:=if_neg e
structure Near (H:Hp) (d:Addr) (hs:LI) (ls:LP) (ad:Int→Addr):Prop where
 d:H d=some (.dK (tab ad hs))
 nb:∀ h∈hs,H (ad h)=some (.lst ((nbs ls h).map V.int))
theorem Near.same {H H':Hp}{d:Addr}{hs:LI}{ls:LP}{ad:Int→Addr}(n:Near H d hs ls ad) (s:Same H H'):Near H' d hs ls ad:=⟨s _ _ n.d,fun h m=>s _ _ (n.nb h m)⟩
def Wu:Sp:=fun vs H Q _=>∃ (h l:Addr) (rs:List V) (hs:LI) (ls:LP),vs=[.ref h,.ref l]∧H h=some (.lst (hs.map V.int))∧H l=some (.lst rs)∧LnAt H rs ls∧Hs hs∧Ls hs ls ∧
 ∀ (d:Addr) (ad:Int→Addr) H',Same H H'→H d=none→(∀ x∈hs,H (ad x)=none)→Near H' d hs ls ad→Q (.ref d) H'
theorem VC (T:Txt w K mg a):FnOk P w K mg base CX0 1 344 (dK K 344) ["hands", "lines"] Wu:=by
 refine(T.fn 27 rfl).ok (scp 27 rfl) (fun vs H Q E h=>?_) (fun cdv A outer s H vs Q E hr h=>?_)
 ·obtain⟨h,l,rs,hs,ls,rfl,_⟩:=h
  rfl
 ·obtain⟨h,l,rs,hs,ls,rfl,hh,hl,hrs,W,L,k⟩:=h
  have l66:=L.le
  have l12:=W.l12
  have hu:=yA hr
  refine⟨_,(zS (vU (i:=2) (scp 27 rfl).nd rfl (Or.inl rfl) Zg)
   (zS (vV PassesOwn.never rfl (wy (pv 0)) (xQ (i:=3) (scp 27 rfl).nd rfl (Or.inl rfl))
    (yb (uw hu (pv 2) (pv 3) (WC yf) rfl)))
   (zS (vV PassesOwn.never rfl (wy (pv 1)) (WA rfl (vp (xQ (i:=4) (scp 27 rfl).nd rfl (Or.inl rfl)) (vp (xQ (i:=5) (scp 27 rfl).nd rfl (Or.inl rfl)) Yo)))
    (zS (uv (Vy PySem.F.plainAttrs_list PySem.F.slot_list_append PySem.F.type_list_append zU (uA hu (pv 2) (pv 4) (fun _ _=>rfl)) (xV (pv 5) yf)))
    (yb (uv (Vy PySem.F.plainAttrs_list PySem.F.slot_list_append PySem.F.type_list_append zU (uA hu (pv 2) (pv 5) (fun _ _=>rfl)) (xV (pv 4) yf))))))
   (yb (yQ (pv 2)))))),?_⟩
  refine fun d hd=>?_
  refine⟨_,rfl,h,rfl,⟨_,SqL.of (Same.new hd _ _ hh)⟩,?_⟩
  refine for_list (K:=K) (a:=h) (xs:=hs.map V.int) (fun i σ H'=>∃ (ad:Int→Addr) (o:Option V),σ=[some (.ref h),some (.ref l),some (.ref d),o,none,none]∧H' d=some (.dK (tab ad (hs.take i))) ∧
   (∀ x∈hs.take i,H' (ad x)=some (.lst [])∧H (ad x)=none)∧(∀ x∈hs.take i,∀ y∈hs.take i,ad x=ad y→x=y)∧Same H H') ?_ ?_ ?_ ?_
  ·exact⟨fun _=>0,none,rfl,upd_same,fun x hx=>by simp at hx,fun x hx=>by simp at hx,Same.new hd⟩
  ·rintro i σ H' _ ⟨ad,o,_,_,_,_,sm⟩
   exact SqL.of (sm _ _ hh)
  ·rintro i x σ H' hi ⟨ad,o,rfl,hd',hat,hinj,sm⟩
   rw[List.getElem?_map] at hi
   obtain⟨y,hy,rfl⟩:=Option.map_eq_some_iff.mp hi
   have hnew:y∉hs.take i:=vx (Xu W.up) hy
   refine⟨(by show 0≤sizeLine;decide),fun p hp=>?_⟩
   have hpd:p≠d:=fun z=>by rw[z,hd'] at hp;cases hp
   have hd2:(upd H' p (.lst [])) d=some (.dK (tab ad (hs.take i))):=by rw[upd_ne hpd.symm];exact hd'
   refine⟨_,rfl,_,rfl,d,_,rfl,DPut.k (k:=Sum.inl y) hd2 (zu ?_),?_⟩
   ·unfold tab
    rw[List.length_map,List.length_take];omega
   ·have et:hs.take (i+1)=hs.take i++[y]:=by rw[List.take_add_one,hy];rfl
    have hp0:H p=none:=sm.free hp
    have hne:∀ x∈hs.take i,ad x≠p:=fun x hx z=>by
     have:=(hat x hx).1
     rw[z,hp] at this;cases this
    have had:∀ x∈hs.take i,ad x≠d:=fun x hx z=>by
     have:=(hat x hx).1
     rw[z,hd'] at this;cases this
    refine⟨zao ad y p,_,rfl,?_,?_,?_,(sm.updF hp0).updF hd⟩
    ·rw[upd_same,K04.putK_new (by rw[Xv,uI];exact hnew),et]
     unfold tab
     rw[List.map_append]
     congr 3
     ·refine List.map_congr_left fun x hx=>?_
      rw[putA_ne (fun z=>hnew (by rw[← z];exact hx))]
     ·show _=[(Sum.inl y,V.ref (zao ad y p y))]
      rw[putA_at rfl]
    ·intro x hx
     rw[et,List.mem_append,List.mem_singleton] at hx
     by_cases e:x=y
     ·rw[putA_at e,upd_ne hpd,upd_same]
      exact⟨rfl,hp0⟩
     ·rw[putA_ne e]
      have hx:=hx.resolve_right e
      rw[upd_ne (had x hx),upd_ne (hne x hx)]
      exact hat x hx
    ·intro x hx z hz
     rw[et,List.mem_append,List.mem_singleton] at hx hz
     by_cases e1:x=y
     ·by_cases e2:z=y
      ·intro _;rw[e1,e2]
      ·rw[putA_at e1,putA_ne e2]
       intro q;exact absurd q.symm (hne z (hz.resolve_right e2))
     ·by_cases e2:z=y
      ·rw[putA_ne e1,putA_at e2]
       intro q;exact absurd q (hne x (hx.resolve_right e1))
      ·rw[putA_ne e1,putA_ne e2]
       exact hinj x (hx.resolve_right e1) z (hz.resolve_right e2)
  ·rintro σ H1 ⟨ad,o,rfl,hd',hat,hinj,sm⟩
   rw[List.length_map,List.take_length] at hd' hat hinj
   refine⟨_,rfl,l,rfl,⟨_,SqL.of (sm _ _ hl)⟩,?_⟩
   refine for_list (K:=K) (a:=l) (xs:=rs) (fun i σ H'=>∃ (o1 o2:Option V),σ=[some (.ref h),some (.ref l),some (.ref d),o,o1,o2]∧Near H' d hs (ls.take i) ad∧Same H H') ?_ ?_ ?_ ?_
   ·exact⟨none,none,rfl,⟨hd',fun x hx=>by rw[List.take_zero];exact(hat x hx).1⟩,sm⟩
   ·rintro i σ H' _ ⟨o1,o2,_,_,sm'⟩
    exact SqL.of (sm' _ _ hl)
   ·rintro i x σ H' hi ⟨o1,o2,rfl,N,sm'⟩
    obtain⟨⟨x,y⟩,q,hp,rfl,hq⟩:=(hrs.same sm').get hi
    obtain⟨hx,hy,hxy⟩:=L.ok _ (List.mem_of_getElem? hp)
    dsimp only at hq hx hy hxy
    refine⟨q,_,rfl,SqT.of hq,rfl,_,_,rfl,_,_,rfl,rfl,?_⟩
    have len:∀ z,((nbs (ls.take i) z).map V.int).length<sizeLine:=fun z=>by
     rw[List.length_map]
     have:=Yy (h:=z) (ls:=ls.take i)
     rw[List.length_take] at this
     exact zu (by omega)
    have hdx:ad x≠d:=fun z=>by
     have:=N.nb x hx
     rw[z,N.d] at this;cases this
    have hdy:ad y≠d:=fun z=>by
     have:=N.nb y hy
     rw[z,N.d] at this;cases this
    have hne:ad y≠ad x:=fun z=>by have:=hinj y hy x hx z;omega
    refine⟨_,rfl,_,rfl,d,V.ref (ad x),rfl,wu N.d hx,.inl ⟨rfl,_,SqL.of (N.nb x hx)⟩,_,rfl,_,_,_,rfl,rfl,N.nb x hx,len x,?_⟩
    have nd2:(upd H' (ad x) (.lst ((nbs (ls.take i) x).map V.int++[V.int y]))) d=some (.dK (tab ad hs)):=by rw[upd_ne hdx.symm];exact N.d
    have ny2:(upd H' (ad x) (.lst ((nbs (ls.take i) x).map V.int++[V.int y]))) (ad y)=some (.lst ((nbs (ls.take i) y).map V.int)):=by rw[upd_ne hne];exact N.nb y hy
    refine⟨_,rfl,_,rfl,d,V.ref (ad y),rfl,wu nd2 hy,.inl ⟨rfl,_,SqL.of ny2⟩,_,rfl,_,_,_,rfl,rfl,ny2,len y,?_⟩
    refine⟨_,_,rfl,⟨?_,fun z hz=>?_⟩,(sm'.updF (hat x hx).2).updF (hat y hy).2⟩
    ·rw[upd_ne hdy.symm];exact nd2
    ·rw[XM hp]
     by_cases e2:z=y
     ·subst e2
      rw[upd_same,if_neg (by show ¬ x=z;omega),if_pos rfl,List.map_append]
      rfl
     ·rw[upd_ne (fun q=>e2 (hinj z hz y hy q))]
      by_cases e1:z=x
      ·subst e1
       rw[upd_same,if_pos rfl,if_neg (by show ¬ y=z;omega),List.map_append]
       rfl
      ·rw[upd_ne (fun q=>e1 (hinj z hz x hx q)),if_neg (fun q=>e1 q.symm),if_neg (fun q=>e2 q.symm),List.append_nil,List.append_nil]
       exact N.nb z hz
   ·rintro σ H' ⟨o1,o2,rfl,N,sm'⟩
    rw[hrs.1,List.take_length] at N
    exact⟨_,rfl,k d ad H' sm' hd (fun x hx=>(hat x hx).2) N⟩
theorem Near.ext {H H':Hp}{d p dx C:Addr}{fs:List (Str×V)}{hs:LI}{ls:LP}{ad:Int→Addr}(n:Near H d hs ls ad) (hp:H p=some (.ins C dx fs)) (s:Ext p H H'):Near H' d hs ls ad :=
 ⟨s _ _ n.d (fun z=>by rw[← z,n.d] at hp;cases hp),fun h m=>s _ _ (n.nb h m) (fun z=>by rw[← z,n.nb h m] at hp;cases hp)⟩
theorem LnAt.ext {H H':Hp}{p dx C:Addr}{fs:List (Str×V)}{rs:List V}{ls:LP}(h:LnAt H rs ls) (hp:H p=some (.ins C dx fs)) (s:Ext p H H'):LnAt H' rs ls:=⟨h.1,fun i r q h1 h2=>by
 obtain⟨t,e,ht⟩:=h.2 i r q h1 h2
 exact⟨t,e,s _ _ ht fun z=>by rw[← z,ht] at hp;cases hp⟩⟩
theorem Ext.free {l p:Addr}{H H':Hp}(k:Ext l H H') (n:p≠l) (h:H' p=none):H p=none:=by
 cases e:H p with
 |none=>rfl
 |some o=>have:=k _ _ e n;rw[h] at this;cases this
open Sco
def srt (ls:LP):LP:=ls.mergeSort fun p q=>decide (rkP p≤rkP q)
def Bd (ls:LP):Prop:=∀ p∈ls,0≤p.2∧p.2<1000
theorem zX (ls:LP):(srt ls).Perm ls:=List.mergeSort_perm _ _
theorem Z6 (ls:LP):(srt ls).Pairwise fun p q=>rkP p≤rkP q:=by
 have:=List.pairwise_mergeSort (le:=fun p q:Int×Int=>decide (rkP p≤rkP q)) (fun a b c h1 h2=>by simp at *;omega) (fun a b=>by simp;omega) ls
 exact this.imp fun h=>by simpa using h
theorem Vo {p q:Int×Int}(bp:0≤p.2∧p.2<1000) (bq:0≤q.2∧q.2<1000) (h:rkP p=rkP q):p=q:=by
 obtain⟨a,b⟩:=p
 obtain⟨c,d⟩:=q
 unfold rkP at h
 dsimp only at *
 have:a=c:=by omega
 subst this
 rw[show b=d by omega]
theorem Wn:∀ {as bs:LP},Bd as→as.Perm bs→as.Pairwise (fun p q=>rkP p≤rkP q)→bs.Pairwise (fun p q=>rkP p≤rkP q)→as=bs
 |[],bs,_,pm,_,_=>(List.nil_perm.mp pm).symm
 |x::as,[],_,pm,_,_=>absurd pm.length_eq (by simp)
 |x::as,y::bs,B,pm,u1,u2=>by
  obtain⟨a1,a2⟩:=List.pairwise_cons.mp u1
  obtain⟨b1,b2⟩:=List.pairwise_cons.mp u2
  have hy:y∈x::as:=pm.mem_iff.mpr List.mem_cons_self
  have hx:x∈y::bs:=pm.mem_iff.mp List.mem_cons_self
  have l1:rkP x≤rkP y:=by
   rcases List.mem_cons.mp hy with z | z
   ·rw[z];exact Int.le_refl _
   ·exact a1 y z
  have l2:rkP y≤rkP x:=by
   rcases List.mem_cons.mp hx with z | z
   ·rw[z];exact Int.le_refl _
   ·exact b1 x z
  have e:x=y:=Vo (B x List.mem_cons_self) (B y hy) (by omega)
  subst e
  rw[Wn (fun p hp=>B p (List.mem_cons_of_mem _ hp)) (List.Perm.cons_inv pm) a2 b2]
theorem Z7 {as ls:LP}(B:Bd ls) (pm:as.Perm ls) (u:as.Pairwise fun p q=>rkP p≤rkP q):as=srt ls :=
 Wn (fun p hp=>B p (pm.mem_iff.mp hp)) (pm.trans (zX ls).symm) u (Z6 ls)
theorem LnAt.ps {H:Hp}:∀ {rs:List V}{ls:LP},LnAt H rs ls→Bd ls→∃ ps:List PT,ps.map (fun p=>V.ref p.1)=rs∧ps.map (·.2)=ls∧PsAt H ps
 |[],[],_,_=>⟨[],rfl,rfl,fun p hp=>by cases hp⟩
 |[],_::_,h,_=>absurd h.1 (by simp)
 |_::_,[],h,_=>absurd h.1 (by simp)
 |r::rs,p::ls,h,B=>by
  obtain⟨q,rfl,hq⟩:=h.2 0 r p rfl rfl
  obtain⟨ps,e1,e2,e3⟩:=LnAt.ps (H:=H) (rs:=rs) (ls:=ls) ⟨by have:=h.1;simpa using this,fun i r p h1 h2=>h.2 (i+1) r p (by simpa using h1) (by simpa using h2)⟩ fun p hp=>B p (List.mem_cons_of_mem _ hp)
  refine⟨(q,p)::ps,by rw[List.map_cons,e1],by rw[List.map_cons,e2],fun x hx=>?_⟩
  rcases List.mem_cons.mp hx with z | z
  ·rw[z]
   exact⟨hq,B p List.mem_cons_self⟩
  ·exact e3 x z
theorem zaT {H:Hp}{qs:List PT}(h:PsAt H qs):LnAt H (qs.map fun p=>V.ref p.1) (qs.map (·.2)):=by
 refine⟨by simp,fun i r p h1 h2=>?_⟩
 rw[List.getElem?_map] at h1 h2
 obtain⟨q,e1,rfl⟩:=Option.map_eq_some_iff.mp h1
 rw[e1] at h2
 cases h2
 exact⟨q.1,rfl,(h q (List.mem_of_getElem? e1)).1⟩
theorem _root_.L2.Sco.PsAt.same {H H':Hp}{ps:List PT}(h:PsAt H ps) (s:Same H H'):PsAt H' ps:=fun p hp=>⟨s _ _ (h p hp).1,(h p hp).2⟩
theorem _root_.L2.Sco.PsAt.sub {H:Hp}{ps qs:List PT}(h:PsAt H ps) (s:∀ q∈qs,q∈ps):PsAt H qs:=fun p hp=>h p (s p hp)
theorem xm {H:Hp}{ps qs:List PT}(h:PsAt H ps) (pm:qs.Perm ps) (u:qs.Pairwise fun x y=>rkP x.2≤rkP y.2):LnAt H (qs.map fun p=>V.ref p.1) (srt (ps.map (·.2))):=by
 have e:qs.map (·.2)=srt (ps.map (·.2)):=Z7 (fun p hp=>by
  obtain⟨x,hx,rfl⟩:=List.mem_map.mp hp
  exact(h x hx).2) (pm.map _) (by rw[List.pairwise_map];exact u)
 have:=zaT (h.sub fun q hq=>pm.mem_iff.mp hq)
 rw[e] at this
 exact this
theorem Ls.bd {hs:LI}{ls:LP}(W:Hs hs) (L:Ls hs ls):Bd ls:=fun p hp=>by
 have:=(L.ok p hp).2.1
 have a1:=W.lo p.2 this
 have a2:=W.hi p.2 this
 omega
structure WebAt (a:Ad) (H:Hp) (p:Addr) (hs:LI) (ls:LP) (dx oh ol d:Addr) (ad:Int→Addr):Prop where
 p:H p=some (.ins 410 dx [("own_hands",.ref oh),("own_lines",.ref ol),("near",.ref d)])
 oh:H oh=some (.lst (hs.map V.int))
 nr:Near H d hs ls ad
 ol:∃ zs,H ol=some (.lst zs)∧LnAt H zs (srt ls)
theorem WebAt.same {H H':Hp}{p dx oh ol d:Addr}{hs:LI}{ls:LP}{ad:Int→Addr}(w:WebAt a H p hs ls dx oh ol d ad) (s:Same H H'):WebAt a H' p hs ls dx oh ol d ad:=⟨s _ _ w.p,s _ _ w.oh,w.nr.same s,by obtain⟨zs,e1,e2⟩:=w.ol;exact⟨zs,s _ _ e1,e2.same s⟩⟩
def Up (a:Ad):Sp:=fun vs H Q _=>∃ (p dx h l:Addr) (rs:List V) (hs:LI) (ls:LP),vs=[.ref p,.ref h,.ref l]∧H p=some (.ins 410 dx [])∧H h=some (.lst (hs.map V.int))∧H l=some (.lst rs)∧LnAt H rs ls∧Hs hs∧Ls hs ls ∧
 ∀ (oh ol d:Addr) (ad:Int→Addr) H',H oh=none→H ol=none→H d=none→(∀ x∈hs,H (ad x)=none)→Ext p H H'→WebAt a H' p hs ls dx oh ol d ad→Q .non H'
theorem UJ (T:Txt w K mg a):FnOk P w K mg base CX0 4 358 (dK K 358) ["self", "hands", "lines"] (Up a):=by
 have c_are_hands:Callee P w K mg base "are_hands" 323 (dK K 323) ["hands"] 2 Yd:=⟨XG T,(T.g 24 rfl),(T.fn 24 rfl).kp,(T.bi 24 rfl)⟩
 have c_are_lines:Callee P w K mg base "are_lines" 337 (dK K 337) ["lines", "hands"] 3 Yb:=⟨XF T,(T.g 26 rfl),(T.fn 26 rfl).kp,(T.bi 26 rfl)⟩
 have c_near_by_hand:Callee P w K mg base "near_by_hand" 344 (dK K 344) ["hands", "lines"] 1 Wu:=⟨VC T,(T.g 27 rfl),(T.fn 27 rfl).kp,(T.bi 27 rfl)⟩
 refine(T.fn 47 rfl).ok (scp 47 rfl) (fun vs H Q E h=>?_) (fun cdv A outer s H vs Q E hr h=>?_)
 ·obtain⟨p,dx,h,l,rs,hs,ls,rfl,_⟩:=h
  rfl
 ·obtain⟨p,dx,h,l,rs,hs,ls,rfl,hp,hh,hl,hrs,W,L,k⟩:=h
  have l66:=L.le
  have np:∀ {b:Addr}{xs:List V},H b=some (.lst xs)→b≠p:=fun e z=>by rw[z,hp] at e;cases e
  refine⟨_,(zS (vo (xf (xc (WD c_are_hands hr.m (xV (pv 1) yf))))
    (yb vn)
    yO)
   (zS (vo (xf (xc (WD c_are_lines hr.m (xV (pv 2) (xV (pv 1) yf)))))
    (yb vn)
    yO)
   (zS (Zc (pv 0) (vX yX (by rfl) (T.n 4 rfl) bt_list (xV (pv 1) yf)) rfl)
   (zS (Zc (pv 0) (yq Sco.call_sortX (by rfl) (T.n 6 rfl) zW (xV (pv 2) yf)) rfl)
   (yb (Zc (pv 0) (WD c_near_by_hand hr.m (xV (pv 1) (xV (pv 2) yf))) rfl)))))),?_⟩
  refine⟨_,rfl,h,hs,rfl,hh,W,_,rfl,iteN rfl ?_⟩
  refine⟨_,rfl,_,rfl,l,h,rs,hs,ls,rfl,hl,hrs,hh,L,fun H1 s1=>⟨_,rfl,iteN rfl ?_⟩⟩
  refine⟨_,rfl,h,_,rfl,.inl (SqL.of (s1 _ _ hh)),fun oh hoh=>?_⟩
  have ohp:oh≠p:=fun z=>by rw[z,s1 _ _ hp] at hoh;cases hoh
  refine⟨_,rfl,p,410,dx,_,rfl,(upd_ne ohp.symm).trans (s1 _ _ hp),(T.cl 1 rfl),(T.na 1 0 rfl rfl),(by show 0<1000;decide),?_⟩
  have x3:=((Ext.same (l:=p) s1).trans (Ext.new (l:=p) (o:=.lst (hs.map V.int)) hoh)).trans (Ext.at (l:=p) (o:=.ins 410 dx [("own_hands",.ref oh)]))
  obtain⟨ps,e1,e2,e3⟩:=(hrs.ext hp x3).ps (L.bd W)
  have l67:ps.length≤66:=by
   have:=congrArg List.length e2
   rw[List.length_map] at this
   omega
  refine⟨_,rfl,l,ps,rfl,by rw[e1];exact SqL.of (x3 _ _ hl (np hl)),l67,e3,fun ol qs hol pm up=>?_⟩
  have hq3:=xm e3 pm up
  rw[e2] at hq3
  generalize qs.map (fun p=>V.ref p.1)=zs at hq3 ⊢
  have olp:ol≠p:=fun z=>by rw[z,upd_same] at hol;cases hol
  refine⟨_,rfl,p,410,dx,_,rfl,(upd_ne olp.symm).trans upd_same,(T.cl 1 rfl),(T.na 1 1 rfl rfl),(by show 1<1000;decide),?_⟩
  have x35:=(Ext.new (l:=p) (o:=.lst zs) hol).trans (Ext.at (l:=p) (o:=.ins 410 dx [("own_hands",.ref oh),("own_lines",.ref ol)]))
  have x5:=x3.trans x35
  refine⟨_,rfl,_,rfl,h,l,rs,hs,ls,rfl,x5 _ _ hh (np hh),x5 _ _ hl (np hl),hrs.ext hp x5,W,L,fun d ad H6 s6 hd had N=>?_⟩
  have hp6:=s6 _ _ (upd_same (a:=p))
  refine⟨_,rfl,p,410,dx,_,rfl,hp6,(T.cl 1 rfl),(T.na 1 2 rfl rfl),(by show 2<1000;decide),?_⟩
  have nfr:∀ b,(upd (upd (upd (upd H1 oh (.lst (hs.map V.int))) p (.ins 410 dx [("own_hands",.ref oh)])) ol (.lst zs)) p (.ins 410 dx [("own_hands",.ref oh),("own_lines",.ref ol)])) b=none→H b=none:=fun b e=>x5.free (fun z=>by rw[z,upd_same] at e;cases e) e
  refine k oh ol d ad _ (s1.free hoh) (x3.free olp hol) (nfr d hd) (fun x hx=>nfr _ (had x hx)) ((x5.trans (Ext.same s6)).trans Ext.at) ⟨upd_same,?_,N.ext hp6 Ext.at,zs,?_,?_⟩
  ·rw[upd_ne ohp]
   exact s6 _ _ (x35 _ _ ((upd_ne ohp).trans upd_same) ohp)
  ·rw[upd_ne olp]
   exact s6 _ _ ((upd_ne olp).trans upd_same)
  ·exact((hq3.ext upd_same x35).same s6).ext hp6 Ext.at
theorem Yx {x:Int}:∀ {ls:LP},ls.Nodup→(∀ p∈ls,p.1<p.2)→(nbs ls x).Nodup
 |[],_,_=>List.nodup_nil
 |p::ls,nd,ok=>by
  obtain⟨n1,n2⟩:=List.nodup_cons.mp nd
  have ih:=Yx (x:=x) n2 fun q hq=>ok q (List.mem_cons_of_mem _ hq)
  have lt:=ok p (List.mem_cons_self ..)
  have e:nbs (p::ls) x=((if p.1=x then[p.2] else[])++if p.2=x then[p.1] else[])++nbs ls x:=by unfold nbs;rw[List.flatMap_cons]
  have no:∀ y,Adj ls x y→y∉((if p.1=x then[p.2] else[])++if p.2=x then[p.1] else[]):=by
   intro y hy hm
   have key:∀ q∈ls,q≠p:=fun q hq z=>n1 (z ▸ hq)
   rcases List.mem_append.mp hm with h | h
   ·by_cases c:p.1=x
    ·rw[if_pos c] at h
     have ey:y=p.2:=List.mem_singleton.mp h
     rcases hy with z | z
     ·exact key _ z (by rw[ey,← c])
     ·have:=ok _ (List.mem_cons_of_mem _ z)
      simp at this
      omega
    ·rw[if_neg c] at h;cases h
   ·by_cases c:p.2=x
    ·rw[if_pos c] at h
     have ey:y=p.1:=List.mem_singleton.mp h
     rcases hy with z | z
     ·have:=ok _ (List.mem_cons_of_mem _ z)
      simp at this
      omega
     ·exact key _ z (by rw[ey,← c])
    ·rw[if_neg c] at h;cases h
  rw[e,List.nodup_append]
  refine⟨?_,ih,fun a ha b hb z=>no b (mem_nbs.mp hb) (z ▸ ha)⟩
  by_cases c1:p.1=x
  ·have c2:¬ p.2=x:=by omega
   rw[if_pos c1,if_neg c2]
   simp
  ·rw[if_neg c1]
   by_cases c2:p.2=x
   ·rw[if_pos c2];simp
   ·rw[if_neg c2];simp
theorem Yz {hs:LI}{ls:LP}{x:Int}(W:Hs hs) (L:Ls hs ls):(nbs ls x).length≤12:=by
 have nd:=Yx (x:=x) L.nd fun p hp=>(L.ok p hp).2.2
 have sub:∀ y∈nbs ls x,y∈hs:=fun y hy=>by
  rcases mem_nbs.mp hy with z | z
  ·exact(L.ok _ z).2.1
  ·exact(L.ok _ z).1
 have:=xn nd sub
 have:=W.l12
 omega
theorem ZX:∀ {as bs:LI},as.Pairwise (· < ·)→bs.Pairwise (· < ·)→(∀ x,x∈as↔x∈bs)→as=bs
 |[],[],_,_,_=>rfl
 |[],b::bs,_,_,h=>by have:=(h b).mpr (List.mem_cons_self ..);cases this
 |a::as,[],_,_,h=>by have:=(h a).mp (List.mem_cons_self ..);cases this
 |a::as,b::bs,ha,hb,h=>by
  obtain⟨a1,a2⟩:=List.pairwise_cons.mp ha
  obtain⟨b1,b2⟩:=List.pairwise_cons.mp hb
  have e:a=b:=by
   rcases List.mem_cons.mp ((h a).mp (List.mem_cons_self ..)) with e | e
   ·exact e
   ·rcases List.mem_cons.mp ((h b).mpr (List.mem_cons_self ..)) with e' | e'
    ·exact e'.symm
    ·have:=b1 a e
     have:=a1 b e'
     omega
  subst e
  rw[ZX a2 b2 fun x=>⟨fun hx=>by
   rcases List.mem_cons.mp ((h x).mp (List.mem_cons_of_mem _ hx)) with e | e
   ·have:=a1 x hx;omega
   ·exact e,fun hx=>by
   rcases List.mem_cons.mp ((h x).mpr (List.mem_cons_of_mem _ hx)) with e | e
   ·have:=b1 x hx;omega
   ·exact e⟩]
noncomputable def adB (ls:LP) (x y:Int):Bool:=decide ((x,y)∈ls)||decide ((y,x)∈ls)
theorem Xe {ls:LP}{x y:Int}:decide (y∈nbs ls x)=adB ls x y:=by
 unfold adB
 rw[Bool.eq_iff_iff,Bool.or_eq_true,decide_eq_true_eq,decide_eq_true_eq,decide_eq_true_eq]
 exact mem_nbs
theorem Za {hs:LI}{ls:LP}{x:Int}{ms:LI}(W:Hs hs) (L:Ls hs ls) (pm:ms.Perm (nbs ls x)) (sd:ms.Pairwise (· ≤ ·)):ms=hs.filter (adB ls x):=by
 have nd:ms.Nodup:=pm.nodup_iff.mpr (Yx L.nd fun p hp=>(L.ok p hp).2.2)
 have up:ms.Pairwise (· < ·):=(sd.and (List.nodup_iff_pairwise_ne.mp nd)).imp fun h=>by
  have h1:=h.1
  have h2:=h.2
  omega
 refine ZX up (W.up.filter _) fun y=>?_
 rw[pm.mem_iff,List.mem_filter,← Xe,decide_eq_true_eq]
 refine⟨fun h=>⟨?_,h⟩,fun h=>h.2⟩
 rcases mem_nbs.mp h with z | z
 ·exact(L.ok _ z).2.1
 ·exact(L.ok _ z).1
def zaN (a:Ad):Sp:=fun vs H Q _=>∃ (p:Addr) (x:Int) (hs:LI) (ls:LP) (dx oh ol d:Addr) (ad:Int→Addr),vs=[.ref p,.int x]∧WebAt a H p hs ls dx oh ol d ad∧x∈hs∧Q (.bl true) H
theorem Zk (T:Txt w K mg a):FnOk P w K mg base CX0 2 379 (dK K 379) ["self", "hand"] (zaN a):=by
 have c_is_whole:Callee P w K mg base "is_whole" 77 (dK K 77) ["value"] 1 vk:=⟨vw T,(T.g 0 rfl),(T.fn 0 rfl).kp,(T.bi 0 rfl)⟩
 refine(T.fn 50 rfl).ok (scp 50 rfl) (fun vs H Q E h=>?_) (fun cdv A outer s H vs Q E hr h=>?_)
 ·obtain⟨p,x,hs,ls,dx,oh,ol,d,ad,rfl,_⟩:=h
  rfl
 ·obtain⟨p,x,hs,ls,dx,oh,ol,d,ad,rfl,W,hx,k⟩:=h
  have hu:=yA hr
  refine zT (ze (zj (xu (zq c_is_whole hr.m (zg (zh 1) zd)) (yL (Xl (uV hu (zh 1) (yp (zh 0) rfl))))))) ?_
  refine⟨_,rfl,x,rfl,_,rfl,wa ?_⟩
  exact⟨_,rfl,_,rfl,p,_,dx,_,_,rfl,W.p,(T.cl 1 rfl),(T.na 1 2 rfl rfl),rfl,d,some (V.ref (ad x)),rfl,wu W.nr.d hx,k⟩
def u8 (a:Ad):Sp:=fun vs H Q _=>∃ (p:Addr) (hs:LI) (ls:LP) (dx oh ol d:Addr) (ad:Int→Addr),vs=[.ref p]∧WebAt a H p hs ls dx oh ol d ad∧∀ q,H q=none→Q (.ref q) (upd H q (.lst (hs.map V.int)))
theorem y0 {p:Addr}{hs:LI}{ls:LP}{dx oh ol d:Addr}{ad:Int→Addr}{H:Hp}{Q:VK}{E:XK}(W:WebAt a H p hs ls dx oh ol d ad) (k:∀ q,H q=none→Q (.ref q) (upd H q (.lst (hs.map V.int)))):u8 a [.ref p] H Q E:=⟨p,hs,ls,dx,oh,ol,d,ad,rfl,W,k⟩
theorem xD (T:Txt w K mg a):FnOk P w K mg base CX0 1 365 (dK K 365) ["self"] (u8 a):=by
 refine(T.fn 48 rfl).ok (scp 48 rfl) (fun vs H Q E h=>?_) (fun cdv A outer s H vs Q E hr h=>?_)
 ·obtain⟨p,hs,ls,dx,oh,ol,d,ad,rfl,_⟩:=h
  rfl
 ·obtain⟨p,hs,ls,dx,oh,ol,d,ad,rfl,W,k⟩:=h
  refine zT (ze (zj (yn yX (by rfl) (T.n 4 rfl) bt_list (zr (yp (zh 0) rfl) zd)))) ?_
  exact⟨_,rfl,p,_,dx,_,_,rfl,W.p,(T.cl 1 rfl),(T.na 1 0 rfl rfl),rfl,oh,_,rfl,.inl (SqL.of W.oh),k⟩
def zcd (a:Ad):Sp:=fun vs H Q _=>∃ (p:Addr) (x:Int) (hs:LI) (ls:LP) (dx oh ol d:Addr) (ad:Int→Addr),vs=[.ref p,.int x]∧WebAt a H p hs ls dx oh ol d ad∧Hs hs∧Ls hs ls∧x∈hs ∧
 ∀ (q:Addr),H q=none→Q (.ref q) (upd H q (.lst ((hs.filter (adB ls x)).map V.int)))
theorem za7 (T:Txt w K mg a):FnOk P w K mg base CX0 3 393 (dK K 393) ["self", "hand"] (zcd a):=by
 refine(T.fn 52 rfl).ok (scp 52 rfl) (fun vs H Q E h=>?_) (fun cdv A outer s H vs Q E hr h=>?_)
 ·obtain⟨p,x,hs,ls,dx,oh,ol,d,ad,rfl,_⟩:=h
  rfl
 ·obtain⟨p,x,hs,ls,dx,oh,ol,d,ad,rfl,W,wh,wl,hx,k⟩:=h
  have hu:=yA hr
  refine zT (w_pss_cons (zB (zN (zJ (zx (zh 0) (zg (zh 1) zd))))
    (ze wS)
    zo)
   (ze (zj (zm yo (by rfl) (T.n 6 rfl) zW (zr (zH hu (yp (zh 0) rfl) (zh 1) (fun _ _=>rfl)) zd))))) ?_
  refine mtV rfl W.p rfl (T.cl 1 rfl) (T.mt 50 rfl) (Zk (P:=P) (w:=w) T) hr.m (T.bi 50 rfl) ⟨_,rfl,p,x,hs,ls,dx,oh,ol,d,ad,rfl,W,hx,_,rfl,iteN rfl ?_⟩
  have few:=Yz (x:=x) wh wl
  exact⟨_,rfl,p,_,dx,_,_,rfl,W.p,(T.cl 1 rfl),(T.na 1 2 rfl rfl),rfl,_,rfl,d,V.ref (ad x),rfl,wu W.nr.d hx,ad x,_,rfl,SqL.of (W.nr.nb x hx),by omega,fun q ms hq pm sd=>by rw[Za wh wl pm sd];exact k q hq⟩
theorem merge_app:∀ {kvs acc:List (Key×V)},((acc++kvs).map (·.1)).Nodup→mergeK acc kvs=acc++kvs
 |[],acc,_=>by simp[mergeK]
 |kv::kvs,acc,h=>by
  have hn:kv.1∉acc.map (·.1):=by
   rw[List.map_append,List.nodup_append] at h
   intro z
   exact h.2.2 _ z _ (by simp) rfl
  show mergeK (putK acc kv.1 kv.2) kvs=_
  rw[putK_new hn,merge_app (by simpa using h)]
  simp
theorem Zl {kvs:List (Key×V)}(h:(kvs.map (·.1)).Nodup):mergeK [] kvs=kvs:=by
 have:=merge_app (kvs:=kvs) (acc:=[]) (by simpa using h)
 simpa using this
theorem WU {us:LI}(h:us.Nodup):(us.map (Sum.inl:Int→Key)).Nodup:=by
 rw[List.nodup_iff_pairwise_ne,List.pairwise_map]
 exact(List.nodup_iff_pairwise_ne.mp h).imp fun {a b} n z=>n (by injection z)
theorem zaa {hs:LI}(W:Hs hs):hs.Nodup:=List.nodup_iff_pairwise_ne.mpr (W.up.imp fun {a b} h=>by omega)
theorem LnAt.snoc {H:Hp}{rs:List V}{ls:LP}{q:Addr}{p:Int×Int}(h:LnAt H rs ls) (hq:H q=some (.tup [.int p.1,.int p.2])):LnAt H (rs++[.ref q]) (ls++[p]):=by
 refine⟨by simp[h.1],fun i r p' h1 h2=>?_⟩
 have l:=h.1
 by_cases hi:i<rs.length
 ·rw[List.getElem?_append_left hi] at h1
  rw[List.getElem?_append_left (by omega)] at h2
  exact h.2 i r p' h1 h2
 ·rw[List.getElem?_append_right (by omega)] at h1
  rw[List.getElem?_append_right (by omega),← l] at h2
  obtain⟨n,hn⟩:∃ n,n=i-rs.length:=⟨_,rfl⟩
  rw[← hn] at h1 h2
  cases n with
  |zero=>cases h1;cases h2;exact⟨q,rfl,hq⟩
  |succ n=>simp at h1
theorem LnAt.updL {H:Hp}{rs zs:List V}{ls:LP}{p:Addr}{o:HO}(hp:H p=some (.lst zs)) (h:LnAt H rs ls):LnAt (L2.upd H p o) rs ls:=⟨h.1,fun n r pr e1 e2=>by
 obtain⟨q,e,t⟩:=h.2 n r pr e1 e2
 exact⟨q,e,by rw[upd_ne (VM t hp (by intro z;cases z))];exact t⟩⟩
theorem at_last {xs:List V}{v:V}:atI (xs++[v]) (-1)=some v:=by
 unfold atI ixN
 rw[if_neg (by decide),if_pos (by simp;omega)]
 simp
 have:((-1:Int)+((xs.length:Int)+1)).toNat=xs.length:=by omega
 rw[this]
 simp
def tabV (f:Int→V) (us:LI):List (Key×V):=us.map fun h=>(Sum.inl h,f h)
theorem yT {f:Int→V}{us:LI}:(tabV f us).map (·.1)=us.map Sum.inl:=by
 unfold tabV
 rw[List.map_map]
 rfl
theorem tabV_len {f:Int→V}{us:LI}:(tabV f us).length=us.length:=by
 unfold tabV
 rw[List.length_map]
theorem vi {f:Int→V}{x:Int}:∀ {us:LI},x∈us→yE (tabV f us) (Sum.inl x:Key)=some (f x)
 |u::us,h=>by
  unfold tabV yE
  rw[List.map_cons,List.find?_cons]
  by_cases e:u=x
  ·subst e;simp
  ·have:¬ ((Sum.inl u:Key)=Sum.inl x):=fun z=>e (by injection z)
   simp only[decide_eq_false this]
   have:=vi (f:=f) ((List.mem_cons.mp h).resolve_left fun z=>e z.symm)
   unfold tabV yE at this
   exact this
theorem u0 {f:Int→V}{us:LI}{x:Int}(h:x∉us):yE (tabV f us) (Sum.inl x:Key)=none:=by
 have z:=valV_no (kvs:=tabV f us) (k:=(Sum.inl x:Key)) (by rw[yT,uI];exact h)
 cases hv:yE (tabV f us) (Sum.inl x:Key) with
 |none=>rfl
 |some v=>rw[hv] at z;cases z
theorem yN {H:Hp}{d:Addr}{f:Int→V}{us:LI}{x:Int}(e:H d=some (.dK (tabV f us))) (h:x∈us):DGet H d (V.int x) (some (f x)):=by
 have:=DGet.k (k:=.inl x) e
 rw[vi h] at this
 exact this
theorem Z0 {H:Hp}{d:Addr}{f:Int→V}{us:LI}{x:Int}(e:H d=some (.dK (tabV f us))) (h:x∉us):DGet H d (V.int x) none:=by
 have:=DGet.k (k:=Sum.inl x) e
 rw[u0 h] at this
 exact this
theorem yJ {f g:Int→V}{us:LI}(h:∀ x∈us,f x=g x):tabV f us=tabV g us:=List.map_congr_left fun x hx=>by rw[h x hx]
theorem u4 {f:Int→V}{us:LI}{x:Int}{v:V}(h:x∉us):putK (tabV f us) (.inl x) v=tabV (fun y=>if y=x then v else f y) (us++[x]):=by
 rw[putK_new (by rw[yT,uI];exact h)]
 unfold tabV
 rw[List.map_append]
 congr 1
 ·exact List.map_congr_left fun y hy=>by
   show _=(Sum.inl y,if y=x then v else f y)
   rw[if_neg (fun(e:y=x)=>h (by rw[← e];exact hy))]
 ·simp
theorem u3 {f:Int→V}{us vs:LI}:tabV f (us++vs)=tabV f us++tabV f vs:=List.map_append
theorem xL {f:Int→V}{us vs:LI}(h:(us++vs).Nodup):mergeK (tabV f us) (tabV f vs)=tabV f (us++vs):=by
 rw[merge_app (by rw[← u3,yT];exact WU h),u3]
theorem ZS {x:Int}{v y:V}{H H':Hp}(h:yI (Sum.inl x,v) y H H'):∃ p,H p=none∧y=.ref p∧H'=upd H p (.tup [.int x,v]):=h
def Fl (v:V):Prop:=(∃ i,v=.int i)∨v=.non
def CpV (H:Hp) (n:Nat) (v:V) (Q:V→Hp→Prop):Prop :=
 (1≤n∧Fl v∧Q v H) ∨
 (2≤n∧∃ (t:Addr) (i j:Int),v=.ref t∧H t=some (.tup [.int i,.int j])∧∀ (t':Addr) (H':Hp),H t'=none→H' t'=some (.tup [.int i,.int j])→Same H H'→Q (.ref t') H') ∨
 (2≤n∧∃ (d:Addr) (f:Int→V) (us:LI),v=.ref d∧H d=some (.dK (tabV f us))∧us.Nodup∧us.length≤12∧(∀ x∈us,Fl (f x))∧∀ (d':Addr) (H':Hp),H d'=none→H' d'=some (.dK (tabV f us))→Same H H'→Q (.ref d') H') ∨
 (3≤n∧∃ (l:Addr) (rs:List V) (ls:LP),v=.ref l∧H l=some (.lst rs)∧LnAt H rs ls∧ls.length≤200∧∀ (l':Addr) (rs':List V) (H':Hp),H l'=none→H' l'=some (.lst rs')→LnAt H' rs' ls→Same H H'→Q (.ref l') H')
def V3 (n:Nat):Sp:=fun vs H Q _=>∃ v,vs=[v]∧CpV H n v Q
theorem yV (T:Txt w K mg a):∀ n,FnOk P w K mg base CX0 (n+2) 82 (dK K 82) ["value"] (V3 n)
 |0=>⟨fun vs H Q E h=>by
   obtain⟨v,rfl,_⟩:=h
   rfl,fun A outer s H args us vs Q E _ _ _ _ h=>by
   obtain⟨v,_,h⟩:=h
   rcases h with⟨h,_⟩ | ⟨h,_⟩ | ⟨h,_⟩ | ⟨h,_⟩<;>omega⟩
 |n+1=>by
  have c_copied:Callee P w K mg base "copied" 82 (dK K 82) ["value"] (n+2) (V3 n):=⟨yV T n,(T.g 1 rfl),(T.fn 1 rfl).kp,(T.bi 1 rfl)⟩
  refine(T.fn 1 rfl).ok (scp 1 rfl) (fun vs H Q E h=>?_) (fun cdv A outer s H vs Q E hr h=>?_)
  ·obtain⟨v,rfl,_⟩:=h
   rfl
  ·obtain⟨v,rfl,h⟩:=h
   refine zT (w_pss_cons (zB (zJ (zm zY (by rfl) (T.n 3 rfl) zA (zg (zh 0) (zg (yh (T.n 4 rfl) bt_list) zd))))
    (ze (zj (yd rfl (N':=["each"]) (t:=1) (caps:=[]) ⟨rfl,rfl,rfl⟩ (zy (zh 0)) (fun _=>(zk (i:=0) (show(["each"]:List Str).Nodup by decide +kernel) rfl (Or.inl rfl))) (fun _=>yk) (fun _=>(zq c_copied hr.m (zg (zh 0) zd))))))
    zo)
   (w_pss_cons (zB (zJ (zm zY (by rfl) (T.n 3 rfl) zA (zg (zh 0) (zg (yh (T.n 8 rfl) xb) zd))))
    (ze (zj (yn xG (by rfl) (T.n 8 rfl) xb (zr (yd rfl (N':=["each"]) (t:=1) (caps:=[]) ⟨rfl,rfl,rfl⟩ (uT (zh 0)) (fun _=>(zk (i:=0) (show(["each"]:List Str).Nodup by decide +kernel) rfl (Or.inl rfl))) (fun _=>yk) (fun _=>(zq c_copied hr.m (zg (zh 0) zd)))) zd))))
    zo)
   (w_pss_cons (zB (zJ (zm zY (by rfl) (T.n 3 rfl) zA (zg (zh 0) (zg (yh (T.n 5 rfl) wI) zd))))
    (ze (zj (yn (ve rfl) (by rfl) (T.n 5 rfl) wI (zr (ZU (yd rfl (N':=["key", "each"]) (t:=2) (caps:=[]) ⟨rfl,rfl,rfl⟩ (xi (zh 0)) (fun _=>(zZ rfl (zp (zk (i:=0) (show(["key", "each"]:List Str).Nodup by decide +kernel) rfl (Or.inl rfl)) (zp (zk (i:=1) (show(["key", "each"]:List Str).Nodup by decide +kernel) rfl (Or.inl rfl)) zP)))) (fun _=>yk) (fun _=>(zR (zg (zh 0) (zQ (zq c_copied hr.m (zg (zh 1) zd)) zd)))))) zd))))
    zo)
   (ze (zj (zh 0)))))) ?_
   rcases h with⟨_,hv,k⟩ | ⟨h2,t,i,j,rfl,ht,k⟩ | ⟨h2,d,f,us,rfl,hd,nd,l12,hf,k⟩ | ⟨h3,l,rs,ls,rfl,hl,L,l66,k⟩
   ·rcases hv with⟨i,rfl⟩ | rfl
    ·refine⟨_,rfl,_,_,_,_,_,rfl,rfl,.int i,(T.k 8 rfl),_,rfl,iteN rfl ?_⟩
     refine⟨_,rfl,_,_,_,_,_,rfl,rfl,.int i,(T.k 9 rfl),_,rfl,iteN rfl ?_⟩
     refine⟨_,rfl,_,_,_,_,_,rfl,rfl,.int i,(T.k 10 rfl),_,rfl,iteN rfl ?_⟩
     exact⟨_,rfl,k⟩
    ·refine⟨_,rfl,_,_,_,_,_,rfl,rfl,.non,(T.k 11 rfl),_,rfl,iteN rfl ?_⟩
     refine⟨_,rfl,_,_,_,_,_,rfl,rfl,.non,(T.k 12 rfl),_,rfl,iteN rfl ?_⟩
     refine⟨_,rfl,_,_,_,_,_,rfl,rfl,.non,(T.k 13 rfl),_,rfl,iteN rfl ?_⟩
     exact⟨_,rfl,k⟩
   ·refine⟨_,rfl,_,_,_,_,_,rfl,rfl,.tup ht,(T.k 4 rfl),_,rfl,iteN rfl ?_⟩
    refine⟨_,rfl,_,_,_,_,_,rfl,rfl,.tup ht,(T.k 3 rfl),_,rfl,wa ?_⟩
    refine⟨_,rfl,t,rfl,⟨_,SqT.of ht⟩,fun D hD _=>?_⟩
    refine Wj (K:=K) (a:=t) (xs:=[V.int i,V.int j]) (fun m zs τ H'=>∃ (o:Option V),τ=[o]∧zs=[V.int i,V.int j].take m∧H'=upd H D (.lst zs)) ?_ ?_ ?_ ?_
    ·exact⟨none,rfl,rfl,rfl⟩
    ·rintro m zs τ H' ⟨o,_,_,rfl⟩
     exact SqT.of (by rw[upd_ne (ne_of_none ht hD)];exact ht)
    ·rintro m v zs τ H' hi ⟨o,rfl,rfl,rfl⟩
     have hv:∃ y,v=V.int y:=by
      match m,hi with
      |0,hi=>exact⟨i,by cases hi;rfl⟩
      |1,hi=>exact⟨j,by cases hi;rfl⟩
      |m+2,hi=>simp at hi
     obtain⟨y,rfl⟩:=hv
     have hml:m<2:=(List.getElem?_eq_some_iff.mp hi).1
     refine X7 ?_
     refine⟨_,rfl,_,rfl,.inl ⟨by omega,.inl ⟨y,rfl⟩,?_⟩⟩
     refine⟨upd_same,by rw[List.length_take];exact zu (by omega),some (.int y),rfl,?_,?_⟩
     ·rw[List.take_add_one,hi];rfl
     ·rw[xJ]
    ·rintro zs τ H' ⟨o,rfl,rfl,rfl⟩
     refine⟨D,_,rfl,.inl ⟨SqL.of upd_same,fun t' ht'=>?_⟩⟩
     exact k t' _ ((Same.new hD).free ht') upd_same ((Same.new hD).trans (Same.new ht'))
   ·refine⟨_,rfl,_,_,_,_,_,rfl,rfl,.dK hd,(T.k 5 rfl),_,rfl,iteN rfl ?_⟩
    refine⟨_,rfl,_,_,_,_,_,rfl,rfl,.dK hd,(T.k 6 rfl),_,rfl,iteN rfl ?_⟩
    refine⟨_,rfl,_,_,_,_,_,rfl,rfl,.dK hd,(T.k 7 rfl),_,rfl,wa ?_⟩
    refine⟨_,rfl,d,_,rfl,hd,fun od S D hD _=>?_⟩
    have hDd:D≠d:=fun z=>by rw[z,upd_same] at hD;cases hD
    generalize hG1:upd H d (HO.frz od (HO.dK (tabV f us)))=G1 at *
    have hq1:G1 d=some (.frz od (.dK (tabV f us))):=by rw[← hG1];exact upd_same
    have x1:Ext d H G1:=by rw[← hG1];exact Ext.at
    refine Y8 (yl:=yI) (d:=d) (od:=od) (kvs:=tabV f us) (fun i zs τ G'=>∃ (o1 o2:Option V) (qs:List Addr),τ=[o1,o2]∧zs=qs.map V.ref∧qs.length=i∧(∀ (j:Nat) (p:Addr) (x:Int),qs[j]?=some p→us[j]?=some x→G' p=some (.tup [.int x,f x]))∧G' D=some (.lst zs)∧Same G1 G') ?_ ?_ ?_ ?_
    ·exact⟨none,none,[],rfl,rfl,rfl,fun j q x h=>by simp at h,upd_same,Same.new hD⟩
    ·rintro i zs τ G' ⟨o1,o2,qs,_,_,_,_,_,sm⟩
     exact sm _ _ hq1
    ·rintro i kv v zs τ G' G'' hkv ⟨o1,o2,qs,rfl,rfl,lq,hqs,hD',sm⟩ hy
     obtain⟨x,hx,rfl⟩:∃ x,us[i]?=some x∧kv=(Sum.inl x,f x):=by
      unfold tabV at hkv
      rw[List.getElem?_map] at hkv
      obtain⟨x,h1,h2⟩:=Option.map_eq_some_iff.mp hkv
      exact⟨x,h1,h2.symm⟩
     obtain⟨p0,hp0,rfl,rfl⟩:=ZS hy
     have hil:i<us.length:=(List.getElem?_eq_some_iff.mp hx).1
     have n1:=Same.new (o:=HO.tup [V.int x,f x]) hp0
     refine⟨p0,_,rfl,SqT.of upd_same,rfl,_,_,rfl,_,_,rfl,rfl,vE ?_⟩
     refine⟨_,rfl,_,rfl,_,rfl,.inl ⟨by omega,hf x (List.mem_of_getElem? hx),(by show 2≤sizeLine;decide),fun pt hpt=>?_⟩⟩
     have n2:=Same.new (o:=HO.tup [V.int x,f x]) hpt
     have n12:=n1.trans n2
     have npt:pt≠D:=fun z=>by rw[z] at hpt;have:=n1 _ _ hD';rw[hpt] at this;cases this
     have hDF:=n12 _ _ hD'
     refine⟨hDF,by rw[List.length_map,lq];exact zu (by omega),some (.int x),some (f x),qs++[pt],rfl,by simp,by simp[lq],fun j p y hj hy'=>?_,upd_same,?_⟩
     ·by_cases hji:j<i
      ·rw[List.getElem?_append_left (by omega)] at hj
       have h1:=n12 _ _ (hqs j p y hj hy')
       rw[upd_ne (fun z=>by rw[z,hDF] at h1;cases h1)]
       exact h1
      ·rw[List.getElem?_append_right (by omega)] at hj
       have:j=i:=by
        have:=(List.getElem?_eq_some_iff.mp hj).1
        simp at this
        omega
       subst this
       rw[lq,Nat.sub_self] at hj
       cases hj
       rw[hx] at hy'
       cases hy'
       rw[upd_ne npt]
       exact upd_same
     ·exact Same.updF (sm.trans n12) hD
    ·rintro zs τ G2 ⟨o1,o2,qs,rfl,rfl,lq,hqs,hD2,sm⟩
     refine .inr ⟨d,od,tabV f us,S,sm _ _ hq1,?_⟩
     rw[tabV_len] at lq
     have sG3:Same H (upd G2 d (HO.dK (tabV f us))):=fun b o e=>by
      by_cases z:b=d
      ·rw[z,hd] at e;cases e;rw[z];exact upd_same
      ·rw[upd_ne z];exact sm _ _ (x1 _ _ e z)
     have hD3:(upd G2 d (HO.dK (tabV f us))) D=some (.lst (qs.map V.ref)):=by rw[upd_ne hDd];exact hD2
     have hq3:∀ (j:Nat) (p:Addr) (x:Int),qs[j]?=some p→us[j]?=some x→(upd G2 d (HO.dK (tabV f us))) p=some (.tup [.int x,f x]):=fun j p x h1 h2=>by
      have h3:=hqs j p x h1 h2
      rw[upd_ne (fun z=>by rw[z,sm _ _ hq1] at h3;cases h3)]
      exact h3
     generalize upd G2 d (HO.dK (tabV f us))=G3 at *
     refine⟨D,qs,tabV f us,rfl,hD3,by rw[tabV_len];exact lq,by rw[tabV_len];omega,fun i q kv h1 h2=>?_,fun d' hd'=>?_⟩
     ·unfold tabV at h2
      rw[List.getElem?_map] at h2
      obtain⟨x,h3,h4⟩:=Option.map_eq_some_iff.mp h2
      subst h4
      exact hq3 i q x h1 h3
     rw[Zl (by rw[yT];exact WU nd)]
     exact k d' _ (sG3.free hd') upd_same (sG3.trans (Same.new hd'))
   ·refine⟨_,rfl,_,_,_,_,_,rfl,rfl,.lst hl,(T.k 2 rfl),_,rfl,wa ?_⟩
    refine⟨_,rfl,l,rfl,⟨_,SqL.of hl⟩,fun D hD _=>?_⟩
    have lr:=L.1
    refine ya (K:=K) (a:=l) (xs:=rs) (fun m zs τ H'=>∃ (o:Option V),τ=[o]∧zs.length=m∧LnAt H' zs (ls.take m)∧H' D=some (.lst zs)∧Same H H') ?_ ?_ ?_ ?_
    ·exact⟨none,rfl,rfl,⟨rfl,fun i r p h=>by simp at h⟩,upd_same,Same.new hD⟩
    ·rintro m zs τ H' ⟨o,_,_,_,_,sm⟩
     exact SqL.of (sm _ _ hl)
    ·rintro m v zs τ H' hi ⟨o,rfl,lz,Lz,hD',sm⟩
     obtain⟨p,q,hp,rfl,hq⟩:=L.get hi
     have hml:m<rs.length:=(List.getElem?_eq_some_iff.mp hi).1
     refine X7 ?_
     refine⟨_,rfl,_,rfl,.inr (.inl ⟨by omega,q,p.1,p.2,rfl,sm _ _ hq,fun t' H2 ht' h2 s2=>?_⟩)⟩
     have hD2:=s2 _ _ hD'
     refine⟨hD2,by rw[lz];exact zu (by omega),some (.ref q),rfl,by simp[lz],?_,upd_same,Same.updF (sm.trans s2) hD⟩
     rw[List.take_add_one,hp]
     exact LnAt.updL hD2 ((Lz.same s2).snoc h2)
    ·rintro zs τ H' ⟨o,rfl,lz,Lz,hD',sm⟩
     rw[List.take_of_length_le (by omega)] at Lz
     exact k D zs H' hD hD' Lz sm
inductive En (pf:Int→Option Int):Int→LI→Prop
 |z {x:Int}(h:pf x=none):En pf x [x]
 |s {x y:Int}{l:LI}(h:pf x=some y) (t:En pf y l):En pf x (x::l)
variable {pf:Int→Option Int}
theorem En.fn {x:Int}{l:LI}(h:En pf x l):∀ {l':LI},En pf x l'→l=l':=by
 induction h with
 |z h =>
  intro l' h'
  cases h' with
  |z _=>rfl
  |s h2 _=>rw[h] at h2;cases h2
 |s h t ih =>
  intro l' h'
  cases h' with
  |z h2=>rw[h] at h2;cases h2
  |s h2 t2 =>
   rw[h] at h2
   cases h2
   rw[ih t2]
theorem En.hd {x:Int}{l:LI}(h:En pf x l):∃ t,l=x::t:=by
 cases h with
 |z _=>exact⟨_,rfl⟩
 |s _ _=>exact⟨_,rfl⟩
theorem En.suf:∀ {ys:LI}{x v:Int}{zs:LI},En pf x (ys++v::zs)→En pf v (v::zs)
 |[],x,v,zs,h=>by
  obtain⟨t,e⟩:=h.hd
  injection e with e1 e2
  have h':En pf x (v::zs):=h
  rw[← e1] at h'
  exact h'
 |y::ys,x,v,zs,h=>by
  have h':En pf x (y::(ys++v::zs)):=h
  generalize hl:y::(ys++v::zs)=l at h'
  cases h' with
  |z _ =>
   injection hl with _ hl
   simp at hl
  |s h2 t =>
   injection hl with _ hl
   rw[← hl] at t
   exact En.suf t
theorem En.nd {x:Int}{l:LI}(h:En pf x l):l.Nodup:=by
 induction h with
 |z _=>simp
 | @s x y l h t ih =>
  rw[List.nodup_cons]
  refine⟨fun hx=>?_,ih⟩
  obtain⟨ys,zs,e⟩:=List.append_of_mem hx
  rw[e] at t
  have h1:=t.suf
  have h2:=h1.fn (.s h t)
  have:=congrArg List.length h2
  simp at this
  omega
theorem En.mem {us:LI}(C:∀ x∈us,∀ y,pf x=some y→y∈us){x:Int}{l:LI}(h:En pf x l):x∈us→∀ y∈l,y∈us:=by
 induction h with
 |z _ =>
  intro hx y hy
  rw[List.mem_singleton.mp hy]
  exact hx
 | @s x y l h t ih =>
  intro hx u hu
  rcases List.mem_cons.mp hu with e | e
  ·rw[e];exact hx
  ·exact ih (C x hx y h) u e
def Pre (pf:Int→Option Int) (x:Int) (ys:LI) (z:Int):Prop:=∀ l,En pf x l↔∃ l',En pf z l'∧l=ys++l'
theorem Pre.z {x:Int}:Pre pf x [] x:=fun l=>⟨fun h=>⟨l,h,rfl⟩,fun⟨l',h,e⟩=>by rw[e];exact h⟩
theorem Pre.s {x z y:Int}{ys:LI}(p:Pre pf x ys z) (h:pf z=some y):Pre pf x (ys++[z]) y:=fun l=>by
 rw[p l]
 constructor
 ·rintro⟨l',h1,e⟩
  cases h1 with
  |z h2=>rw[h] at h2;cases h2
  |s h2 t =>
   rw[h] at h2
   cases h2
   exact⟨_,t,by rw[e];simp⟩
 ·rintro⟨l',h1,e⟩
  exact⟨z::l',.s h h1,by rw[e];simp⟩
theorem Pre.end_ {x z:Int}{ys:LI}(p:Pre pf x ys z) (h:pf z=none):En pf x (ys++[z]):=(p _).mpr ⟨[z],.z h,rfl⟩
theorem Pre.ring {x z y:Int}{ys:LI}(p:Pre pf x ys z) (h:pf z=some y) (hy:y∈ys++[z]):¬∃ l,En pf x l:=fun⟨l,hl⟩=>by
 obtain⟨l',h1,e⟩:=((p.s h) l).mp hl
 obtain⟨t,e2⟩:=h1.hd
 have nd:=hl.nd
 rw[e,e2,List.nodup_append] at nd
 exact nd.2.2 y hy y List.mem_cons_self rfl
theorem Pre.long {us:LI}(C:∀ x∈us,∀ y,pf x=some y→y∈us){x z y:Int}{ys:LI}(hx:x∈us) (p:Pre pf x ys z) (h:pf z=some y) (hl:us.length<(ys++[z]).length+1):¬∃ l,En pf x l:=fun⟨l,hl'⟩=>by
 obtain⟨l',h1,e⟩:=((p.s h) l).mp hl'
 obtain⟨t,e2⟩:=h1.hd
 have h2:=xn hl'.nd (hl'.mem C hx)
 rw[e,e2,List.length_append,List.length_cons] at h2
 omega
noncomputable def paO (pf:Int→Option Int) (x:Int):LI:=by
 classical
 exact if h:∃ l,En pf x l then Classical.choose h else[x]
theorem wX {x:Int}{l:LI}(h:En pf x l):paO pf x=l:=by
 unfold paO
 rw[dif_pos ⟨l,h⟩]
 exact(Classical.choose_spec (⟨l,h⟩:∃ l,En pf x l)).fn h
noncomputable def opV:Option Int→V
 |none=>.non
 |some y=>.int y
theorem Yu (o:Option Int):Fl (opV o):=by
 cases o with
 |none=>exact .inr rfl
 |some y=>exact .inl ⟨y,rfl⟩
def UpP (us:LI) (pf:Int→Option Int) (pa:Int→LI):Prop:=∃ sf:Int→Nat,∀ x∈us,(pf x=none∧pa x=[x])∨∃ y,pf x=some y∧y∈us∧pa x=x::pa y∧sf y<sf x
noncomputable def ldr (pa:Int→LI) (x:Int):Int:=(pa x).getLastD x
theorem U0 {us:LI}{pf:Int→Option Int}{pa:Int→LI}{sf:Int→Nat}(U:∀ x∈us,(pf x=none∧pa x=[x])∨∃ y,pf x=some y∧y∈us∧pa x=x::pa y∧sf y<sf x):∀ (n:Nat){x:Int},sf x≤n→x∈us→(∃ ys,pa x=ys++[ldr pa x])∧pf (ldr pa x)=none∧ldr pa x∈us∧(pa x).Nodup∧(∀ y∈pa x,y∈us∧sf y≤sf x):=by
 intro n
 induction n with
 |zero =>
  intro x hn hx
  rcases U x hx with⟨h1,h2⟩ | ⟨y,_,_,_,h⟩
  ·have e:ldr pa x=x:=by unfold ldr;rw[h2];rfl
   rw[e,h2]
   exact⟨⟨[],rfl⟩,h1,hx,by simp,fun y hy=>by rw[List.mem_singleton.mp hy];exact⟨hx,Nat.le_refl _⟩⟩
  ·omega
 |succ n ih =>
  intro x hn hx
  rcases U x hx with⟨h1,h2⟩ | ⟨y,h1,h2,h3,h4⟩
  ·have e:ldr pa x=x:=by unfold ldr;rw[h2];rfl
   rw[e,h2]
   exact⟨⟨[],rfl⟩,h1,hx,by simp,fun y hy=>by rw[List.mem_singleton.mp hy];exact⟨hx,Nat.le_refl _⟩⟩
  ·obtain⟨⟨ys,i1⟩,i2,i3,i4,i5⟩:=ih (x:=y) (by omega) h2
   have e:ldr pa x=ldr pa y:=by
    have:(pa x).getLastD x=ldr pa y:=by
     rw[h3,i1,← List.cons_append,List.getLastD_eq_getLast?,List.getLast?_append]
     rfl
    exact this
   rw[e,h3]
   refine⟨⟨x::ys,by rw[List.cons_append,← i1]⟩,i2,i3,List.nodup_cons.mpr ⟨fun z=>?_,i4⟩,fun u hu=>?_⟩
   ·have:=(i5 x z).2
    omega
   ·rcases List.mem_cons.mp hu with z | z
    ·rw[z];exact⟨hx,Nat.le_refl _⟩
    ·have:=i5 u z
     exact⟨this.1,by omega⟩
theorem UpP.ld {us:LI}{pf:Int→Option Int}{pa:Int→LI}(U:UpP us pf pa){x:Int}(hx:x∈us):(∃ ys,pa x=ys++[ldr pa x])∧pf (ldr pa x)=none∧ldr pa x∈us∧(pa x).Nodup∧(∀ y∈pa x,y∈us):=by
 obtain⟨sf,U⟩:=U
 obtain⟨h1,h2,h3,h4,h5⟩:=U0 U (sf x) (Nat.le_refl _) hx
 exact⟨h1,h2,h3,h4,fun y hy=>(h5 y hy).1⟩
structure WayAt (a:Ad) (H:Hp) (p:Addr) (pf:Int→Option Int) (us:LI) (ls:LP) (dx dp ob:Addr):Prop where
 p:H p=some (.ins 162 dx [("own_parents",.ref dp),("own_bridges",.ref ob)])
 dp:H dp=some (.dK (tabV (fun x=>opV (pf x)) us))
 ob:∃ rs,H ob=some (.lst rs)∧LnAt H rs ls
 nd:us.Nodup
 l12:us.length≤12
 l66:ls.length≤200
theorem WayAt.same {a:Ad}{H H':Hp}{p dx dp ob:Addr}{pf:Int→Option Int}{us:LI}{ls:LP}(w:WayAt a H p pf us ls dx dp ob) (s:Same H H'):WayAt a H' p pf us ls dx dp ob:=⟨s _ _ w.p,s _ _ w.dp,by obtain⟨rs,e1,e2⟩:=w.ob;exact⟨rs,s _ _ e1,e2.same s⟩,w.nd,w.l12,w.l66⟩
structure WayR (a:Ad) (H:Hp) (p:Addr) (pf:Int→Option Int) (us:LI) (dx dp ob:Addr):Prop where
 p:H p=some (.ins 162 dx [("own_parents",.ref dp),("own_bridges",.ref ob)])
 dp:Rd H dp (.dK (tabV (fun x=>opV (pf x)) us))
 l12:us.length≤12
theorem WayAt.r {a:Ad}{H:Hp}{p dx dp ob:Addr}{pf:Int→Option Int}{us:LI}{ls:LP}(w:WayAt a H p pf us ls dx dp ob):WayR a H p pf us dx dp ob:=⟨w.p,.inl w.dp,w.l12⟩
theorem Vp {H H':Hp}{d:Addr}{u:HO}(h:Rd H d u) (s:Same H H'):Rd H' d u:=h.elim (fun e=>.inl (s _ _ e)) fun⟨o,e⟩=>.inr ⟨o,s _ _ e⟩
theorem WayR.same {a:Ad}{H H':Hp}{p dx dp ob:Addr}{pf:Int→Option Int}{us:LI}(w:WayR a H p pf us dx dp ob) (s:Same H H'):WayR a H' p pf us dx dp ob:=⟨s _ _ w.p,Vp w.dp s,w.l12⟩
theorem vM {H:Hp}{d:Addr}{f:Int→V}{us:LI}{x:Int}(e:Rd H d (.dK (tabV f us))) (h:x∈us):DGet H d (V.int x) (some (f x)):=.inl ⟨_,.inl x,e,rfl,(vi h).symm⟩
def Uq (a:Ad):Sp:=fun vs H Q _=>∃ (p dx d l:Addr) (pf:Int→Option Int) (us:LI) (rs:List V) (ls:LP),vs=[.ref p,.ref d,.ref l]∧H p=some (.ins 162 dx [])∧H d=some (.dK (tabV (fun x=>opV (pf x)) us))∧us.Nodup∧us.length≤12∧H l=some (.lst rs)∧LnAt H rs ls∧ls.length≤200 ∧
 ∀ (dp ob:Addr) (H':Hp),H dp=none→H ob=none→Ext p H H'→WayAt a H' p pf us ls dx dp ob→Q .non H'
theorem UK (T:Txt w K mg a):FnOk P w K mg base CX0 6 96 (dK K 96) ["self", "parents", "bridges"] (Uq a):=by
 have c_copied:Callee P w K mg base "copied" 82 (dK K 82) ["value"] (3+2) (V3 3):=⟨yV T 3,(T.g 1 rfl),(T.fn 1 rfl).kp,(T.bi 1 rfl)⟩
 refine(T.fn 40 rfl).ok (scp 40 rfl) (fun vs H Q E h=>?_) (fun cdv A outer s H vs Q E hr h=>?_)
 ·obtain⟨p,dx,d,l,pf,us,rs,ls,rfl,_⟩:=h
  rfl
 ·obtain⟨p,dx,d,l,pf,us,rs,ls,rfl,hp,hd,nd,l12,hl,L,l66,k⟩:=h
  refine zT (w_pss_cons (uS (zh 0) (zq c_copied hr.m (zg (zh 1) zd)) rfl)
   (ze (uS (zh 0) (zq c_copied hr.m (zg (zh 2) zd)) rfl))) ?_
  refine⟨_,rfl,_,rfl,.inr (.inr (.inl ⟨by decide,d,_,us,rfl,hd,nd,l12,fun x _=>Yu _,fun dp H1 hdp h1 s1=>?_⟩))⟩
  have ndp:dp≠p:=fun z=>by rw[z,hp] at hdp;cases hdp
  refine⟨_,rfl,p,162,dx,_,rfl,s1 _ _ hp,(T.cl 0 rfl),(T.na 0 0 rfl rfl),(by show 0<1000;decide),?_⟩
  have x1:=(Ext.same (l:=p) s1).trans (Ext.at (l:=p) (o:=.ins 162 dx [("own_parents",.ref dp)]))
  have nlp:l≠p:=fun z=>by rw[z,hp] at hl;cases hl
  refine⟨_,rfl,_,rfl,.inr (.inr (.inr ⟨by decide,l,rs,ls,rfl,x1 _ _ hl nlp,L.ext hp x1,l66,fun ob rs' H2 hob h2 L2 s2=>?_⟩))⟩
  refine⟨_,rfl,p,162,dx,_,rfl,s2 _ _ upd_same,(T.cl 0 rfl),(T.na 0 1 rfl rfl),(by show 1<1000;decide),?_⟩
  have nob:ob≠p:=fun z=>by rw[z,upd_same] at hob;cases hob
  have fob:H ob=none:=by
   cases h:H ob with
   |none=>rfl
   |some o=>exact nomatch ((x1 _ _ h nob).symm.trans hob:some o=none)
  refine k dp ob _ hdp fob ((x1.trans (Ext.same s2)).trans Ext.at) ⟨upd_same,?_,⟨rs',?_,L2.ext (s2 _ _ upd_same) Ext.at⟩,nd,l12,l66⟩
  ·rw[upd_ne ndp]
   exact s2 _ _ ((upd_ne ndp).trans h1)
  ·rw[upd_ne nob]
   exact h2
def zbQ (a:Ad):Sp:=fun vs H Q _=>∃ (p dx dp ob:Addr) (pf:Int→Option Int) (us:LI) (ls:LP),vs=[.ref p]∧WayAt a H p pf us ls dx dp ob∧∀ (d:Addr) (H':Hp),H d=none→H' d=some (.dK (tabV (fun x=>opV (pf x)) us))→Same H H'→Q (.ref d) H'
theorem Yf {p dx dp ob:Addr}{pf:Int→Option Int}{us:LI}{ls:LP}{H:Hp}{Q:VK}{E:XK}(W:WayAt a H p pf us ls dx dp ob) (k:∀ (d:Addr) (H':Hp),H d=none→H' d=some (.dK (tabV (fun x=>opV (pf x)) us))→Same H H'→Q (.ref d) H'):zbQ a [.ref p] H Q E:=⟨p,dx,dp,ob,pf,us,ls,rfl,W,k⟩
theorem VI (T:Txt w K mg a):FnOk P w K mg base CX0 6 110 (dK K 110) ["self"] (zbQ a):=by
 have c_copied:Callee P w K mg base "copied" 82 (dK K 82) ["value"] (3+2) (V3 3):=⟨yV T 3,(T.g 1 rfl),(T.fn 1 rfl).kp,(T.bi 1 rfl)⟩
 refine(T.fn 42 rfl).ok (scp 42 rfl) (fun vs H Q E h=>?_) (fun cdv A outer s H vs Q E hr h=>?_)
 ·obtain⟨p,dx,dp,ob,pf,us,ls,rfl,_⟩:=h
  rfl
 ·obtain⟨p,dx,dp,ob,pf,us,ls,rfl,W,k⟩:=h
  refine zT (ze (zj (zq c_copied hr.m (zr (yp (zh 0) rfl) zd)))) ?_
  exact⟨_,rfl,p,_,dx,_,_,rfl,W.p,(T.cl 0 rfl),(T.na 0 0 rfl rfl),rfl,_,rfl,.inr (.inr (.inl ⟨by decide,dp,_,us,rfl,W.dp,W.nd,W.l12,fun x _=>Yu _,k⟩))⟩
def zbR (a:Ad):Sp:=fun vs H Q _=>∃ (p dx dp ob:Addr) (pf:Int→Option Int) (us:LI) (ls:LP),vs=[.ref p]∧WayAt a H p pf us ls dx dp ob∧∀ (l:Addr) (rs:List V) (H':Hp),H l=none→H' l=some (.lst rs)→LnAt H' rs ls→Same H H'→Q (.ref l) H'
theorem wU {p dx dp ob:Addr}{pf:Int→Option Int}{us:LI}{ls:LP}{H:Hp}{Q:VK}{E:XK}(W:WayAt a H p pf us ls dx dp ob) (k:∀ (l:Addr) (rs:List V) (H':Hp),H l=none→H' l=some (.lst rs)→LnAt H' rs ls→Same H H'→Q (.ref l) H'):zbR a [.ref p] H Q E:=⟨p,dx,dp,ob,pf,us,ls,rfl,W,k⟩
theorem ok_ab (T:Txt w K mg a):FnOk P w K mg base CX0 6 117 (dK K 117) ["self"] (zbR a):=by
 have c_copied:Callee P w K mg base "copied" 82 (dK K 82) ["value"] (3+2) (V3 3):=⟨yV T 3,(T.g 1 rfl),(T.fn 1 rfl).kp,(T.bi 1 rfl)⟩
 refine(T.fn 43 rfl).ok (scp 43 rfl) (fun vs H Q E h=>?_) (fun cdv A outer s H vs Q E hr h=>?_)
 ·obtain⟨p,dx,dp,ob,pf,us,ls,rfl,_⟩:=h
  rfl
 ·obtain⟨p,dx,dp,ob,pf,us,ls,rfl,W,k⟩:=h
  refine zT (ze (zj (zq c_copied hr.m (zr (yp (zh 0) rfl) zd)))) ?_
  obtain⟨rs,e1,e2⟩:=W.ob
  exact⟨_,rfl,p,_,dx,_,_,rfl,W.p,(T.cl 0 rfl),(T.na 0 1 rfl rfl),rfl,_,rfl,.inr (.inr (.inr ⟨by decide,ob,rs,ls,rfl,e1,e2,W.l66,k⟩))⟩
def Cl (us:LI) (pf:Int→Option Int):Prop:=∀ x∈us,∀ y,pf x=some y→y∈us
def zcb (a:Ad):Sp:=fun vs H Q _=>∃ (p dx dp ob:Addr) (pf:Int→Option Int) (us:LI) (x:Int),vs=[.ref p,.int x]∧WayR a H p pf us dx dp ob∧Cl us pf∧x∈us ∧
 ∀ (l:Addr) (ys:LI) (z:Int),H l=none→z∈us→((pf z=none∧En pf x (ys++[z]))∨(pf z≠none∧¬∃ l,En pf x l))→Q (.ref l) (upd H l (.lst ((ys++[z]).map V.int)))
theorem VB (T:Txt w K mg a):FnOk P w K mg base CX0 1 124 (dK K 124) ["self", "hand"] (zcb a):=by
 refine(T.fn 44 rfl).ok (scp 44 rfl) (fun vs H Q E h=>?_) (fun cdv A outer s H vs Q E hr h=>?_)
 ·obtain⟨p,dx,dp,ob,pf,us,x,rfl,_⟩:=h
  rfl
 ·obtain⟨p,dx,dp,ob,pf,us,x,rfl,W,C,hx,k⟩:=h
  have hu:=yA hr
  refine zT (w_pss_cons (w_ps_set (i:=2) (scp 44 rfl).nd rfl (Or.inl rfl) (zM (zg (zh 1) zd)))
   (w_pss_cons (w_ps_set (i:=3) (scp 44 rfl).nd rfl (Or.inl rfl) (wT hu (yp (zh 0) rfl) (zh 1) ⟨rfl,rfl,rfl,rfl⟩))
   (w_pss_cons (yG PassesOwn.never (we (yB (zn wz (zh 3) yD (zC _)) (yr (zn xW (zh 3) (zh 2) (by with_unfolding_all rfl)))))
    (w_pss_cons (zO (yi PySem.F.plainAttrs_list PySem.F.slot_list_append PySem.F.type_list_append zU (zh 2) (zg (zh 3) zd)))
    (ze (w_ps_set (i:=3) (scp 44 rfl).nd rfl (Or.inl rfl) (wT hu (yp (zh 0) rfl) (zh 3) ⟨rfl,rfl,rfl,rfl⟩)))))
   (ze (zj (zh 2)))))) ?_
  refine⟨_,rfl,(by show 1≤sizeLine;decide),fun l hl=>?_⟩
  have sm:∀ o,Same H (upd H l o):=fun o=>Same.new hl
  refine⟨_,rfl,p,_,dx,_,_,rfl,(W.same (sm _)).p,(T.cl 0 rfl),(T.na 0 0 rfl rfl),rfl,dp,rfl,.inl ⟨_,(W.same (sm _)).dp⟩,_,rfl,some (opV (pf x)),vM (W.same (sm _)).dp hx,?_⟩
  refine⟨fun m σ H'=>∃ (ys:LI) (z:Int),m+(ys++[z]).length=us.length∧σ=[some (.ref p),some (.int x),some (.ref l),some (opV (pf z))]∧H'=upd H l (.lst ((ys++[z]).map V.int))∧z∈us∧Pre pf x ys z∧(ys++[z]).Nodup∧∀ y∈ys,y∈us,⟨us.length-1,[],x,by have:=List.length_pos_of_mem hx;simp;omega,rfl,rfl,hx,Pre.z,(by simp),(fun y hy=>(nomatch hy))⟩,?_⟩
  rintro m σ H' ⟨ys,z,hm,rfl,rfl,hz,hp,nd,hsub⟩
  have hlen:(ys++[z]).length≤12:=Nat.le_trans (by omega) W.l12
  cases h1:pf z with
  |none =>
   refine⟨_,rfl,rfl,_,rfl,iteN rfl ?_⟩
   refine⟨_,rfl,?_⟩
   exact k l ys z hl hz (.inl ⟨h1,hp.end_ h1⟩)
  |some y =>
   refine⟨_,rfl,rfl,_,rfl,wa ?_⟩
   have h2:=C z hz y h1
   by_cases hny:y∈ys++[z]
   ·refine⟨_,rfl,_,rfl,l,_,rfl,.inl (SqL.of upd_same),rfl,yu _,_,rfl,iteN (by show(!inV (.int y) _)=false;rw[yP,decide_eq_true hny];rfl) ?_⟩
    refine⟨_,rfl,?_⟩
    exact k l ys z hl hz (.inr ⟨by rw[h1];simp,hp.ring h1 hny⟩)
   ·refine⟨_,rfl,_,rfl,l,_,rfl,.inl (SqL.of upd_same),rfl,yu _,_,rfl,iteB (by show(!inV (.int y) _)=true;rw[yP,decide_eq_false hny];rfl) ?_⟩
    refine⟨_,fun σ' H' h=>h,?_⟩
    refine⟨_,rfl,.inl ⟨rfl,_,SqL.of upd_same⟩,_,rfl,l,_,_,rfl,rfl,upd_same,(by rw[List.length_map];exact zu (by omega)),?_⟩
    rw[xJ]
    refine⟨_,rfl,p,_,dx,_,_,rfl,(W.same (sm _)).p,(T.cl 0 rfl),(T.na 0 0 rfl rfl),rfl,dp,rfl,.inl ⟨_,(W.same (sm _)).dp⟩,_,rfl,some (opV (pf y)),vM (W.same (sm _)).dp h2,?_⟩
    have nd2:(ys++[z]++[y]).Nodup:=by
     rw[List.nodup_append]
     exact⟨nd,by simp,fun u hu v hv e=>hny (by rw[List.mem_singleton.mp hv] at e;rw[← e];exact hu)⟩
    have hs2:∀ u∈ys++[z],u∈us:=fun u hu=>(List.mem_append.mp hu).elim (hsub u) fun q=>by rw[List.mem_singleton.mp q];exact hz
    have hn2:=xn nd2 fun u hu=>(List.mem_append.mp hu).elim (hs2 u) fun q=>by rw[List.mem_singleton.mp q];exact h2
    have e2:(ys++[z]++[y]).length=(ys++[z]).length+1:=by simp
    refine⟨m-1,by omega,ys++[z],y,by omega,rfl,?_,h2,hp.s h1,nd2,hs2⟩
    rw[List.map_append (l₂:=[y])]
    rfl
def zaK (a:Ad):Sp:=fun vs H Q _=>∃ (p dx dp ob:Addr) (pf:Int→Option Int) (us:LI) (x:Int),vs=[.ref p,.int x]∧WayR a H p pf us dx dp ob∧Cl us pf∧x∈us∧∀ (ys:LI) (z:Int) (H':Hp),Same H H'→z∈us→((pf z=none∧En pf x (ys++[z]))∨(pf z≠none∧¬∃ l,En pf x l))→Q (.int z) H'
theorem WN (T:Txt w K mg a):FnOk P w K mg base CX0 2 131 (dK K 131) ["self", "hand"] (zaK a):=by
 refine(T.fn 45 rfl).ok (scp 45 rfl) (fun vs H Q E h=>?_) (fun cdv A outer s H vs Q E hr h=>?_)
 ·obtain⟨p,dx,dp,ob,pf,us,x,rfl,_⟩:=h
  rfl
 ·obtain⟨p,dx,dp,ob,pf,us,x,rfl,W,C,hx,k⟩:=h
  refine zT (ze (zj (zL ye (zx (zh 0) (zg (zh 1) zd)) (xj xU zi) (fun _ _=>rfl)))) ?_
  refine mtV rfl W.p rfl (T.cl 0 rfl) (T.mt 44 rfl) (VB (P:=P) (w:=w) T) hr.m (T.bi 44 rfl) ⟨_,rfl,p,dx,dp,ob,pf,us,x,rfl,W,C,hx,fun l ys z hl hz hor=>?_⟩
  refine⟨_,rfl,l,_,-1,_,rfl,rfl,SqL.of upd_same,?_,k ys z _ (Same.new hl) hz hor⟩
  rw[List.map_append]
  exact at_last
theorem UpP.cl {us:LI}{pf:Int→Option Int}{pa:Int→LI}(U:UpP us pf pa):Cl us pf:=fun x hx y h=>by
 obtain⟨sf,U⟩:=U
 rcases U x hx with⟨h1,_⟩ | ⟨y',h1,h2,_⟩
 ·rw[h] at h1;cases h1
 ·rw[h] at h1;cases h1;exact h2
theorem UpP.en {us:LI}{pf:Int→Option Int}{pa:Int→LI}(U:UpP us pf pa){x:Int}(hx:x∈us):En pf x (pa x):=by
 obtain⟨sf,U⟩:=U
 have go:∀ (n:Nat){x:Int},sf x≤n→x∈us→En pf x (pa x):=by
  intro n
  induction n with
  |zero =>
   intro x hn hx
   rcases U x hx with⟨h1,h2⟩ | ⟨y,_,_,_,h⟩
   ·rw[h2];exact .z h1
   ·omega
  |succ n ih =>
   intro x hn hx
   rcases U x hx with⟨h1,h2⟩ | ⟨y,h1,h2,h3,h4⟩
   ·rw[h2];exact .z h1
   ·rw[h3];exact .s h1 (ih (by omega) h2)
 exact go _ (Nat.le_refl _) hx
theorem UpP.of {us:LI}{pf:Int→Option Int}(C:Cl us pf) (h:∀ x∈us,∃ l,En pf x l):UpP us pf (paO pf):=⟨fun x=>(paO pf x).length,fun x hx=>by
 obtain⟨l,hl⟩:=h x hx
 cases hl with
 |z h1=>exact .inl ⟨h1,wX (.z h1)⟩
 | @s _ y l h1 t=>exact .inr ⟨y,h1,C x hx y h1,by rw[wX (.s h1 t),wX t],by show(paO pf y).length<(paO pf x).length;rw[wX (.s h1 t),wX t];simp⟩⟩
def zbK (a:Ad):Sp:=fun vs H Q _=>∃ (p dx dp ob:Addr) (pf:Int→Option Int) (pa:Int→LI) (us:LI) (x:Int),vs=[.ref p,.int x]∧WayR a H p pf us dx dp ob∧UpP us pf pa∧x∈us∧∀ (H':Hp),Same H H'→Q (.int (ldr pa x)) H'
theorem xy {p dx dp ob:Addr}{pf:Int→Option Int}{pa:Int→LI}{us:LI}{x:Int}{H:Hp}{Q:VK}{E:XK}(W:WayR a H p pf us dx dp ob) (U:UpP us pf pa) (hx:x∈us) (k:∀ (H':Hp),Same H H'→Q (.int (ldr pa x)) H'):zbK a [.ref p,.int x] H Q E:=⟨p,dx,dp,ob,pf,pa,us,x,rfl,W,U,hx,k⟩
theorem wB (T:Txt w K mg a):FnOk P w K mg base CX0 2 131 (dK K 131) ["self", "hand"] (zbK a):=(WN T).imp fun vs H Q E h=>by
 obtain⟨p,dx,dp,ob,pf,pa,us,x,rfl,W,U,hx,k⟩:=h
 refine⟨p,dx,dp,ob,pf,us,x,rfl,W,U.cl,hx,fun ys z H' s hz hor=>?_⟩
 rcases hor with⟨_,h⟩ | ⟨_,h⟩
 ·have e:ldr pa x=z:=by
   unfold ldr
   rw[(U.en hx).fn h,List.getLastD_eq_getLast?,List.getLast?_append]
   simp
  rw[← e]
  exact k _ s
 ·exact absurd ⟨_,U.en hx⟩ h
open L2.Sco (PT PsAt)
noncomputable def jk (lf:Int→Int) (p:Int×Int):Int×Int:=(min (lf p.1) (lf p.2),max (lf p.1) (lf p.2))
def jst (lf:Int→Int) (acc:List ((Int×Int)×(Int×Int))) (p:Int×Int):List ((Int×Int)×(Int×Int)) :=
 if lf p.1=lf p.2 then acc else if jk lf p∈acc.map (·.1) then acc else acc++[(jk lf p,p)]
def jn (lf:Int→Int) (ls:LP):List ((Int×Int)×(Int×Int)):=ls.foldl (jst lf) []
theorem uH {lf:Int→Int}{ls:LP}{p:Int×Int}:jn lf (ls++[p])=jst lf (jn lf ls) p:=by
 unfold jn
 rw[List.foldl_append]
 rfl
theorem VQ {lf:Int→Int}{acc:List ((Int×Int)×(Int×Int))}{p:Int×Int}:(jst lf acc p).length≤acc.length+1:=by
 unfold jst
 split
 ·omega
 ·split
  ·omega
  ·simp
theorem Zo {lf:Int→Int}{ls:LP}:(jn lf ls).length≤ls.length:=by
 suffices ∀ (acc:List ((Int×Int)×(Int×Int))),(ls.foldl (jst lf) acc).length≤acc.length+ls.length by
  have:=this []
  unfold jn
  simpa using this
 induction ls with
 |nil=>intro acc;simp
 |cons p ls ih =>
  intro acc
  have h1:=ih (jst lf acc p)
  have h2:=VQ (lf:=lf) (acc:=acc) (p:=p)
  rw[List.foldl_cons,List.length_cons]
  omega
theorem yH {x y:Int}{ms:LI}(pm:ms.Perm [x,y]) (sd:ms.Pairwise (· ≤ ·)):ms=[min x y,max x y]:=by
 have hl:=pm.length_eq
 match ms,hl with
 |[u,v],_ =>
  have h1:u≤v:=(List.pairwise_cons.mp sd).1 v (by simp)
  have hu:u=x∨u=y:=by simpa using pm.mem_iff.mp (show u∈[u,v] by simp)
  have hx:x=u∨x=v:=by simpa using pm.mem_iff.mpr (show x∈[x,y] by simp)
  have hy:y=u∨y=v:=by simpa using pm.mem_iff.mpr (show y∈[x,y] by simp)
  have hv:v=x∨v=y:=by simpa using pm.mem_iff.mp (show v∈[u,v] by simp)
  have e1:u=min x y:=by omega
  have e2:v=max x y:=by omega
  rw[e1,e2]
def kvJ (js:List ((Int×Int)×PT)):List (List Key×V):=js.map fun j=>([Sum.inl j.1.1,Sum.inl j.1.2],V.ref j.2.1)
def tlJ (js:List ((Int×Int)×PT)):List ((Int×Int)×(Int×Int)):=js.map fun j=>(j.1,j.2.2)
theorem YE {js:List ((Int×Int)×PT)}{k:Int×Int}:(yE (kvJ js) ([Sum.inl k.1,Sum.inl k.2]:List Key)).isSome=decide (k∈js.map (·.1)):=by
 rw[wq]
 apply decide_eq_decide.mpr
 unfold kvJ
 rw[List.map_map]
 constructor
 ·intro h
  obtain⟨j,hj,e⟩:=List.mem_map.mp h
  refine List.mem_map.mpr ⟨j,hj,?_⟩
  have e:([Sum.inl j.1.1,Sum.inl j.1.2]:List Key)=[Sum.inl k.1,Sum.inl k.2]:=e
  injection e with e1 e2
  injection e2 with e2 _
  injection e1 with e1
  injection e2 with e2
  exact Prod.ext e1 e2
 ·intro h
  obtain⟨j,hj,e⟩:=List.mem_map.mp h
  exact List.mem_map.mpr ⟨j,hj,by rw[← e];rfl⟩
def zaO (a:Ad):Sp:=fun vs H Q _=>∃ (p dx dp ob l:Addr) (pf:Int→Option Int) (pa:Int→LI) (us:LI) (bs ls:LP) (rs:List V),vs=[.ref p,.ref l]∧WayAt a H p pf us bs dx dp ob∧UpP us pf pa∧H l=some (.lst rs)∧LnAt H rs ls∧Bd ls∧ls.length≤66∧(∀ q∈ls,q.1∈us∧q.2∈us) ∧
 ∀ (d:Addr) (js:List ((Int×Int)×PT)) (H':Hp),H d=none→H' d=some (.dT (kvJ js))→tlJ js=jn (ldr pa) ls→PsAt H' (js.map (·.2))→Same H H'→Q (.ref d) H'
theorem US (T:Txt w K mg a):FnOk P w K mg base CX0 3 208 (dK K 208) ["way", "lines"] (zaO a):=by
 refine(T.fn 7 rfl).ok (scp 7 rfl) (fun vs H Q E h=>?_) (fun cdv A outer s H vs Q E hr h=>?_)
 ·obtain⟨p,dx,dp,ob,l,pf,pa,us,bs,ls,rs,rfl,_⟩:=h
  rfl
 ·obtain⟨p,dx,dp,ob,l,pf,pa,us,bs,ls,rs,rfl,W,U,hl,L,B,l66,hin,k⟩:=h
  have hu:=yA hr
  generalize hlf:ldr pa=lf at *
  refine zT (w_pss_cons (w_ps_set (i:=2) (scp 7 rfl).nd rfl (Or.inl rfl) yY)
   (w_pss_cons (zG PassesOwn.never rfl (zy (zh 1)) (zZ rfl (zp (zk (i:=3) (scp 7 rfl).nd rfl (Or.inl rfl)) (zp (zk (i:=4) (scp 7 rfl).nd rfl (Or.inl rfl)) zP)))
    (w_pss_cons (w_ps_set (i:=5) (scp 7 rfl).nd rfl (Or.inl rfl) (yn xG (by rfl) (T.n 8 rfl) xb (zQ (zm yo (by rfl) (T.n 6 rfl) zW (zr (zM (zQ (zx (zh 0) (zg (zh 3) zd)) (zQ (zx (zh 0) (zg (zh 4) zd)) zd))) zd)) zd)))
    (ze (zB (zn x6 (zL ym (zh 5) zi (fun _ _=>rfl)) (zL ym (zh 5) zi (fun _ _=>rfl)) (zC _))
     (ze (zO (xt hu (zh 2) (zh 5) (zR (zg (zh 3) (zg (zh 4) zd))) ⟨rfl,rfl,rfl,rfl⟩)))
     zo))))
   (ze (zj (zh 2))))) ?_
  refine fun d hd=>?_
  have lr:=L.1
  refine⟨_,rfl,l,rfl,⟨_,SqL.of (Same.new hd _ _ hl)⟩,?_⟩
  refine for_list (xs:=rs) (fun i σ H'=>∃ (js:List ((Int×Int)×PT)) (o3 o4 o5:Option V),σ=[some (.ref p),some (.ref l),some (.ref d),o3,o4,o5]∧H' d=some (.dT (kvJ js))∧tlJ js=jn lf (ls.take i)∧PsAt H' (js.map (·.2))∧Same H H') ?_ ?_ ?_ ?_
  ·exact⟨[],none,none,none,rfl,upd_same,rfl,(fun p hp=>(nomatch hp)),Same.new hd⟩
  ·rintro i σ H' hi ⟨js,o3,o4,o5,_,_,_,_,sm⟩
   exact SqL.of (sm _ _ hl)
  ·rintro i v σ H1 hi ⟨js,o3,o4,o5,rfl,hd1,ej,ps,sm⟩
   obtain⟨⟨x,y⟩,q,hp,rfl,hq⟩:=L.get hi
   have hpm:=List.mem_of_getElem? hp
   obtain⟨hx,hy⟩:=hin _ hpm
   have hbd:=B _ hpm
   dsimp only at hx hy hbd hq
   have ljs:js.length≤66:=by
    have h1:=congrArg List.length ej
    unfold tlJ at h1
    rw[List.length_map] at h1
    have h2:=Zo (lf:=lf) (ls:=ls.take i)
    rw[List.length_take] at h2
    omega
   refine⟨q,_,rfl,SqT.of (sm _ _ hq),rfl,_,_,rfl,_,_,rfl,rfl,?_⟩
   refine mtV rfl (sm _ _ W.p) rfl (T.cl 0 rfl) (T.mt 45 rfl) (wB (P:=P) (w:=w) T) hr.m (T.bi 45 rfl) (ag1 rfl (xy ((W.same sm).r) U hx (fun H2 s2=>?_)))
   rw[hlf]
   have sm2:=sm.trans s2
   refine mtV rfl (sm2 _ _ W.p) rfl (T.cl 0 rfl) (T.mt 45 rfl) (wB (P:=P) (w:=w) T) hr.m (T.bi 45 rfl) (ag1 rfl (xy ((W.same sm2).r) U hy (fun H3 s3=>?_)))
   rw[hlf]
   have sm3:=sm2.trans s3
   refine⟨(by show 2≤sizeLine;decide),fun pl hpl=>?_⟩
   have s4:=Same.new (o:=HO.lst [V.int (lf x),V.int (lf y)]) hpl
   refine⟨pl,[lf x,lf y],rfl,SqL.of upd_same,(by show 2<64;decide),fun pm ms hpm' pmm sd=>?_⟩
   rw[yH pmm sd]
   have s5:=s4.trans (Same.new (o:=HO.lst ([min (lf x) (lf y),max (lf x) (lf y)].map V.int)) hpm')
   refine⟨pm,_,rfl,.inl ⟨SqL.of upd_same,fun pt hpt=>?_⟩⟩
   have s6:=s5.trans (Same.new (o:=HO.tup ([min (lf x) (lf y),max (lf x) (lf y)].map V.int)) hpt)
   have ht6:=upd_same (H:=(upd (upd H3 pl (HO.lst [V.int (lf x),V.int (lf y)])) pm (HO.lst ([min (lf x) (lf y),max (lf x) (lf y)].map V.int)))) (a:=pt) (o:=HO.tup ([min (lf x) (lf y),max (lf x) (lf y)].map V.int))
   generalize upd (upd (upd H3 pl (HO.lst [V.int (lf x),V.int (lf y)])) pm (HO.lst ([min (lf x) (lf y),max (lf x) (lf y)].map V.int))) pt (HO.tup ([min (lf x) (lf y),max (lf x) (lf y)].map V.int))=H6 at *
   have t6:=(s2.trans s3).trans s6
   have sm6:=sm.trans t6
   refine⟨_,rfl,pt,_,0,_,rfl,rfl,SqT.of ht6,rfl,_,rfl,pt,_,1,_,rfl,rfl,SqT.of ht6,rfl,rfl,_,rfl,?_⟩
   have etk:ls.take (i+1)=ls.take i++[(x,y)]:=by rw[List.take_add_one,hp];rfl
   by_cases c:lf x=lf y
   ·refine iteN (by rw[c];simp) ?_
    refine⟨js,_,_,_,rfl,t6 _ _ hd1,?_,ps.same t6,sm6⟩
    rw[etk,uH]
    unfold jst
    rw[if_pos c]
    exact ej
   ·refine iteB (by simp;omega) ?_
    refine⟨_,rfl,d,rfl,.inr ⟨_,.inl (t6 _ _ hd1)⟩,_,rfl,_,rfl,_,rfl,(by show 2≤sizeLine;decide),fun pr hpr=>?_⟩
    have s7:=Same.new (o:=HO.tup [V.int x,V.int y]) hpr
    have t7:=t6.trans s7
    have hd7:=t7 _ _ hd1
    have npd:pr≠d:=fun z=>by rw[z,t6 _ _ hd1] at hpr;cases hpr
    have key:(yE (kvJ js) ([Sum.inl (min (lf x) (lf y)),Sum.inl (max (lf x) (lf y))]:List Key)).isSome=decide (jk lf (x,y)∈js.map (·.1)):=YE (js:=js) (k:=jk lf (x,y))
    have emp:(tlJ js).map (·.1)=js.map (·.1):=by unfold tlJ;rw[List.map_map];rfl
    refine .inr ⟨kvJ js,[Sum.inl (min (lf x) (lf y)),Sum.inl (max (lf x) (lf y))],pt,hd7,rfl,s7 _ _ ht6,by unfold kvJ;rw[List.length_map];exact zu (by omega),fun u hu'=>?_,fun hn=>?_⟩
    ·rw[hu'] at key
     have hk:jk lf (x,y)∈js.map (·.1):=of_decide_eq_true key.symm
     refine⟨js,_,_,_,rfl,hd7,?_,ps.same t7,sm.trans t7⟩
     rw[etk,uH,← ej]
     unfold jst
     rw[if_neg c,if_pos (by rw[emp];exact hk)]
    ·rw[hn] at key
     have hk:jk lf (x,y)∉js.map (·.1):=of_decide_eq_false key.symm
     refine⟨js++[(jk lf (x,y),(pr,x,y))],_,_,_,rfl,?_,?_,?_,Same.updF (sm.trans t7) hd⟩
     ·rw[upd_same]
      rw[L2.putK_new _ hn]
      unfold kvJ
      rw[List.map_append]
      rfl
     ·rw[etk,uH,← ej]
      unfold jst
      rw[if_neg c,if_neg (by rw[emp];exact hk)]
      unfold tlJ
      rw[List.map_append]
      rfl
     ·have hnd:∀ b xs,(upd H6 pr (HO.tup [V.int x,V.int y])) b=some (.tup xs)→b≠d:=fun b xs e z=>by rw[z,hd7] at e;cases e
      rw[List.map_append]
      intro q' hq'
      rcases List.mem_append.mp hq' with z | z
      ·have h1:=ps.same t7 q' z
       exact⟨by rw[upd_ne (hnd _ _ h1.1)];exact h1.1,h1.2⟩
      ·rw[List.mem_singleton.mp z]
       exact⟨by rw[upd_ne npd];exact upd_same,hbd⟩
  ·rintro σ H1 ⟨js,o3,o4,o5,rfl,hd1,ej,ps,sm⟩
   rw[List.take_of_length_le (by omega)] at ej
   exact⟨_,rfl,k d js H1 hd hd1 ej ps sm⟩
inductive WhV:V→Bool→Prop where
 |int (i:Int):WhV (.int i) true
 |non:WhV .non false
 |str (x:Str):WhV (.str x) false
def vj:Sp:=fun vs H Q _=>∃ v b,vs=[v]∧WhV v b∧Q (.bl b) H
theorem v5 (T:Txt w K mg a):FnOk P w K mg base CX0 1 77 (dK K 77) ["value"] vj:=by
 refine(T.fn 0 rfl).ok (scp 0 rfl) (fun vs H Q E h=>?_) (fun cdv A outer s H vs Q E hr h=>?_)
 ·obtain⟨v,b,rfl,_⟩:=h
  rfl
 ·obtain⟨v,b,rfl,hv,k⟩:=h
  refine zT (ze (zj (xu (zm zY (by rfl) (T.n 3 rfl) zA (zg (zh 0) (zg (yh (T.n 1 rfl) WZ) zd))) (yL (Xk (zm zY (by rfl) (T.n 3 rfl) zA (zg (zh 0) (zg (yh (T.n 7 rfl) uP) zd)))))))) ?_
  cases hv with
  |int i =>
   refine⟨_,rfl,_,_,_,_,_,rfl,rfl,.int i,(T.k 0 rfl),_,rfl,wa ?_⟩
   exact⟨_,rfl,_,_,_,_,_,rfl,rfl,.int i,(T.k 1 rfl),_,rfl,k⟩
  |non=>exact⟨_,rfl,_,_,_,_,_,rfl,rfl,.non,(T.k 14 rfl),_,rfl,iteN rfl k⟩
  |str x=>exact⟨_,rfl,_,_,_,_,_,rfl,rfl,.str x,(T.k 15 rfl),_,rfl,iteN rfl k⟩
def poV (us:LI) (pf:Int→Option Int):V→V
 |.int x=>if x∈us then opV (pf x) else .non
 |_=>.non
def zcc (a:Ad):Sp:=fun vs H Q _=>∃ (p dx dp ob:Addr) (pf:Int→Option Int) (us:LI) (ls:LP) (v:V) (b:Bool),vs=[.ref p,v]∧WayAt a H p pf us ls dx dp ob∧WhV v b∧∀ H',Same H H'→Q (poV us pf v) H'
theorem za4 (T:Txt w K mg a):FnOk P w K mg base CX0 6 103 (dK K 103) ["self", "hand"] (zcc a):=by
 have c_is_whole:Callee P w K mg base "is_whole" 77 (dK K 77) ["value"] 1 vj:=⟨v5 T,(T.g 0 rfl),(T.fn 0 rfl).kp,(T.bi 0 rfl)⟩
 have c_copied:Callee P w K mg base "copied" 82 (dK K 82) ["value"] (3+2) (V3 3):=⟨yV T 3,(T.g 1 rfl),(T.fn 1 rfl).kp,(T.bi 1 rfl)⟩
 refine(T.fn 41 rfl).ok (scp 41 rfl) (fun vs H Q E h=>?_) (fun cdv A outer s H vs Q E hr h=>?_)
 ·obtain⟨p,dx,dp,ob,pf,us,ls,v,b,rfl,_⟩:=h
  rfl
 ·obtain⟨p,dx,dp,ob,pf,us,ls,v,b,rfl,W,hv,k⟩:=h
  refine zT (w_pss_cons (vF (zG PassesOwn.never rfl (xi (yp (zh 0) rfl)) (zZ rfl (zp (zk (i:=2) (scp 41 rfl).nd rfl (Or.inl rfl)) (zp (zk (i:=3) (scp 41 rfl).nd rfl (Or.inl rfl)) zP)))
    (ze (zB (we (yB (zn xR (zq c_is_whole hr.m (zg (zh 2) zd)) (zq c_is_whole hr.m (zg (zh 1) zd)) (zC _)) (yr (zn xR (zh 2) (zh 1) (zC _)))))
     (ze (zj (zq c_copied hr.m (zg (zh 3) zd))))
     zo))))
   (ze (zj yD))) ?_
  refine⟨_,rfl,p,_,dx,_,_,rfl,W.p,(T.cl 0 rfl),(T.na 0 0 rfl rfl),rfl,dp,_,rfl,W.dp,fun od S=>?_⟩
  have hz1:=upd_same (H:=H) (a:=dp) (o:=HO.frz od (HO.dK (tabV (fun x=>opV (pf x)) us)))
  have x1:Ext dp H (upd H dp (HO.frz od (HO.dK (tabV (fun x=>opV (pf x)) us)))):=Ext.at
  generalize upd H dp (HO.frz od (HO.dK (tabV (fun x=>opV (pf x)) us)))=H1 at *
  have back:∀ {G:Hp},Same H1 G→Same H (upd G dp (HO.dK (tabV (fun x=>opV (pf x)) us))):=fun {G} sm b o e=>by
   by_cases z:b=dp
   ·rw[z,W.dp] at e;cases e;rw[z];exact upd_same
   ·rw[upd_ne z];exact sm _ _ (x1 _ _ e z)
  refine Zq (yl:=yI) (d:=dp) (od:=od) (kvs:=tabV (fun x=>opV (pf x)) us) (fun i σ H'=>∃ (o2 o3:Option V),σ=[some (.ref p),some v,o2,o3]∧Same H1 H'∧∀ x,v=.int x→x∉us.take i) ?_ ?_ ?_ ?_
  ·exact⟨none,none,rfl,fun _ _ h=>h,fun x _=>by simp⟩
  ·rintro i σ H' ⟨o2,o3,_,sm,_⟩
   exact sm _ _ hz1
  ·rintro i kv u σ G G' hkv ⟨o2,o3,rfl,sm,hni⟩ hy
   obtain⟨x,hx,rfl⟩:∃ x,us[i]?=some x∧kv=(Sum.inl x,opV (pf x)):=by
    unfold tabV at hkv
    rw[List.getElem?_map] at hkv
    obtain⟨x,h1,h2⟩:=Option.map_eq_some_iff.mp hkv
    exact⟨x,h1,h2.symm⟩
   obtain⟨p0,hp0,rfl,rfl⟩:=ZS hy
   have etk:us.take (i+1)=us.take i++[x]:=by rw[List.take_add_one,hx];rfl
   have hxu:=List.mem_of_getElem? hx
   have n1:=Same.new (o:=HO.tup [V.int x,opV (pf x)]) hp0
   have sm2:=sm.trans n1
   refine⟨p0,_,rfl,SqT.of upd_same,rfl,_,_,rfl,_,_,rfl,rfl,?_⟩
   generalize upd G p0 (HO.tup [V.int x,opV (pf x)])=G2 at *
   refine⟨_,rfl,_,true,rfl,.int x,_,rfl,v,b,rfl,hv,rfl,_,rfl,?_⟩
   cases hv with
   |non=>exact iteN (by rfl) ⟨_,_,rfl,sm2,fun y hy=>(nomatch hy)⟩
   |str s=>exact iteN (by rfl) ⟨_,_,rfl,sm2,fun y hy=>(nomatch hy)⟩
   |int j =>
    refine iteB (by rfl) ?_
    refine⟨_,rfl,_,rfl,rfl,_,rfl,?_⟩
    by_cases c:x=j
    ·subst c
     refine iteB (by simp) ?_
     refine⟨_,rfl,_,rfl,.inl ⟨by decide,Yu _,?_⟩⟩
     refine .inr ⟨dp,od,_,S,sm2 _ _ hz1,?_⟩
     have e:poV us pf (.int x)=opV (pf x):=if_pos hxu
     have:=k _ (back sm2)
     rw[e] at this
     exact this
    ·refine iteN (by simp[c]) ⟨_,_,rfl,sm2,fun y hy=>?_⟩
     cases hy
     rw[etk]
     exact fun z=>(List.mem_append.mp z).elim (hni j rfl) fun e=>c (List.mem_singleton.mp e).symm
  ·rintro σ H' ⟨o2,o3,rfl,sm,hni⟩
   rw[tabV_len,List.take_length] at hni
   refine .inr ⟨dp,od,_,S,sm _ _ hz1,?_⟩
   have e:poV us pf v=.non:=by
    cases hv with
    |int i=>exact if_neg (hni i rfl)
    |non=>rfl
    |str x=>rfl
   have:=k _ (back sm)
   rw[e] at this
   exact this
open L2.Sco (PT PsAt)
structure WbP (a:Ad) (H:Hp) (p:Addr) (hs:LI) (ls:LP):Prop where
 wh:Hs hs
 wl:Ls hs ls
 at_:∃ dx oh ol d ad,WebAt a H p hs ls dx oh ol d ad
theorem WbP.same {H H':Hp}{p:Addr}{hs:LI}{ls:LP}(h:WbP a H p hs ls) (s:Same H H'):WbP a H' p hs ls:=⟨h.wh,h.wl,let ⟨dx,oh,ol,d,ad,W⟩:=h.at_;⟨dx,oh,ol,d,ad,W.same s⟩⟩
def Us (a:Ad):Sp:=fun vs H Q _=>∃ (p:Addr) (hs:LI) (ls:LP) (dx oh ol d:Addr) (ad:Int→Addr),vs=[.ref p]∧WebAt a H p hs ls dx oh ol d ad∧∀ q zs,H q=none→LnAt H zs (srt ls)→Q (.ref q) (upd H q (.lst zs))
theorem ut {p:Addr}{hs:LI}{ls:LP}{dx oh ol d:Addr}{ad:Int→Addr}{H:Hp}{Q:VK}{E:XK}(W:WebAt a H p hs ls dx oh ol d ad) (k:∀ q zs,H q=none→LnAt H zs (srt ls)→Q (.ref q) (upd H q (.lst zs))):Us a [.ref p] H Q E:=⟨p,hs,ls,dx,oh,ol,d,ad,rfl,W,k⟩
theorem Yv (T:Txt w K mg a):FnOk P w K mg base CX0 1 372 (dK K 372) ["self"] (Us a):=by
 refine(T.fn 49 rfl).ok (scp 49 rfl) (fun vs H Q E h=>?_) (fun cdv A outer s H vs Q E hr h=>?_)
 ·obtain⟨p,hs,ls,dx,oh,ol,d,ad,rfl,_⟩:=h
  rfl
 ·obtain⟨p,hs,ls,dx,oh,ol,d,ad,rfl,W,k⟩:=h
  refine zT (ze (zj (yn yX (by rfl) (T.n 4 rfl) bt_list (zr (yp (zh 0) rfl) zd)))) ?_
  obtain⟨zs,h1,h2⟩:=W.ol
  exact⟨_,rfl,p,_,dx,_,_,rfl,W.p,(T.cl 1 rfl),(T.na 1 1 rfl rfl),rfl,ol,_,rfl,.inl (SqL.of h1),fun q hq=>k q zs hq h2⟩
theorem Zx {ls:LP}{x y:Int}:adB ls x y=adB ls y x:=by
 unfold adB
 rw[Bool.or_comm]
def zce (a:Ad):Sp:=fun vs H Q _=>∃ (p:Addr) (x y:Int) (hs:LI) (ls:LP) (dx oh ol d:Addr) (ad:Int→Addr),vs=[.ref p,.int x,.int y]∧WebAt a H p hs ls dx oh ol d ad∧x∈hs∧y∈hs∧Q (.bl (adB ls x y)) H
theorem UR (T:Txt w K mg a):FnOk P w K mg base CX0 3 386 (dK K 386) ["self", "one", "other"] (zce a):=by
 refine(T.fn 51 rfl).ok (scp 51 rfl) (fun vs H Q E h=>?_) (fun cdv A outer s H vs Q E hr h=>?_)
 ·obtain⟨p,x,y,hs,ls,dx,oh,ol,d,ad,rfl,_⟩:=h
  rfl
 ·obtain⟨p,x,y,hs,ls,dx,oh,ol,d,ad,rfl,W,hx,hy,k⟩:=h
  have hu:=yA hr
  refine zT (ze (zj (xu (zx (zh 0) (zg (zh 1) zd)) (xu (zx (zh 0) (zg (zh 2) zd)) (yL (z7 xB (zh 2) (zH hu (yp (zh 0) rfl) (zh 1) (fun _ _=>rfl)) (by with_unfolding_all rfl))))))) ?_
  refine mtV rfl W.p rfl (T.cl 1 rfl) (T.mt 50 rfl) (Zk (P:=P) (w:=w) T) hr.m (T.bi 50 rfl) ⟨_,rfl,p,x,hs,ls,dx,oh,ol,d,ad,rfl,W,hx,_,rfl,wa ?_⟩
  refine mtV rfl W.p rfl (T.cl 1 rfl) (T.mt 50 rfl) (Zk (P:=P) (w:=w) T) hr.m (T.bi 50 rfl) ⟨_,rfl,p,y,hs,ls,dx,oh,ol,d,ad,rfl,W,hy,_,rfl,wa ?_⟩
  refine⟨_,rfl,_,rfl,p,_,dx,_,_,rfl,W.p,(T.cl 1 rfl),(T.na 1 2 rfl rfl),rfl,_,rfl,d,V.ref (ad x),rfl,wu W.nr.d hx,ad x,_,rfl,.inl (SqL.of (W.nr.nb x hx)),rfl,yu _,?_⟩
  have e:inV (.int y) ((nbs ls x).map V.int)=adB ls x y:=by rw[yP,Xe]
  rw[e]
  exact k
theorem WebAt.frz {H G:Hp}{p dx oh ol d d0:Addr}{hs us:LI}{ls:LP}{ad:Int→Addr}{pf:Int→Option Int}(W:WebAt a H p hs ls dx oh ol d0 ad) (hd:H d=some (.dK (tabV (fun x=>opV (pf x)) us))) (wh:Hs hs) (x:Ext d H G):WebAt a G p hs ls dx oh ol d0 ad:=by
 have nt:∀ {b:Addr}{o:HO},H b=some o→(∀ kvs,o≠.dK kvs)→G b=some o:=fun {b o} e n=>x b o e fun z=>by rw[z,hd] at e;injection e with e;exact n _ e.symm
 have n0:d0≠d:=fun z=>by
  have e:=W.nr.d
  rw[z,hd] at e
  injection e with e
  injection e with e
  have l1:=wh.l1
  cases hs with
  |nil=>simp at l1
  |cons h hs =>
   cases us with
   |nil=>cases e
   |cons u us =>
    unfold tabV tab at e
    rw[List.map_cons,List.map_cons] at e
    injection e with e _
    injection e with _ e
    have e:opV (pf u)=V.ref (ad h):=e
    cases hp:pf u with
    |none=>rw[hp] at e;cases e
    |some y=>rw[hp] at e;cases e
 obtain⟨zs,o1,o2⟩:=W.ol
 exact⟨nt W.p (fun _ z=>by cases z),nt W.oh (fun _ z=>by cases z),⟨x _ _ W.nr.d n0,fun h hm=>nt (W.nr.nb h hm) (fun _ z=>by cases z)⟩,zs,nt o1 (fun _ z=>by cases z),o2.1,fun i r q h1 h2=>by
  obtain⟨t,e1,e2⟩:=o2.2 i r q h1 h2
  exact⟨t,e1,nt e2 (fun _ z=>by cases z)⟩⟩
def zbP (a:Ad):Sp:=fun vs H Q _=>∃ (p d:Addr) (hs us:LI) (ls:LP) (pf:Int→Option Int),vs=[.ref p,.ref d]∧WbP a H p hs ls∧H d=some (.dK (tabV (fun x=>opV (pf x)) us))∧us.Nodup∧(∀ x,x∈us↔x∈hs)∧Cl us pf∧∀ (b:Bool) (H':Hp),(b=true↔∀ x∈us,∀ y,pf x=some y→adB ls x y=true)→Same H H'→Q (.bl b) H'
theorem zbi (T:Txt w K mg a):FnOk P w K mg base CX0 4 173 (dK K 173) ["web", "parents"] (zbP a):=by
 refine(T.fn 2 rfl).ok (scp 2 rfl) (fun vs H Q E h=>?_) (fun cdv A outer s H vs Q E hr h=>?_)
 ·obtain⟨p,d,hs,us,ls,pf,rfl,_⟩:=h
  rfl
 ·obtain⟨p,d,hs,us,ls,pf,rfl,WP,hd,nd,hm,C,k⟩:=h
  obtain⟨wdx,oh,ol,d0,ad,W⟩:=WP.at_
  have hlen:us.length=hs.length:=Nat.le_antisymm (xn nd fun x hx=>(hm x).mp hx) (xn (zaa WP.wh) fun x hx=>(hm x).mpr hx)
  refine zT (w_pss_cons (zB (we (yc (zN (zJ (zm zY (by rfl) (T.n 3 rfl) zA (zg (zh 1) (zg (yh (T.n 5 rfl) wI) zd))))) (z6 (zn x6 (zm ue (by rfl) (T.n 0 rfl) yj (zg (zh 1) zd)) (zm zF (by rfl) (T.n 0 rfl) yj (zQ (zK (zh 0)) zd)) (zC _)))))
    (ze (zj zE))
    zo)
   (w_pss_cons (vF (zG PassesOwn.never rfl (xi (zh 1)) (zZ rfl (zp (zk (i:=2) (scp 2 rfl).nd rfl (Or.inl rfl)) (zp (zk (i:=3) (scp 2 rfl).nd rfl (Or.inl rfl)) zP)))
    (w_pss_cons (zB (zN (zJ (zx (zh 0) (zg (zh 2) zd))))
     (ze (zj zE))
     zo)
    (ze (zB (we (yB (zn wz (zh 3) yD (zC _)) (yr (zN (zJ (zx (zh 0) (zg (zh 2) (zg (zh 3) zd))))))))
     (ze (zj zE))
     zo)))))
   (ze (zj zE)))) ?_
  refine⟨_,rfl,_,_,_,_,_,rfl,rfl,.dK hd,(T.k 7 rfl),_,rfl,iteN rfl ?_⟩
  refine⟨_,rfl,d,_,rfl,hd,?_⟩
  refine mtV rfl W.p rfl (T.cl 1 rfl) (T.mt 48 rfl) (xD (P:=P) (w:=w) T) hr.m (T.bi 48 rfl) (ag0 (y0 W (fun l hl=>?_)))
  have s1:=Same.new (o:=HO.lst (hs.map V.int)) hl
  have hl1:=upd_same (H:=H) (a:=l) (o:=HO.lst (hs.map V.int))
  generalize upd H l (HO.lst (hs.map V.int))=H1 at *
  refine⟨l,_,rfl,.inl (SqL.of hl1),rfl,_,rfl,iteN (by rw[tabV_len,List.length_map,hlen];simp) ?_⟩
  refine⟨_,rfl,d,_,rfl,s1 _ _ hd,fun od S=>?_⟩
  have hd1:=s1 _ _ hd
  have hz1:=upd_same (H:=H1) (a:=d) (o:=HO.frz od (HO.dK (tabV (fun x=>opV (pf x)) us)))
  have x1:Ext d H1 (upd H1 d (HO.frz od (HO.dK (tabV (fun x=>opV (pf x)) us)))):=Ext.at
  have W1:=(W.same s1).frz hd1 WP.wh x1
  generalize upd H1 d (HO.frz od (HO.dK (tabV (fun x=>opV (pf x)) us)))=G1 at *
  have back:∀ {G:Hp},Same G1 G→Same H (upd G d (HO.dK (tabV (fun x=>opV (pf x)) us))):=fun {G} sm b o e=>by
   by_cases z:b=d
   ·rw[z,hd] at e;cases e;rw[z];exact upd_same
   ·rw[upd_ne z];exact sm _ _ (x1 _ _ (s1 _ _ e) z)
  refine Zq (yl:=yI) (d:=d) (od:=od) (kvs:=tabV (fun x=>opV (pf x)) us) (fun i σ H'=>∃ (o2 o3:Option V),σ=[some (.ref p),some (.ref d),o2,o3]∧Same G1 H'∧∀ x∈us.take i,∀ y,pf x=some y→adB ls x y=true) ?_ ?_ ?_ ?_
  ·exact⟨none,none,rfl,fun _ _ h=>h,fun x hx=>by simp at hx⟩
  ·rintro i σ H' ⟨o2,o3,_,sm,_⟩
   exact sm _ _ hz1
  ·rintro i kv u σ G G' hkv ⟨o2,o3,rfl,sm,gd⟩ hy
   obtain⟨x,hx,rfl⟩:∃ x,us[i]?=some x∧kv=(Sum.inl x,opV (pf x)):=by
    unfold tabV at hkv
    rw[List.getElem?_map] at hkv
    obtain⟨x,h1,h2⟩:=Option.map_eq_some_iff.mp hkv
    exact⟨x,h1,h2.symm⟩
   obtain⟨p0,hp0,rfl,rfl⟩:=ZS hy
   have hxu:=List.mem_of_getElem? hx
   have etk:us.take (i+1)=us.take i++[x]:=by rw[List.take_add_one,hx];rfl
   have gd2:(∀ y,pf x=some y→adB ls x y=true)→∀ u∈us.take (i+1),∀ y,pf u=some y→adB ls u y=true:=fun h u hu=>by
    rw[etk] at hu
    rcases List.mem_append.mp hu with e | e
    ·exact gd u e
    ·rw[List.mem_singleton.mp e];exact h
   have n1:=Same.new (o:=HO.tup [V.int x,opV (pf x)]) hp0
   refine⟨p0,_,rfl,SqT.of upd_same,rfl,_,_,rfl,_,_,rfl,rfl,?_⟩
   have sm2:=sm.trans n1
   generalize upd G p0 (HO.tup [V.int x,opV (pf x)])=G2 at *
   have W2:=W1.same sm2
   refine mtV rfl W2.p rfl (T.cl 1 rfl) (T.mt 50 rfl) (Zk (P:=P) (w:=w) T) hr.m (T.bi 50 rfl) ⟨_,rfl,p,x,hs,ls,wdx,oh,ol,d0,ad,rfl,W2,(hm x).mp hxu,_,rfl,iteN rfl ?_⟩
   cases hpx:pf x with
   |none=>exact⟨_,rfl,rfl,_,rfl,iteN rfl ⟨_,_,rfl,sm2,gd2 fun y h=>by rw[hpx] at h;cases h⟩⟩
   |some y =>
    refine⟨_,rfl,rfl,_,rfl,wa ?_⟩
    refine mtV rfl W2.p rfl (T.cl 1 rfl) (T.mt 51 rfl) (UR (P:=P) (w:=w) T) hr.m (T.bi 51 rfl) ⟨_,rfl,_,rfl,p,x,y,hs,ls,wdx,oh,ol,d0,ad,rfl,W2,(hm x).mp hxu,(hm y).mp (C x hxu y hpx),_,rfl,?_⟩
    cases hb:adB ls x y with
    |true=>exact iteN rfl ⟨_,_,rfl,sm2,gd2 fun y' h=>by rw[hpx] at h;cases h;exact hb⟩
    |false =>
     refine wa ?_
     refine .inr ⟨d,od,_,S,sm2 _ _ hz1,k false _ ⟨fun z=>(nomatch z),fun h=>?_⟩ (back sm2)⟩
     rw[h x hxu y hpx] at hb
     cases hb
  ·rintro σ H' ⟨o2,o3,rfl,sm,gd⟩
   rw[tabV_len,List.take_length] at gd
   exact .inr ⟨d,od,_,S,sm _ _ hz1,k true _ ⟨fun _=>gd,fun _=>rfl⟩ (back sm)⟩
open L2.Sco (PT PsAt)
def zbN (a:Ad):Sp:=fun vs H Q _=>∃ (p q dx dp ob:Addr) (hs us:LI) (ls bs:LP) (pf:Int→Option Int),vs=[.ref p,.ref q]∧WbP a H p hs ls∧WayAt a H q pf us bs dx dp ob∧(∀ x,x∈us↔x∈hs)∧Cl us pf∧∀ (b:Bool) (H':Hp),(b=true↔∀ x∈us,∃ l,En pf x l)→Same H H'→Q (.bl b) H'
theorem zbe (T:Txt w K mg a):FnOk P w K mg base CX0 7 180 (dK K 180) ["web", "way"] (zbN a):=by
 refine(T.fn 3 rfl).ok (scp 3 rfl) (fun vs H Q E h=>?_) (fun cdv A outer s H vs Q E hr h=>?_)
 ·obtain⟨p,q,dx,dp,ob,hs,us,ls,bs,pf,rfl,_⟩:=h
  rfl
 ·obtain⟨p,q,dx,dp,ob,hs,us,ls,bs,pf,rfl,WP,Y,hm,C,k⟩:=h
  obtain⟨wdx,oh,ol,d0,ad,W⟩:=WP.at_
  refine zT (w_pss_cons (zG PassesOwn.never rfl (zy (zK (zh 0))) (zk (i:=2) (scp 3 rfl).nd rfl (Or.inl rfl))
    (ze (zB (zn wz (zx (zh 1) (zQ (zx (zh 1) (zg (zh 2) zd)) zd)) yD (zC _))
     (ze (zj zE))
     zo)))
   (ze (zj zE))) ?_
  refine mtV rfl W.p rfl (T.cl 1 rfl) (T.mt 48 rfl) (xD (P:=P) (w:=w) T) hr.m (T.bi 48 rfl) (ag0 (y0 W (fun l hl=>?_)))
  have s1:=Same.new (o:=HO.lst (hs.map V.int)) hl
  have hl1:=upd_same (H:=H) (a:=l) (o:=HO.lst (hs.map V.int))
  generalize upd H l (HO.lst (hs.map V.int))=H1 at *
  refine⟨l,rfl,⟨_,SqL.of hl1⟩,?_⟩
  refine for_list (xs:=hs.map V.int) (fun i σ H'=>∃ (o2:Option V),σ=[some (.ref p),some (.ref q),o2]∧Same H1 H'∧∀ x∈hs.take i,∃ l,En pf x l) ?_ ?_ ?_ ?_
  ·exact⟨none,rfl,fun _ _ h=>h,fun x hx=>by simp at hx⟩
  ·rintro i σ H' hi ⟨o2,_,sm,_⟩
   exact SqL.of (sm _ _ hl1)
  ·rintro i v σ G hi ⟨o2,rfl,sm,gd⟩
   rw[List.getElem?_map] at hi
   obtain⟨x,hx,rfl⟩:=Option.map_eq_some_iff.mp hi
   have hxu:=(hm x).mpr (List.mem_of_getElem? hx)
   have etk:hs.take (i+1)=hs.take i++[x]:=by rw[List.take_add_one,hx];rfl
   have Y1:=(Y.same s1).same sm
   refine mtV rfl Y1.p rfl (T.cl 0 rfl) (T.mt 41 rfl) (za4 (P:=P) (w:=w) T) hr.m (T.bi 41 rfl) (mtV rfl Y1.p rfl (T.cl 0 rfl) (T.mt 45 rfl) (WN (P:=P) (w:=w) T) hr.m (T.bi 45 rfl) ⟨_,rfl,q,dx,dp,ob,pf,us,x,rfl,Y1.r,C,hxu,fun ys z G2 s2 hz hor=>?_⟩)
   refine⟨q,dx,dp,ob,pf,us,bs,.int z,true,rfl,Y1.same s2,.int _,fun G3 s3=>?_⟩
   have e:poV us pf (.int z)=opV (pf z):=if_pos hz
   rw[e]
   rcases hor with⟨h1,h2⟩ | ⟨h1,h2⟩
   ·rw[h1]
    refine⟨rfl,_,rfl,iteN rfl ⟨_,rfl,sm.trans (s2.trans s3),fun u hu=>?_⟩⟩
    rw[etk] at hu
    rcases List.mem_append.mp hu with e | e
    ·exact gd u e
    ·rw[List.mem_singleton.mp e];exact⟨_,h2⟩
   ·cases hpz:pf z with
    |none=>exact absurd hpz h1
    |some y =>
     refine⟨rfl,_,rfl,wa ?_⟩
     exact k false _ ⟨fun z=>(nomatch z),fun h=>absurd (h x hxu) h2⟩ (s1.trans (sm.trans (s2.trans s3)))
  ·rintro σ G ⟨o2,rfl,sm,gd⟩
   rw[List.length_map,List.take_length] at gd
   exact k true _ ⟨fun _ x hx=>gd x ((hm x).mp hx),fun _=>rfl⟩ (s1.trans sm)
def BrL (hs:LI) (bs:LP):Prop:=∀ b∈bs,b.1∈hs∧b.2∈hs
def zbL (a:Ad):Sp:=fun vs H Q _=>∃ (p q t dx dp ob:Addr) (hs us:LI) (ls bs:LP) (pf:Int→Option Int) (pa:Int→LI) (x y:Int),vs=[.ref p,.ref q,.ref t]∧WbP a H p hs ls∧WayAt a H q pf us bs dx dp ob∧(∀ x,x∈us↔x∈hs)∧UpP us pf pa∧(x∈hs∧y∈hs)∧H t=some (.tup [.int x,.int y])∧∀ (b:Bool) (H':Hp),(b=true↔adB ls x y=true∧x≤y∧ldr pa x≠ldr pa y)→Same H H'→Q (.bl b) H'
theorem zbb (T:Txt w K mg a):FnOk P w K mg base CX0 4 187 (dK K 187) ["web", "way", "bridge"] (zbL a):=by
 refine(T.fn 4 rfl).ok (scp 4 rfl) (fun vs H Q E h=>?_) (fun cdv A outer s H vs Q E hr h=>?_)
 ·obtain⟨p,q,t,dx,dp,ob,hs,us,ls,bs,pf,pa,x,y,rfl,_⟩:=h
  rfl
 ·obtain⟨p,q,t,dx,dp,ob,hs,us,ls,bs,pf,pa,x,y,rfl,WP,Y,hm,U,⟨hxh,hyh⟩,ht,k⟩:=h
  obtain⟨wdx,oh,ol,d0,ad,W⟩:=WP.at_
  have hx:=(hm x).mpr hxh
  have hy:=(hm y).mpr hyh
  refine zT (w_pss_cons (zB (we (yc (zN (zJ (zm zY (by rfl) (T.n 3 rfl) zA (zg (zh 2) (zg (yh (T.n 8 rfl) xb) zd))))) (z6 (zn x6 (zm zF (by rfl) (T.n 0 rfl) yj (zg (zh 2) zd)) zi (zC _)))))
    (ze (zj zE))
    zo)
   (w_pss_cons (zB (we (yc (zN (zJ (zx (zh 0) (zr (zL ym (zh 2) zi (fun _ _=>rfl)) (zr (zL ym (zh 2) zi (fun _ _=>rfl)) zd))))) (z6 (zn v0 (zL ym (zh 2) zi (fun _ _=>rfl)) (zL ym (zh 2) zi (fun _ _=>rfl)) (zC _)))))
    (ze (zj zE))
    zo)
   (ze (zj (z7 x6 (zx (zh 1) (zr (zL ym (zh 2) zi (fun _ _=>rfl)) zd)) (zx (zh 1) (zr (zL ym (zh 2) zi (fun _ _=>rfl)) zd)) (zC _)))))) ?_
  refine⟨_,rfl,_,_,_,_,_,rfl,rfl,.tup ht,(T.k 3 rfl),_,rfl,iteN rfl ?_⟩
  refine⟨_,rfl,t,_,rfl,.inr (SqT.of ht),rfl,_,rfl,iteN rfl ?_⟩
  refine mtV rfl W.p rfl (T.cl 1 rfl) (T.mt 51 rfl) (UR (P:=P) (w:=w) T) hr.m (T.bi 51 rfl) ⟨_,rfl,t,_,0,_,rfl,rfl,SqT.of ht,rfl,_,rfl,t,_,1,_,rfl,rfl,SqT.of ht,rfl,p,x,y,hs,ls,wdx,oh,ol,d0,ad,rfl,W,hxh,hyh,_,rfl,?_⟩
  cases hadj:adB ls x y with
  |false=>exact iteB rfl (k false _ ⟨fun z=>(nomatch z),fun h=>by rw[hadj] at h;exact nomatch h.1⟩ (fun _ _ h=>h))
  |true =>
  refine iteN rfl ?_
  by_cases c:x>y
  ·refine⟨_,rfl,t,_,0,_,rfl,rfl,SqT.of ht,rfl,_,rfl,t,_,1,_,rfl,rfl,SqT.of ht,rfl,_,_,rfl,rfl,_,rfl,iteB (by simp;omega) ?_⟩
   exact k false _ ⟨fun z=>(nomatch z),fun h=>by have:=h.2.1;omega⟩ (fun _ _ h=>h)
  refine⟨_,rfl,t,_,0,_,rfl,rfl,SqT.of ht,rfl,_,rfl,t,_,1,_,rfl,rfl,SqT.of ht,rfl,_,_,rfl,rfl,_,rfl,iteN (by simp;omega) ?_⟩
  refine mtV rfl Y.p rfl (T.cl 0 rfl) (T.mt 45 rfl) (wB (P:=P) (w:=w) T) hr.m (T.bi 45 rfl) ⟨_,rfl,t,_,0,_,rfl,rfl,SqT.of ht,rfl,q,dx,dp,ob,pf,pa,us,x,rfl,Y.r,U,hx,fun G2 s2=>?_⟩
  refine mtV rfl (s2 _ _ Y.p) rfl (T.cl 0 rfl) (T.mt 45 rfl) (wB (P:=P) (w:=w) T) hr.m (T.bi 45 rfl) ⟨_,rfl,t,_,1,_,rfl,rfl,SqT.of (s2 _ _ ht),rfl,q,dx,dp,ob,pf,pa,us,y,rfl,(Y.same s2).r,U,hy,fun G3 s3=>?_⟩
  refine⟨rfl,?_⟩
  refine k _ _ ?_ (s2.trans s3)
  constructor
  ·intro z
   exact⟨hadj,by omega,fun e=>by rw[e] at z;simp at z⟩
  ·rintro⟨_,_,z⟩
   have e:decide (V.int (ldr pa x)=V.int (ldr pa y))=false:=decide_eq_false fun e=>z (by injection e)
   rw[e]
   rfl
def GdB (ls:LP) (lf:Int→Int) (bs:LP):Prop:=(∀ b∈bs,adB ls b.1 b.2=true∧b.1≤b.2∧lf b.1≠lf b.2)∧bs.Nodup
def zbO (a:Ad):Sp:=fun vs H Q _=>∃ (p q l dx dp ob:Addr) (hs us:LI) (ls bs:LP) (rs:List V) (pf:Int→Option Int) (pa:Int→LI),vs=[.ref p,.ref q,.ref l]∧WbP a H p hs ls∧WayAt a H q pf us bs dx dp ob∧(∀ x,x∈us↔x∈hs)∧UpP us pf pa∧BrL hs bs∧H l=some (.lst rs)∧LnAt H rs bs∧∀ (b:Bool) (H':Hp),(b=true↔GdB ls (ldr pa) bs)→Same H H'→Q (.bl b) H'
theorem zbh (T:Txt w K mg a):FnOk P w K mg base CX0 5 194 (dK K 194) ["web", "way", "bridges"] (zbO a):=by
 have c_is_bridge:Callee P w K mg base "is_bridge" 187 (dK K 187) ["web", "way", "bridge"] 4 (zbL a):=⟨zbb T,(T.g 4 rfl),(T.fn 4 rfl).kp,(T.bi 4 rfl)⟩
 refine(T.fn 5 rfl).ok (scp 5 rfl) (fun vs H Q E h=>?_) (fun cdv A outer s H vs Q E hr h=>?_)
 ·obtain⟨p,q,l,dx,dp,ob,hs,us,ls,bs,rs,pf,pa,rfl,_⟩:=h
  rfl
 ·obtain⟨p,q,l,dx,dp,ob,hs,us,ls,bs,rs,pf,pa,rfl,WP,Y,hm,U,BL,hl,hrs,k⟩:=h
  have l66:=Y.l66
  have hu:=yA hr
  refine zT (w_pss_cons (zB (zN (zJ (zm zY (by rfl) (T.n 3 rfl) zA (zg (zh 2) (zg (yh (T.n 4 rfl) bt_list) zd)))))
    (ze (zj zE))
    zo)
   (w_pss_cons (w_ps_set (i:=3) (scp 5 rfl).nd rfl (Or.inl rfl) yY)
   (w_pss_cons (zG PassesOwn.never rfl (zy (zh 2)) (zk (i:=4) (scp 5 rfl).nd rfl (Or.inl rfl))
    (w_pss_cons (zB (we (yc (zN (zJ (zq c_is_bridge hr.m (zg (zh 0) (zg (zh 1) (zg (zh 4) zd)))))) (z6 (wc (uV hu (zh 4) (zh 3))))))
     (ze (zj zE))
     zo)
    (ze (wk hu (zh 3) (zh 4) zE rfl))))
   (ze (zj zE))))) ?_
  refine⟨_,rfl,_,_,_,_,_,rfl,rfl,.lst hl,(T.k 2 rfl),_,rfl,iteN rfl ?_⟩
  refine fun d hd=>?_
  refine⟨_,rfl,l,rfl,⟨_,SqL.of (Same.new hd _ _ hl)⟩,?_⟩
  refine for_list (K:=K) (a:=l) (xs:=rs) (fun i σ H'=>∃ (kvs:List (List Key×V)) (o:Option V),σ=[some (.ref p),some (.ref q),some (.ref l),some (.ref d),o]∧H' d=some (.dT kvs)∧kvs.map (·.1)=(bs.take i).map xo∧Same H H'∧GdB ls (ldr pa) (bs.take i)) ?_ ?_ ?_ ?_
  ·exact⟨[],none,rfl,upd_same,by simp,Same.new hd,by simp[GdB]⟩
  ·rintro i σ H' _ ⟨kvs,o,_,_,_,sm,_⟩
   exact SqL.of (sm _ _ hl)
  ·rintro i x σ H' hi ⟨kvs,o,rfl,hd',hk,sm,gd⟩
   obtain⟨b,t,hp,rfl,ht⟩:=(hrs.same sm).get hi
   have hbm:b∈bs:=List.mem_of_getElem? hp
   have etk:bs.take (i+1)=bs.take i++[b]:=by rw[List.take_add_one,hp];rfl
   refine⟨_,rfl,_,rfl,_,rfl,p,q,t,dx,dp,ob,hs,us,ls,bs,pf,pa,b.1,b.2,rfl,WP.same sm,Y.same sm,hm,U,BL b hbm,ht,fun bb H2 hbb s2=>⟨_,rfl,?_⟩⟩
   cases hbc:bb with
   |false =>
    refine wa ?_
    refine k false _ ⟨fun z=>(nomatch z),fun h=>?_⟩ (sm.trans s2)
    have:=hbb.mpr (h.1 b hbm)
    rw[hbc] at this
    cases this
   |true =>
   refine iteN rfl ?_
   have hd2:=s2 _ _ hd'
   have ht2:=s2 _ _ ht
   by_cases hin:b∈bs.take i
   ·have hs':(yE kvs (xo b)).isSome=true:=by
     rw[← yM]
     have h1:xo b∈kvs.map (·.1):=by rw[hk];exact List.mem_map_of_mem hin
     obtain⟨kv,h2,h3⟩:=List.mem_map.mp h1
     exact List.any_eq_true.mpr ⟨kv,h2,decide_eq_true h3⟩
    refine⟨_,rfl,_,rfl,d,_,rfl,DGet.t (k:=xo b) hd2 ht2,_,rfl,iteB hs' ?_⟩
    exact k false _ ⟨fun z=>(nomatch z),fun h=>absurd hin (vx h.2 hp)⟩ (sm.trans s2)
   have hnew:xo b∉kvs.map (·.1):=by
    rw[hk]
    intro z
    obtain⟨p',m',e'⟩:=List.mem_map.mp z
    rw[y9 e'] at m'
    exact hin m'
   have hz:kvs.length≤1000:=by
    have:=congrArg List.length hk
    rw[List.length_map,List.length_map,List.length_take] at this
    omega
   refine⟨_,rfl,_,rfl,d,_,rfl,DGet.t (k:=xo b) hd2 ht2,_,rfl,iteN ?_ ?_⟩
   ·exact valV_no hnew
   ·refine⟨_,rfl,_,rfl,d,_,rfl,DPut.t (k:=xo b) hd2 ht2 (zu hz),?_⟩
    refine⟨_,_,rfl,upd_same,?_,(sm.trans s2).updF hd,?_⟩
    ·rw[putK_new hnew,List.map_append,hk,etk,List.map_append]
     rfl
    ·rw[etk]
     refine⟨fun c hc=>?_,?_⟩
     ·rcases List.mem_append.mp hc with e | e
      ·exact gd.1 c e
      ·rw[List.mem_singleton.mp e];exact hbb.mp hbc
     ·rw[List.nodup_append]
      exact⟨gd.2,by simp,fun u hu v hv e=>hin (by rw[List.mem_singleton.mp hv] at e;rw[← e];exact hu)⟩
  ·rintro σ H' ⟨kvs,o,_,_,_,sm,gd⟩
   rw[hrs.1,List.take_length] at gd
   exact k true H' ⟨fun _=>gd,fun _=>rfl⟩ sm
structure GrB (us:LI) (ls:LP) (pf:Int→Option Int) (bs:LP):Prop where
 ad:∀ x∈us,∀ y,pf x=some y→adB ls x y=true
 en:∀ x∈us,∃ l,En pf x l
 gd:GdB ls (ldr (paO pf)) bs
def zaL (a:Ad):Sp:=fun vs H Q _=>∃ (p q dx dp ob:Addr) (hs us:LI) (ls bs:LP) (pf:Int→Option Int),vs=[.ref p,.ref q]∧WbP a H p hs ls∧WayAt a H q pf us bs dx dp ob∧(∀ x,x∈us↔x∈hs)∧Cl us pf∧BrL hs bs∧∀ (b:Bool) (H':Hp),(b=true↔GrB us ls pf bs)→Same H H'→Q (.bl b) H'
theorem UQ (T:Txt w K mg a):FnOk P w K mg base CX0 8 201 (dK K 201) ["web", "way"] (zaL a):=by
 have c_are_parents:Callee P w K mg base "are_parents" 173 (dK K 173) ["web", "parents"] 4 (zbP a):=⟨zbi T,(T.g 2 rfl),(T.fn 2 rfl).kp,(T.bi 2 rfl)⟩
 have c_come_to_leaders:Callee P w K mg base "come_to_leaders" 180 (dK K 180) ["web", "way"] 7 (zbN a):=⟨zbe T,(T.g 3 rfl),(T.fn 3 rfl).kp,(T.bi 3 rfl)⟩
 have c_are_bridges:Callee P w K mg base "are_bridges" 194 (dK K 194) ["web", "way", "bridges"] 5 (zbO a):=⟨zbh T,(T.g 5 rfl),(T.fn 5 rfl).kp,(T.bi 5 rfl)⟩
 refine(T.fn 6 rfl).ok (scp 6 rfl) (fun vs H Q E h=>?_) (fun cdv A outer s H vs Q E hr h=>?_)
 ·obtain⟨p,q,dx,dp,ob,hs,us,ls,bs,pf,rfl,_⟩:=h
  rfl
 ·obtain⟨p,q,dx,dp,ob,hs,us,ls,bs,pf,rfl,WP,Y,hm,C,BL,k⟩:=h
  refine zT (w_pss_cons (zB (we (yc (zN (zJ (zm zY (by rfl) (T.n 3 rfl) zA (zg (zh 1) (zg (Xn (T.gc 0 rfl)) zd))))) (z6 (zN (zJ (zq c_are_parents hr.m (zg (zh 0) (zQ (zK (zh 1)) zd))))))))
    (ze (zj zE))
    zo)
   (ze (zj (xu (zq c_come_to_leaders hr.m (zg (zh 0) (zg (zh 1) zd))) (yL (zq c_are_bridges hr.m (zg (zh 0) (zg (zh 1) (zQ (zK (zh 1)) zd))))))))) ?_
  refine⟨_,rfl,_,_,_,_,_,rfl,rfl,(T.ty 0 rfl) H q dx _ Y.p,(T.k 16 rfl),_,rfl,iteN rfl ?_⟩
  refine⟨_,rfl,mtV rfl Y.p rfl (T.cl 0 rfl) (T.mt 42 rfl) (VI (P:=P) (w:=w) T) hr.m (T.bi 42 rfl) (ag0 (Yf Y (fun d H1 hd hd1 s1=>?_)))⟩
  refine⟨p,d,hs,us,ls,pf,rfl,WP.same s1,hd1,Y.nd,hm,C,fun b1 H2 hb1 s2=>⟨_,rfl,?_⟩⟩
  have s02:=s1.trans s2
  cases hc1:b1 with
  |false=>exact wa (k false _ ⟨fun z=>(nomatch z),fun h=>by have:=hb1.mpr h.ad;rw[hc1] at this;cases this⟩ s02)
  |true =>
  refine iteN rfl ?_
  refine⟨_,rfl,_,rfl,p,q,dx,dp,ob,hs,us,ls,bs,pf,rfl,WP.same s02,Y.same s02,hm,C,fun b2 H3 hb2 s3=>⟨_,rfl,?_⟩⟩
  have s03:=s02.trans s3
  cases hc2:b2 with
  |false=>exact iteN rfl (k false _ ⟨fun z=>(nomatch z),fun h=>by have:=hb2.mpr h.en;rw[hc2] at this;cases this⟩ s03)
  |true =>
  refine wa ?_
  have en:=hb2.mp hc2
  refine⟨_,rfl,_,rfl,mtV rfl (s03 _ _ Y.p) rfl (T.cl 0 rfl) (T.mt 43 rfl) (ok_ab (P:=P) (w:=w) T) hr.m (T.bi 43 rfl) (ag0 (wU (Y.same s03) (fun l rs H4 hl hl4 L4 s4=>?_)))⟩
  have s04:=s03.trans s4
  exact⟨p,q,l,dx,dp,ob,hs,us,ls,bs,rs,pf,paO pf,rfl,WP.same s04,Y.same s04,hm,UpP.of C en,BL,hl4,L4,fun b3 H5 hb3 s5=>k _ _ (hb3.trans ⟨fun h=>⟨hb1.mp hc1,en,h⟩,fun h=>h.gd⟩) (s04.trans s5)⟩
theorem YN {lf:Int→Int}:∀ {ls:LP}{acc:List ((Int×Int)×(Int×Int))}{k:Int×Int},k∈(ls.foldl (jst lf) acc).map (·.1)↔k∈acc.map (·.1)∨∃ p∈ls,lf p.1≠lf p.2∧jk lf p=k
 |[],acc,k=>by simp
 |p::ls,acc,k=>by
  rw[List.foldl_cons,YN (ls:=ls)]
  have hst:k∈(jst lf acc p).map (·.1)↔k∈acc.map (·.1)∨(lf p.1≠lf p.2∧jk lf p=k):=by
   unfold jst
   by_cases c:lf p.1=lf p.2
   ·rw[if_pos c]
    simp[c]
   ·rw[if_neg c]
    by_cases c2:jk lf p∈acc.map (·.1)
    ·rw[if_pos c2]
     constructor
     ·exact .inl
     ·rintro(h | ⟨_,h⟩)
      ·exact h
      ·rw[← h];exact c2
    ·rw[if_neg c2,List.map_append,List.mem_append]
     constructor
     ·rintro(h | h)
      ·exact .inl h
      ·exact .inr ⟨c,(List.mem_singleton.mp h).symm⟩
     ·rintro(h | ⟨_,h⟩)
      ·exact .inl h
      ·exact .inr (by rw[← h];simp)
  rw[hst]
  constructor
  ·rintro((h | h) | ⟨q,hq,h⟩)
   ·exact .inl h
   ·exact .inr ⟨p,List.mem_cons_self,h⟩
   ·exact .inr ⟨q,List.mem_cons_of_mem _ hq,h⟩
  ·rintro(h | ⟨q,hq,h⟩)
   ·exact .inl (.inl h)
   ·rcases List.mem_cons.mp hq with e | e
    ·rw[e] at h;exact .inl (.inr h)
    ·exact .inr ⟨q,e,h⟩
structure GG (us:LI) (ls:LP) (pf:Int→Option Int) (bs:LP):Prop where
 g:GrB us ls pf bs
 cov:∀ p∈ls,ldr (paO pf) p.1≠ldr (paO pf) p.2→∃ b∈bs,jk (ldr (paO pf)) b=jk (ldr (paO pf)) p
theorem wY:∀ {as bs:LP},as.Nodup→(∀ x∈as,x∈bs)→as.length≤bs.length
 |[],_,_,_=>Nat.zero_le _
 |a::as,bs,hn,hs=>by
  rw[List.nodup_cons] at hn
  have ha:=hs a List.mem_cons_self
  have ih:=wY (as:=as) (bs:=bs.erase a) hn.2 fun x hx=>by
   have ne:x≠a:=fun z=>hn.1 (by rw[← z];exact hx)
   exact(List.mem_erase_of_ne ne).mpr (hs x (List.mem_cons_of_mem _ hx))
  rw[List.length_erase_of_mem ha] at ih
  have:=List.length_pos_of_mem ha
  rw[List.length_cons];omega
theorem adLn {hs:LI}{ls:LP}{b:Int×Int}(wl:Ls hs ls) (h1:adB ls b.1 b.2=true) (h2:b.1≤b.2):b∈ls:=by
 unfold adB at h1
 rw[Bool.or_eq_true,decide_eq_true_eq,decide_eq_true_eq] at h1
 rcases h1 with h1 | h1
 ·exact h1
 ·have:=(wl.ok _ h1).2.2
  dsimp only at this
  omega
def Ur (a:Ad):Sp:=fun vs H Q _=>∃ (p q dx dp ob:Addr) (hs us:LI) (ls bs:LP) (pf:Int→Option Int),vs=[.ref p,.ref q]∧WbP a H p hs ls∧WayAt a H q pf us bs dx dp ob∧(∀ x,x∈us↔x∈hs)∧Cl us pf∧BrL hs bs∧∀ (b:Bool) (H':Hp),(b=true↔GG us ls pf bs)→Same H H'→Q (.bl b) H'
theorem VD (T:Txt w K mg a):FnOk P w K mg base CX0 9 215 (dK K 215) ["web", "way"] (Ur a):=by
 have c_is_grounded:Callee P w K mg base "is_grounded" 201 (dK K 201) ["web", "way"] 8 (zaL a):=⟨UQ T,(T.g 6 rfl),(T.fn 6 rfl).kp,(T.bi 6 rfl)⟩
 have c_first_joins:Callee P w K mg base "first_joins" 208 (dK K 208) ["way", "lines"] 3 (zaO a):=⟨US T,(T.g 7 rfl),(T.fn 7 rfl).kp,(T.bi 7 rfl)⟩
 refine(T.fn 8 rfl).ok (scp 8 rfl) (fun vs H Q E h=>?_) (fun cdv A outer s H vs Q E hr h=>?_)
 ·obtain⟨p,q,dx,dp,ob,hs,us,ls,bs,pf,rfl,_⟩:=h
  rfl
 ·obtain⟨p,q,dx,dp,ob,hs,us,ls,bs,pf,rfl,WP,Y,hm,C,BL,k⟩:=h
  have hu:=yA hr
  refine zT (w_pss_cons (zB (zN (zJ (zq c_is_grounded hr.m (zg (zh 0) (zg (zh 1) zd)))))
    (ze (zj zE))
    zo)
   (w_pss_cons (w_ps_set (i:=2) (scp 8 rfl).nd rfl (Or.inl rfl) (zq c_first_joins hr.m (zg (zh 1) (zQ (zK (zh 1)) zd))))
   (w_pss_cons (zG PassesOwn.never rfl (ul (zq c_first_joins hr.m (zg (zh 1) (zQ (zK (zh 0)) zd)))) (zk (i:=3) (scp 8 rfl).nd rfl (Or.inl rfl))
    (ze (zB (wc (xk hu (zh 3) (zh 2)))
     (ze (zj zE))
     zo)))
   (ze (zj zE))))) ?_
  refine⟨_,rfl,_,rfl,p,q,dx,dp,ob,hs,us,ls,bs,pf,rfl,WP,Y,hm,C,BL,fun b1 H1 hb1 s1=>⟨_,rfl,?_⟩⟩
  cases hc1:b1 with
  |false=>exact wa (k false _ ⟨fun z=>(nomatch z),fun h=>by have:=hb1.mpr h.g;rw[hc1] at this;cases this⟩ s1)
  |true =>
  refine iteN rfl ?_
  have g:=hb1.mp hc1
  have U:=UpP.of C g.en
  have inl:∀ b∈bs,b∈ls:=fun b hb=>adLn WP.wl (g.gd.1 b hb).1 (g.gd.1 b hb).2.1
  have l66:bs.length≤66:=Nat.le_trans (wY g.gd.2 inl) WP.wl.le
  have Y1:=Y.same s1
  refine⟨_,rfl,mtV rfl Y1.p rfl (T.cl 0 rfl) (T.mt 43 rfl) (ok_ab (P:=P) (w:=w) T) hr.m (T.bi 43 rfl) (ag0 (wU Y1 (fun l rs H2 hl hl2 L2' s2=>?_)))⟩
  have Y2:=Y1.same s2
  have Bb:Bd bs:=fun b hb=>(WP.wl.bd WP.wh) b (inl b hb)
  have bin:∀ b∈bs,b.1∈us∧b.2∈us:=fun b hb=>⟨(hm _).mpr (WP.wl.ok b (inl b hb)).1,(hm _).mpr (WP.wl.ok b (inl b hb)).2.1⟩
  refine⟨q,dx,dp,ob,l,pf,paO pf,us,bs,bs,rs,rfl,Y2,U,hl2,L2',Bb,l66,bin,fun jd js H3 hjd hj3 ej ps3 s3=>?_⟩
  have s03:=s1.trans (s2.trans s3)
  have Y3:=Y2.same s3
  obtain⟨wdx,oh,ol,d0,ad,W⟩:=(WP.same s03).at_
  refine⟨_,rfl,mtV rfl W.p rfl (T.cl 1 rfl) (T.mt 49 rfl) (Yv (P:=P) (w:=w) T) hr.m (T.bi 49 rfl) (ag0 (ut W (fun lq zs hlq Lz=>?_)))⟩
  have s4:=Same.new (o:=HO.lst zs) hlq
  have hsm:∀ {x:Int×Int},x∈srt ls↔x∈ls:=fun {x}=>(zX ls).mem_iff
  have hsl:(srt ls).length=ls.length:=(zX ls).length_eq
  refine⟨q,dx,dp,ob,lq,pf,paO pf,us,bs,srt ls,zs,rfl,Y3.same s4,U,upd_same,Lz.same s4,fun x hx=>(WP.wl.bd WP.wh) x (hsm.mp hx),by rw[hsl];exact WP.wl.le,fun x hx=>⟨(hm _).mpr (WP.wl.ok x (hsm.mp hx)).1,(hm _).mpr (WP.wl.ok x (hsm.mp hx)).2.1⟩,fun kd ks H5 hkd hk5 ek ps5 s5=>?_⟩
  have s05:=s03.trans (s4.trans s5)
  have hj5:=s5 _ _ (s4 _ _ hj3)
  have nkj:jd≠kd:=fun z=>by rw[← z,s4 _ _ hj3] at hkd;cases hkd
  have fkd:H kd=none:=(s03.trans s4).free hkd
  have jK:∀ {k:Int×Int},k∈js.map (·.1)↔∃ b∈bs,jk (ldr (paO pf)) b=k:=fun {k}=>by
   have h1:js.map (·.1)=(jn (ldr (paO pf)) bs).map (·.1):=by
    rw[← ej]
    unfold tlJ
    rw[List.map_map]
    rfl
   rw[h1]
   unfold jn
   rw[YN]
   constructor
   ·rintro(h | ⟨b,hb,_,e⟩)
    ·cases h
    ·exact⟨b,hb,e⟩
   ·rintro⟨b,hb,e⟩
    exact .inr ⟨b,hb,(g.gd.1 b hb).2.2,e⟩
  have kK:∀ {k:Int×Int},k∈ks.map (·.1)↔∃ p∈ls,ldr (paO pf) p.1≠ldr (paO pf) p.2∧jk (ldr (paO pf)) p=k:=fun {k}=>by
   have h1:ks.map (·.1)=(jn (ldr (paO pf)) (srt ls)).map (·.1):=by
    rw[← ek]
    unfold tlJ
    rw[List.map_map]
    rfl
   rw[h1]
   unfold jn
   rw[YN]
   constructor
   ·rintro(h | ⟨b,hb,e⟩)
    ·cases h
    ·exact⟨b,hsm.mp hb,e⟩
   ·rintro⟨b,hb,e⟩
    exact .inr ⟨b,hsm.mpr hb,e⟩
  refine⟨kd,kvJ ks,rfl,hk5,fun od=>?_⟩
  have hz6:=upd_same (H:=H5) (a:=kd) (o:=HO.frz od (HO.dT (kvJ ks)))
  have hj6:(upd H5 kd (HO.frz od (HO.dT (kvJ ks)))) jd=some (.dT (kvJ js)):=(upd_ne nkj).trans hj5
  have s06:Same H (upd H5 kd (HO.frz od (HO.dT (kvJ ks)))):=Same.updF s05 fkd
  generalize upd H5 kd (HO.frz od (HO.dT (kvJ ks)))=H6 at *
  refine for_keysT (d:=kd) (od:=od) (kvs:=kvJ ks) (fun i σ H'=>∃ (o3:Option V),σ=[some (.ref p),some (.ref q),some (.ref jd),o3]∧H'=H6∧∀ j∈ks.take i,j.1∈js.map (·.1)) ?_ ?_ ?_ ?_
  ·exact⟨none,rfl,rfl,fun j hj=>by simp at hj⟩
  ·rintro i σ H' ⟨o3,_,rfl,_⟩
   exact hz6
  ·rintro i kv b σ H' hkv hb ⟨o3,rfl,rfl,gd⟩
   unfold kvJ at hkv
   rw[List.getElem?_map] at hkv
   obtain⟨jx,hjx,e⟩:=Option.map_eq_some_iff.mp hkv
   subst e
   have etk:ks.take (i+1)=ks.take i++[jx]:=by rw[List.take_add_one,hjx];rfl
   have key:=YE (js:=js) (k:=jx.1)
   by_cases hin:jx.1∈js.map (·.1)
   ·rw[decide_eq_true hin] at key
    refine⟨_,rfl,_,rfl,jd,_,rfl,DGet.t (k:=[Sum.inl jx.1.1,Sum.inl jx.1.2]) hj6 hb,_,rfl,iteN (by rw[key];rfl) ⟨_,rfl,rfl,fun j hj=>?_⟩⟩
    rw[etk] at hj
    rcases List.mem_append.mp hj with e | e
    ·exact gd j e
    ·rw[List.mem_singleton.mp e];exact hin
   ·rw[decide_eq_false hin] at key
    refine⟨_,rfl,_,rfl,jd,_,rfl,DGet.t (k:=[Sum.inl jx.1.1,Sum.inl jx.1.2]) hj6 hb,_,rfl,iteB (by rw[key];rfl) ?_⟩
    refine k false _ ⟨fun z=>(nomatch z),fun h=>?_⟩ s06
    obtain⟨pp,hpp,h2,h3⟩:=kK.mp (List.mem_map.mpr ⟨jx,List.mem_of_getElem? hjx,rfl⟩)
    obtain⟨bb,hbb,h4⟩:=h.cov pp hpp h2
    exact absurd (jK.mpr ⟨bb,hbb,h4.trans h3⟩) hin
  ·rintro σ H' ⟨o3,rfl,rfl,gd⟩
   have hlk:(kvJ ks).length=ks.length:=by unfold kvJ;rw[List.length_map]
   rw[hlk,List.take_length] at gd
   refine k true _ ⟨fun _=>⟨g,fun pp hpp h2=>?_⟩,fun _=>rfl⟩ s06
   obtain⟨jx,h1,h3⟩:=List.mem_map.mp (kK.mpr ⟨pp,hpp,h2,rfl⟩)
   have h4:=gd jx h1
   rw[h3] at h4
   exact jK.mp h4
def XsAt (H:Hp) (l:Addr):Prop:=∃ ns:LI,H l=some (.lst (ns.map V.int))∧(∀ n∈ns,0≤n)∧ns.length≤400
theorem XsAt.ne {H:Hp}{l p:Addr}(s:XsAt H l) (h:H p=none):p≠l:=fun z=>by
 obtain⟨ns,e,_⟩:=s
 rw[← z,h] at e
 cases e
theorem XsAt.same {H H':Hp}{l:Addr}(s:XsAt H l) (k:Same H H'):XsAt H' l:=by
 obtain⟨ns,e,h⟩:=s
 exact⟨ns,k _ _ e,h⟩
theorem XsAt.new {H:Hp}{l p:Addr}{o:HO}(s:XsAt H l) (h:H p=none):XsAt (upd H p o) l:=s.same (Same.new h)
theorem XsAt.upd {H:Hp}{l p:Addr}{o:HO}(s:XsAt H l) (h:p≠l):XsAt (upd H p o) l:=by
 obtain⟨ns,e,h'⟩:=s
 exact⟨ns,by rw[upd_ne h.symm];exact e,h'⟩
def Wx (K:PySem.W.Frag):Sp:=fun vs H Q _=>∃ (l:Addr) (ns:LI) (k:Int),vs=[.ref l,.int k]∧SqL K H l (ns.map V.int)∧0≤k∧∀ i:Int,Q (.int i) H
theorem VG (T:Txt w K mg a):FnOk P w K mg base CX0 1 421 (dK K 421) ["_law_script", "_law_k"] (Wx K):=by
 refine(T.fn 28 rfl).ok (scp 28 rfl) (fun vs H Q E h=>?_) (fun cdv A outer s H vs Q E hr h=>?_)
 ·obtain⟨l,ns,k,rfl,_⟩:=h
  rfl
 ·obtain⟨l,ns,k,rfl,hl,k0,q⟩:=h
  refine zT (w_pss_cons (zB (zn vt (zh 1) (zm zF (by rfl) (T.n 0 rfl) yj (zg (zh 0) zd)) (zC _))
    (ze (zj (zL ye (zh 0) (zh 1) (fun _ _=>rfl))))
    zo)
   (ze (zj zi))) ?_
  refine⟨_,rfl,_,rfl,l,_,rfl,.inl hl,_,_,rfl,rfl,_,rfl,?_⟩
  rw[List.length_map]
  refine ite2 (fun z=>?_) (fun z=>?_)
  ·have z:k<ns.length:=of_decide_eq_true z
   obtain⟨n,rfl⟩:∃ n:Nat,k=n:=⟨k.toNat,by omega⟩
   have hn:n<ns.length:=by omega
   refine⟨_,rfl,_,rfl,l,_,_,V.int ns[n],rfl,rfl,hl,wJ (by simp[hn]),?_⟩
   exact q _
  ·exact q 0
def u7:Sp:=fun vs H Q _=>∃ (l:Addr) (n:Int),vs=[.ref l,.int n]∧XsAt H l∧0<n∧∀ (d:Int) (H':Hp),0≤d→d<n→XsAt H' l→Ext l H H'→Q (.int d) H'
theorem uC (T:Txt w K mg a):FnOk P w K mg base CX0 1 435 (dK K 435) ["_law_xs", "_law_size"] u7:=by
 refine(T.fn 30 rfl).ok (scp 30 rfl) (fun vs H Q E h=>?_) (fun cdv A outer s H vs Q E hr h=>?_)
 ·obtain⟨l,n,rfl,_⟩:=h
  rfl
 ·obtain⟨l,n,rfl,⟨ns,hl,h0,hlen⟩,hn,k⟩:=h
  have un:∀ n:Nat,n≤3→(A.deeper (PyProof.Rows.envOfC "_law_take" (defScope (top 45)) s.heap.objs.size 435 cdv)).units+n+2<cLine:=fun n hn=>by
   have:=hr.units
   omega
  refine zT (w_pss_cons (zB (zn (WL WJ WK) (zh 0) (zM zd) (zC _))
    (ze (zj zi))
    zo)
   (ze (zj (zD xX (yi PySem.F.plainAttrs_list PySem.F.slot_list_pop PySem.F.type_list_pop XO (zh 0) (yx zi zd)) (zh 1))))) ?_
  refine⟨_,rfl,(by show 0≤sizeLine;decide),fun q hq=>?_⟩
  have hql:q≠l:=fun z=>by rw[z,hl] at hq;cases hq
  have hl1:(L2.upd H q (.lst [])) l=_:=(upd_ne hql.symm).trans hl
  cases ns with
  |nil =>
   refine .inl ⟨l,q,_,_,fun _=>true,0,rfl,rfl,.inl ⟨SqL.of hl1,SqL.of upd_same⟩,rfl,?_,?_,?_⟩
   ·exact un 0 (by decide)
   ·intro j x y hx
    cases hx
   ·refine⟨_,rfl,iteB rfl ?_⟩
    exact k 0 _ (Int.le_refl _) hn ⟨[],hl1,h0,hlen⟩ (Ext.new hq)
  |cons n0 ns =>
   refine .inr ⟨l,q,_,_,rfl,rfl,SqL.of hl1,SqL.of upd_same,(by simp),?_,?_⟩
   ·exact Nat.lt_of_le_of_lt (Nat.le_add_right _ 2) (un 0 (by decide))
   ·refine⟨_,rfl,iteN rfl ?_⟩
    refine⟨_,rfl,.inl ⟨rfl,_,SqL.of hl1⟩,l,_,0,0,_,rfl,rfl,hl1,by decide,by decide,(by simp[seqIndex?]),rfl,?_⟩
    refine⟨_,rfl,_,_,rfl,rfl,hn,?_⟩
    refine k _ _ (Int.emod_nonneg _ (Int.ne_of_gt hn)) (Int.emod_lt_of_pos _ hn) ⟨ns,upd_same,fun x hx=>h0 x (List.mem_cons_of_mem _ hx),?_⟩ ((Ext.new hq).trans Ext.at)
    have:ns.length+1≤400:=hlen
    omega
def Ye:Sp:=fun vs H Q _=>∃ (c:Int) (m:Nat),vs=[.int c,.int (m:Int)]∧m≤400∧∀ (q:Addr) (H':Hp),H q=none→XsAt H' q→Same H H'→Q (.ref q) H'
theorem XH (T:Txt w K mg a):FnOk P w K mg base CX0 1 428 (dK K 428) ["_law_cell", "_law_many"] Ye:=by
 refine(T.fn 29 rfl).ok (scp 29 rfl) (fun vs H Q E h=>?_) (fun cdv A outer s H vs Q E hr h=>?_)
 ·obtain⟨c,m,rfl,_⟩:=h
  rfl
 ·obtain⟨c,m,rfl,hm,k⟩:=h
  refine zT (w_pss_cons (w_ps_set (i:=2) (scp 29 rfl).nd rfl (Or.inl rfl) (zM zd))
   (w_pss_cons (w_ps_set (i:=3) (scp 29 rfl).nd rfl (Or.inl rfl) zi)
   (yS (zB (zn zaX (zh 0) (zD Zj zi zi) (zC _))
    (ze (w_ps_set (i:=3) (scp 29 rfl).nd rfl (Or.inl rfl) (zD xA (zh 0) (zD Zj zi zi))))
    zo)
   (w_pss_cons (yG PassesOwn.never (we (yB (zn v0 (zh 3) zi (zC _)) (yr (zn vt (zm zF (by rfl) (T.n 0 rfl) yj (zg (zh 2) zd)) (zh 1) (zC _)))))
    (w_pss_cons (zO (yi PySem.F.plainAttrs_list PySem.F.slot_list_append PySem.F.type_list_append zU (zh 2) (vI (zD xX (zh 3) (zD Zj zi zi)) zd)))
    (ze (w_ps_set (i:=3) (scp 29 rfl).nd rfl (Or.inl rfl) (zD vv (zh 3) (zD Zj zi zi))))))
   (w_pss_cons (w_ps_set (i:=4) (scp 29 rfl).nd rfl (Or.inl rfl) (zD xX (zD vZ (zD xC (zD xX (zh 0) zi) zi) zi) zi))
   (w_pss_cons (zG PassesOwn.never rfl (yw rfl (T.n 2 rfl) (vI (zD xA (zh 1) (zm zF (by rfl) (T.n 0 rfl) yj (zg (zh 2) zd))) zd)) (zk (i:=5) (scp 29 rfl).nd rfl (Or.inl rfl))
    (w_pss_cons (w_ps_set (i:=4) (scp 29 rfl).nd rfl (Or.inl rfl) (zD xX (zD vZ (zD xC (zD xC (zh 4) (zD vZ zi (zh 5))) zi) zi) zi))
    (w_pss_cons (w_ps_set (i:=6) (scp 29 rfl).nd rfl (Or.inl rfl) (zD xX (zD vZ (zh 4) (zD xC (zD vv (zh 4) zi) zi)) zi))
    (ze (zO (yi PySem.F.plainAttrs_list PySem.F.slot_list_append PySem.F.type_list_append zU (zh 2) (vI (zD xX (zD vZ (zh 6) (zD xC (zD vv (zh 6) zi) zi)) zi) zd)))))))
   (ze (zj (zh 2))))))))) ?_
  refine⟨(by show 0≤sizeLine;decide),fun p hp=>?_⟩
  refine⟨fun σ' H'=>∃ rest:Int,σ'=[some (.int c),some (.int m),some (.ref p),some (.int rest),none,none,none]∧H'=L2.upd H p (.lst []),?_,?_⟩
  ·refine⟨_,rfl,_,_,rfl,rfl,⟨by decide,by decide,by decide⟩,_,_,rfl,rfl,_,rfl,?_⟩
   refine ite2 (fun _=>?_) (fun _=>?_)
   ·exact⟨_,rfl,_,_,rfl,rfl,⟨by decide,by decide,by decide⟩,_,_,rfl,rfl,_,rfl,rfl⟩
   ·exact⟨_,rfl,rfl⟩
  ·rintro σ' H' ⟨rest,rfl,rfl⟩
   refine⟨fun μ σ H'=>∃ (ns:LI) (rest:Int),μ=m-ns.length∧σ=[some (.int c),some (.int m),some (.ref p),some (.int rest),none,none,none]∧H' p=some (.lst (ns.map V.int))∧Same H H'∧(∀ n∈ns,0≤n)∧ns.length≤m,⟨_,[],rest,rfl,rfl,upd_same,Same.new hp,(fun n hn=>nomatch hn),Nat.zero_le _⟩,?_⟩
   rintro μ σ H1 ⟨ns,rest,rfl,rfl,hp1,s1,h0,hlen⟩
   refine⟨_,rfl,_,_,rfl,rfl,_,rfl,?_⟩
   refine(fun hB=>ite2 (fun _=>⟨_,rfl,p,_,rfl,.inl (SqL.of hp1),_,rfl,_,_,rfl,rfl,_,rfl,ite2 (fun z=>?gC) (fun _=>hB)⟩) (fun _=>hB)) ?gB
   case gC =>
    have z:(ns.length:Int)<m:=by
     have z:=of_decide_eq_true z
     rw[List.length_map] at z
     exact z
    refine⟨_,fun σ' H' h=>h,?_⟩
    refine⟨_,rfl,.inl ⟨rfl,_,SqL.of hp1⟩,_,rfl,_,_,rfl,rfl,⟨by decide,by decide,by decide⟩,_,_,rfl,rfl,(by show(0:Int)<10 ^ Int.toNat 6;decide),p,_,_,rfl,rfl,hp1,(by rw[List.length_map];exact zu (by omega)),?_⟩
    refine⟨_,rfl,_,_,rfl,rfl,⟨by decide,by decide,by decide⟩,_,_,rfl,rfl,⟨(by show(0:Int)<10 ^ Int.toNat 6;decide),(by show(10 ^ Int.toNat 6:Int).natAbs.log2<9000;decide)⟩,?_⟩
    refine⟨m-(ns.length+1),by omega,ns++[rest%10 ^ Int.toNat 6],_,by simp,rfl,?_,Same.updF s1 hp,?_,by simp;omega⟩
    ·rw[upd_same,List.map_append]
     rfl
    ·intro n hn
     rcases List.mem_append.mp hn with h | h
     ·exact h0 n h
     ·rw[List.mem_singleton.mp h]
      exact Int.emod_nonneg _ (by decide)
   case gB =>
    refine⟨_,rfl,_,_,rfl,rfl,(by show(0:Int)<2147483647;decide),_,_,rfl,rfl,_,_,rfl,rfl,.inr ⟨by decide,by decide⟩,_,_,rfl,rfl,(by show(0:Int)<2147483647;decide),?_⟩
    refine⟨_,rfl,_,rfl,p,_,rfl,.inl (SqL.of hp1),_,_,rfl,rfl,?_⟩
    rw[List.length_map]
    refine⟨(m:Int)-ns.length,rfl,by omega,by omega,?_⟩
    generalize ((c%2147483647+1)*48271%2147483647)=x0
    refine for_range (lo:=0) (fun i σ H'=>∃ (ns':LI) (x:Int) (o5 o6:Option V),σ=[some (.int c),some (.int m),some (.ref p),some (.int rest),some (.int x),o5,o6]∧H' p=some (.lst (ns'.map V.int))∧Same H H'∧(∀ n∈ns',0≤n)∧ns'.length=ns.length+i) ?_ ?_ ?_
    ·exact⟨ns,_,none,none,rfl,hp1,s1,h0,rfl⟩
    ·rintro i σ H2 hi ⟨ns',x,o5,o6,rfl,hp2,s2,h2,hl2⟩
     refine⟨_,rfl,_,rfl,_,_,rfl,rfl,.inl ⟨by decide,by decide⟩,_,_,rfl,rfl,_,_,rfl,rfl,_,_,rfl,rfl,.inr ⟨by decide,by decide⟩,_,_,rfl,rfl,(by show(0:Int)<2147483647;decide),?_⟩
     generalize hv:(x+7919*(0+(i:Int))+1)*48271%2147483647=v
     have v1:0≤v:=by rw[← hv];exact Int.emod_nonneg _ (by decide)
     have v2:v<2147483647:=by rw[← hv];exact Int.emod_lt_of_pos _ (by decide)
     refine⟨_,rfl,_,rfl,_,_,rfl,rfl,⟨by show(0:Int)<1009;decide,XW⟩,_,_,rfl,rfl,_,_,rfl,rfl,.inl ⟨by omega,by omega⟩,_,_,rfl,rfl,(by show(0:Int)<2147483647;decide),?_⟩
     generalize hu:v*(v/1009+65537)%2147483647=u
     have u1:0≤u:=by rw[← hu];exact Int.emod_nonneg _ (by decide)
     have u2:u<2147483647:=by rw[← hu];exact Int.emod_lt_of_pos _ (by decide)
     refine⟨_,rfl,.inl ⟨rfl,_,SqL.of hp2⟩,_,rfl,_,rfl,_,_,rfl,rfl,⟨by show(0:Int)<2003;decide,XV⟩,_,_,rfl,rfl,_,_,rfl,rfl,.inl ⟨by omega,by omega⟩,_,_,rfl,rfl,(by show(0:Int)<2147483399;decide),p,_,_,rfl,rfl,hp2,(by rw[List.length_map];exact zu (by omega)),?_⟩
     refine⟨ns'++[u*(u/2003+40697)%2147483399],v,some (.int (0+(i:Int))),some (.int u),(by rw[← hu,← hv];rfl),?_,Same.updF s2 hp,?_,by simp;omega⟩
     ·rw[upd_same,List.map_append,← hu,← hv]
      rfl
     ·intro n hn
      rcases List.mem_append.mp hn with h | h
      ·exact h2 n h
      ·rw[List.mem_singleton.mp h]
       exact Int.emod_nonneg _ (by decide)
    ·rintro σ H2 ⟨ns',x,o5,o6,rfl,hp2,s2,h2,hl2⟩
     exact⟨_,rfl,k p H2 hp ⟨ns',hp2,h2,by omega⟩ s2⟩
def ot1 (ls:LP) (x:Int):LI:=(ls.filter fun p=>decide (p.1=x)).map (·.2)
def ot2 (ls:LP) (x:Int):LI:=(ls.filter fun p=>decide (p.2=x)).map (·.1)
theorem XE {ls:LP}{p:Int×Int}{x:Int}:ot1 (ls++[p]) x=ot1 ls x++if p.1=x then[p.2] else[]:=by
 unfold ot1
 rw[List.filter_append,List.map_append]
 by_cases c:p.1=x<;>simp[c]
theorem XD {ls:LP}{p:Int×Int}{x:Int}:ot2 (ls++[p]) x=ot2 ls x++if p.2=x then[p.1] else[]:=by
 unfold ot2
 rw[List.filter_append,List.map_append]
 by_cases c:p.2=x<;>simp[c]
theorem Yt {x:Int}:∀ {ls:LP},(ot1 ls x++ot2 ls x).Perm (nbs ls x)
 |[]=>List.Perm.refl _
 |p::ls=>by
  have e:nbs (p::ls) x=((if p.1=x then[p.2] else[])++if p.2=x then[p.1] else[])++nbs ls x:=by unfold nbs;rw[List.flatMap_cons]
  have e1:ot1 (p::ls) x=(if p.1=x then[p.2] else[])++ot1 ls x:=by unfold ot1;by_cases c:p.1=x<;>simp[c]
  have e2:ot2 (p::ls) x=(if p.2=x then[p.1] else[])++ot2 ls x:=by unfold ot2;by_cases c:p.2=x<;>simp[c]
  rw[e,e1,e2]
  refine List.Perm.trans ?_ (List.Perm.append_left _ (Yt (ls:=ls)))
  rw[List.append_assoc,List.append_assoc]
  refine List.Perm.append_left _ ?_
  rw[← List.append_assoc,← List.append_assoc]
  exact List.Perm.append_right _ List.perm_append_comm
theorem WF {ls:LP}{x:Int}:(ot1 ls x).length≤ls.length∧(ot2 ls x).length≤ls.length:=by
 unfold ot1 ot2
 rw[List.length_map,List.length_map]
 exact⟨List.length_filter_le _ _,List.length_filter_le _ _⟩
def Ut:Sp:=fun vs H Q _=>∃ (q:Addr) (x:Int) (rs:List V) (hs:LI) (ls:LP),vs=[.ref q,.int x]∧H q=some (.lst rs)∧LnAt H rs ls∧Hs hs∧Ls hs ls ∧
 ∀ (p:Addr) (H':Hp),H p=none→Same H H'→H' p=some (.lst ((hs.filter (adB ls x)).map V.int))→Q (.ref p) H'
theorem VE (T:Txt w K mg a):FnOk P w K mg base CX0 1 452 (dK K 452) ["_law_lines_here", "_law_hand"] Ut:=by
 refine(T.fn 33 rfl).ok (scp 33 rfl) (fun vs H Q E h=>?_) (fun cdv A outer s H vs Q E hr h=>?_)
 ·obtain⟨q,x,rs,hs,ls,rfl,_⟩:=h
  rfl
 ·obtain⟨q,x,rs,hs,ls,rfl,hq,L,wh,wl,k⟩:=h
  have hu:=yA hr
  have l66:=wl.le
  refine zT (w_pss_cons (yC (i:=2) rfl (scp 33 rfl).nd rfl (Or.inl rfl) (N':=["_law_one", "_law_other", "_law_hand"]) (t:=2) (caps:=[1]) ⟨rfl,rfl,rfl⟩ (zy (zh 0)) (fun _=>(zZ rfl (zp (zk (i:=0) (show(["_law_one", "_law_other", "_law_hand"]:List Str).Nodup by decide +kernel) rfl (Or.inl rfl)) (zp (zk (i:=1) (show(["_law_one", "_law_other", "_law_hand"]:List Str).Nodup by decide +kernel) rfl (Or.inl rfl)) zP)))) (fun _=>(yF (zn xR (zh 0) (zh 2) (zC _)))) (fun _=>(zh 1)))
   (ze (zj (zm yo (by rfl) (T.n 6 rfl) zW (vI (zD v4 (zh 2) (yd rfl (N':=["_law_one", "_law_other", "_law_hand"]) (t:=2) (caps:=[1]) ⟨rfl,rfl,rfl⟩ (zy (zh 0)) (fun _=>(zZ rfl (zp (zk (i:=0) (show(["_law_one", "_law_other", "_law_hand"]:List Str).Nodup by decide +kernel) rfl (Or.inl rfl)) (zp (zk (i:=1) (show(["_law_one", "_law_other", "_law_hand"]:List Str).Nodup by decide +kernel) rfl (Or.inl rfl)) zP)))) (fun _=>(yF (zn xR (zh 1) (zh 2) (zC _)))) (fun _=>(zh 0)))) zd))))) ?_
  refine⟨_,rfl,q,rfl,⟨_,SqL.of hq⟩,fun D hD _=>?_⟩
  refine ya (K:=K) (a:=q) (xs:=rs) (fun j zs τ H'=>∃ o1 o2,τ=[o1,o2,some (.int x)]∧zs=(ot1 (ls.take j) x).map V.int∧H' D=some (.lst zs)∧Same H H') ?_ ?_ ?_ ?_
  ·exact⟨none,none,rfl,rfl,upd_same,Same.new hD⟩
  ·rintro j zs τ H' ⟨o1,o2,_,_,_,sm⟩
   exact SqL.of (sm _ _ hq)
  ·rintro j v zs τ H' hj ⟨o1,o2,rfl,rfl,hD',sm⟩
   obtain⟨pr,r,hpr,rfl,hr'⟩:=L.get hj
   refine⟨r,_,rfl,SqT.of (sm _ _ hr'),rfl,_,_,rfl,_,_,rfl,rfl,?_⟩
   refine⟨_,rfl,_,rfl,rfl,_,rfl,?_⟩
   have st:ot1 (ls.take (j+1)) x=ot1 (ls.take j) x++if pr.1=x then[pr.2] else[]:=by
    rw[List.take_add_one,hpr]
    exact XE
   refine ite2 (fun z=>?_) (fun z=>?_)
   ·have z:pr.1=x:=by
     have:=of_decide_eq_true z
     injection this
    refine⟨_,rfl,hD',?_,_,_,rfl,?_,upd_same,Same.updF sm hD⟩
    ·rw[List.length_map]
     have:=(WF (ls:=ls.take j) (x:=x)).1
     rw[List.length_take] at this
     exact zu (by omega)
    ·rw[st,if_pos z,List.map_append]
     rfl
   ·have z:¬ pr.1=x:=fun e=>z (by rw[e];exact decide_eq_true rfl)
    refine⟨_,_,rfl,?_,hD',sm⟩
    rw[st,if_neg z,List.append_nil]
  ·rintro zs τ H1 ⟨o1,o2,rfl,rfl,hD1,sm⟩
   rw[L.1,List.take_length] at hD1
   refine⟨_,rfl,_,rfl,q,rfl,⟨_,SqL.of (sm _ _ hq)⟩,fun D2 hD2 _=>?_⟩
   refine ya (K:=K) (a:=q) (xs:=rs) (fun j zs τ H'=>∃ o1 o2,τ=[o1,o2,some (.int x)]∧zs=(ot2 (ls.take j) x).map V.int∧H' D2=some (.lst zs)∧Same H1 H') ?_ ?_ ?_ ?_
   ·exact⟨none,none,rfl,rfl,upd_same,Same.new hD2⟩
   ·rintro j zs τ H' ⟨o1,o2,_,_,_,sm2⟩
    exact SqL.of (sm2 _ _ (sm _ _ hq))
   ·rintro j v zs τ H' hj ⟨o1,o2,rfl,rfl,hD',sm2⟩
    obtain⟨pr,r,hpr,rfl,hr'⟩:=L.get hj
    refine⟨r,_,rfl,SqT.of (sm2 _ _ (sm _ _ hr')),rfl,_,_,rfl,_,_,rfl,rfl,?_⟩
    refine⟨_,rfl,_,rfl,rfl,_,rfl,?_⟩
    have st:ot2 (ls.take (j+1)) x=ot2 (ls.take j) x++if pr.2=x then[pr.1] else[]:=by
     rw[List.take_add_one,hpr]
     exact XD
    refine ite2 (fun z=>?_) (fun z=>?_)
    ·have z:pr.2=x:=by
      have:=of_decide_eq_true z
      injection this
     refine⟨_,rfl,hD',?_,_,_,rfl,?_,upd_same,Same.updF sm2 hD2⟩
     ·rw[List.length_map]
      have:=(WF (ls:=ls.take j) (x:=x)).2
      rw[List.length_take] at this
      exact zu (by omega)
     ·rw[st,if_pos z,List.map_append]
      rfl
    ·have z:¬ pr.2=x:=fun e=>z (by rw[e];exact decide_eq_true rfl)
     refine⟨_,_,rfl,?_,hD',sm2⟩
     rw[st,if_neg z,List.append_nil]
   ·rintro zs τ H2 ⟨o1',o2',rfl,rfl,hD3,sm2⟩
    rw[L.1,List.take_length] at hD3
    have pmx:=Yt (x:=x) (ls:=ls)
    have few:=Yz (x:=x) wh wl
    have flen:=pmx.length_eq
    rw[List.length_append] at flen
    refine⟨D,D2,_,_,rfl,rfl,sm2 _ _ hD1,hD3,(by rw[List.length_map,List.length_map];exact Nat.le_of_lt (zu (by omega))),fun p hp=>?_⟩
    have hp':L2.upd H2 p (HO.lst (List.map V.int (ot1 ls x)++List.map V.int (ot2 ls x))) p=some (.lst ((ot1 ls x++ot2 ls x).map V.int)):=by rw[upd_same,List.map_append]
    have y3:=Same.new (o:=HO.lst (List.map V.int (ot1 ls x)++List.map V.int (ot2 ls x))) hp
    have y123:=(sm.trans sm2).trans y3
    exact⟨p,_,rfl,SqL.of hp',by rw[List.length_append];omega,fun q' ms hq' pm sd=>by
     rw[Za wh wl (pm.trans pmx) sd]
     exact k q' _ (y123.free hq') (y123.trans (Same.new hq')) upd_same⟩
def zbI:Sp:=fun vs H Q _=>∃ (l:Addr) (mo:Int),vs=[.ref l,.int mo]∧0<mo∧mo≤12∧XsAt H l ∧
 ∀ (h:Addr) (hs:LI) (H':Hp),H h=none→H' h=some (.lst (hs.map V.int))→Hs hs→XsAt H' l→Ext l H H'→Q (.ref h) H'
theorem za9 (T:Txt w K mg a):FnOk P w K mg base CX0 2 440 (dK K 440) ["_law_xs", "_law_most"] zbI:=by
 have c__law_take:Callee P w K mg base "_law_take" 435 (dK K 435) ["_law_xs", "_law_size"] 1 u7:=⟨uC T,(T.g 30 rfl),(T.fn 30 rfl).kp,(T.bi 30 rfl)⟩
 refine(T.fn 31 rfl).ok (scp 31 rfl) (fun vs H Q E h=>?_) (fun cdv A outer s H vs Q E hr h=>?_)
 ·obtain⟨l,mo,rfl,_⟩:=h
  rfl
 ·obtain⟨l,mo,rfl,mo0,mo12,hs,k⟩:=h
  refine zT (w_pss_cons (w_ps_set (i:=2) (scp 31 rfl).nd rfl (Or.inl rfl) (zq c__law_take hr.m (zg (zh 0) (yx zi zd))))
   (w_pss_cons (w_ps_set (i:=3) (scp 31 rfl).nd rfl (Or.inr rfl) (zM (zg (zh 2) zd)))
   (w_pss_cons (zG PassesOwn.never rfl (yw rfl (T.n 2 rfl) (zQ (zq c__law_take hr.m (zg (zh 0) (zg (zh 1) zd))) zd)) (zk (i:=4) (scp 31 rfl).nd rfl (Or.inl rfl))
    (w_pss_cons (w_ps_set (i:=2) (scp 31 rfl).nd rfl (Or.inl rfl) (zD xC (zD xC (zh 2) zi) (zq c__law_take hr.m (zg (zh 0) (yx zi zd)))))
    (ze (zO (yi PySem.F.plainAttrs_list PySem.F.slot_list_append PySem.F.type_list_append zU (zh 3) (zg (zh 2) zd))))))
   (yS (zB (zn xR (zq c__law_take hr.m (zg (zh 0) (yx zi zd))) zi (zC _))
    (ze (w_ps_set (i:=3) (scp 31 rfl).nd rfl (Or.inr rfl) (yd rfl (N':=["_law_one", "_law_found"]) (t:=1) (caps:=[3]) ⟨rfl,rfl,rfl⟩ (zy (zh 3)) (fun _=>(zk (i:=0) (show(["_law_one", "_law_found"]:List Str).Nodup by decide +kernel) rfl (Or.inl rfl))) (fun _=>yk) (fun _=>(zD xA (zD xC (zh 0) zi) (zL ye (zh 1) (xj xU zi) (fun _ _=>rfl)))))))
    zo)
   (ze (zj (zh 3))))))) ?_
  refine⟨_,rfl,l,5,rfl,hs,by decide,fun d0 H1 g1 g2 s1 x1=>?_⟩
  refine⟨_,rfl,(by show 1≤sizeLine;decide),fun p hp=>?_⟩
  have npl:=s1.ne hp
  refine⟨_,rfl,_,rfl,l,mo,rfl,s1.new hp,mo0,fun m H2 g3 g4 s2 x2=>?_⟩
  refine⟨m,rfl,by omega,by omega,?_⟩
  have hp2:H2 p=some (.lst [V.int d0]):=x2 _ _ upd_same npl
  have X2:Ext l H1 H2:=(Ext.new hp).trans x2
  refine for_range (lo:=0) (fun i σ H'=>∃ (ns:LI) (x:Int) (o4:Option V),σ=[some (.ref l),some (.int mo),some (.int x),some (.ref p),o4]∧H' p=some (.lst ((ns++[x]).map V.int))∧ns.length=i∧(ns++[x]).Pairwise (· < ·)∧(∀ y∈ns++[x],0≤y)∧(∀ y∈ns++[x],y≤4+8*(i:Int))∧XsAt H' l∧Ext l H1 H') ?_ ?_ ?_
  ·refine⟨[],d0,none,rfl,hp2,rfl,by simp,?_,?_,s2,X2⟩
   ·intro y hy
    rw[List.mem_singleton.mp hy];exact g1
   ·intro y hy
    rw[List.mem_singleton.mp hy];omega
  ·rintro i σ H3 hi ⟨ns,x,o4,rfl,hp3,hln,up,lo,hi',s3,x3⟩
   refine⟨_,rfl,_,_,rfl,rfl,_,rfl,l,8,rfl,s3,by decide,fun d H4 a1 a2 s4 x4=>?_⟩
   have hp4:=x4 _ _ hp3 npl
   refine⟨_,_,rfl,rfl,_,rfl,.inl ⟨rfl,_,SqL.of hp4⟩,_,rfl,p,_,_,rfl,rfl,hp4,(by rw[List.length_map,List.length_append];exact zu (by simp;omega)),?_⟩
   refine⟨ns++[x],x+1+d,_,rfl,?_,by simp[hln],?_,?_,?_,s4.upd npl,?_⟩
   ·rw[upd_same,List.map_append (l₂:=[x+1+d])]
    rfl
   ·rw[List.pairwise_append]
    refine⟨up,by simp,fun y hy z hz=>?_⟩
    rw[List.mem_singleton.mp hz]
    rcases List.mem_append.mp hy with h | h
    ·have:=(List.pairwise_append.mp up).2.2 y h x (by simp)
     omega
    ·rw[List.mem_singleton.mp h];omega
   ·intro y hy
    rcases List.mem_append.mp hy with h | h
    ·exact lo y h
    ·rw[List.mem_singleton.mp h]
     have:=lo x (by simp)
     omega
   ·intro y hy
    rcases List.mem_append.mp hy with h | h
    ·have:=hi' y h
     omega
    ·rw[List.mem_singleton.mp h]
     have:=hi' x (by simp)
     omega
   ·intro b o e nb
    rw[upd_ne (ne_of_none e hp)]
    exact(x3.trans x4) b o e nb
  ·rintro σ H3 ⟨ns,x,o4,rfl,hp3,hln,up,lo,hi',s3,x3⟩
   have hp0:H p=none:=by
    cases e:H p with
    |none=>rfl
    |some o=>have:=x1 _ _ e npl;rw[hp] at this;cases this
   have X3:=x1.trans x3
   refine⟨fun σ' H'=>∃ (h:Addr) (hs':LI),σ'=[some (.ref l),some (.int mo),some (.int x),some (.ref h),o4]∧H h=none∧H' h=some (.lst (hs'.map V.int))∧Hs hs'∧XsAt H' l∧Ext l H H',?_,?_⟩
   ·refine⟨_,rfl,l,4,rfl,s3,by decide,fun d H4 a1 a2 s4 x4=>⟨rfl,_,rfl,?_⟩⟩
    have hp4:=x4 _ _ hp3 npl
    have X4:=X3.trans x4
    have hl:(ns++[x]).length=m.toNat+1:=by rw[List.length_append,hln];rfl
    refine ite2 (fun _=>?_) (fun _=>?_)
    ·refine⟨_,rfl,p,rfl,⟨_,SqL.of hp4⟩,fun D hD _=>?_⟩
     have nDl:=s4.ne hD
     have hD0:H D=none:=by
      cases e:H D with
      |none=>rfl
      |some o=>have:=X4 _ _ e nDl;rw[hD] at this;cases this
     refine ya (K:=K) (a:=p) (xs:=(ns++[x]).map V.int) (fun j zs τ H'=>∃ o,τ=[o,some (.ref p)]∧zs=(((ns++[x]).take j).map fun y=>y+99-x).map V.int∧H' D=some (.lst zs)∧Same H4 H') ?_ ?_ ?_ ?_
     ·exact⟨none,rfl,by simp,upd_same,Same.new hD⟩
     ·rintro j zs τ H' ⟨o,_,_,_,sm⟩
      exact SqL.of (sm _ _ hp4)
     ·rintro j v zs τ H' hj ⟨o,rfl,rfl,hD',sm⟩
      rw[List.getElem?_map] at hj
      obtain⟨y,hy,rfl⟩:=Option.map_eq_some_iff.mp hj
      have hjl:=(List.getElem?_eq_some_iff.mp hy).1
      refine X7 ?_
      refine⟨_,rfl,_,_,rfl,rfl,_,rfl,_,rfl,p,_,_,V.int x,rfl,rfl,SqL.of (sm _ _ hp4),(by rw[List.map_append];exact at_last),_,_,rfl,rfl,hD',by simp;exact zu (by omega),some (.int y),rfl,?_,upd_same,Same.updF sm hD⟩
      rw[List.take_add_one,hy]
      simp
     ·rintro zs τ H5 ⟨o,rfl,rfl,hD5,sm⟩
      rw[List.length_map,List.take_length] at hD5
      refine⟨D,_,rfl,hD0,hD5,⟨?_,?_,?_,?_,?_⟩,s4.same sm,X4.trans (Ext.same sm)⟩
      ·rw[List.length_map,hl];omega
      ·rw[List.length_map,hl];omega
      ·rw[List.pairwise_map]
       exact up.imp fun h=>by omega
      ·intro y hy
       obtain⟨z,hz,rfl⟩:=List.mem_map.mp hy
       have h1:=lo z hz
       have h2:=hi' x (by simp)
       omega
      ·intro y hy
       obtain⟨z,hz,rfl⟩:=List.mem_map.mp hy
       rcases List.mem_append.mp hz with h | h
       ·have:=(List.pairwise_append.mp up).2.2 z h x (by simp)
        omega
       ·rw[List.mem_singleton.mp h];omega
    ·refine⟨p,_,rfl,hp0,hp4,⟨?_,?_,up,lo,fun y hy=>?_⟩,s4,X4⟩
     ·rw[hl];omega
     ·rw[hl];omega
     ·have:=hi' y hy
      omega
   ·rintro σ' H4 ⟨h,hs',rfl,hh0,hh,wh,s4,x4⟩
    exact⟨_,rfl,k h hs' H4 hh0 hh wh s4 x4⟩
noncomputable def tri:Nat→Nat
 |0=>0
 |n+1=>tri n+n
theorem Ve:∀ n,n≤12→tri n≤66:=by decide
theorem Ua {n j:Nat}(h:j<n):tri j+j≤tri n:=by
 induction n with
 |zero=>omega
 |succ n ih =>
  show tri j+j≤tri n+n
  by_cases c:j=n
  ·subst c;exact Nat.le_refl _
  ·have:=ih (by omega)
   omega
theorem zaV {b1 b2 b3 b4 b5 b6:Bool}{d:Int}(h0:0≤d) (h1:d<6):∃ z,atI [V.bl b1,V.bl b2,V.bl b3,V.bl b4,V.bl b5,V.bl b6] d=some (.bl z):=by
 rcases(by omega:d=0∨d=1∨d=2∨d=3∨d=4∨d=5) with rfl | rfl | rfl | rfl | rfl | rfl
 all_goals exact⟨_,rfl⟩
theorem LnAt.cut {H:Hp}{rs:List V}{ls:LP}{n:Nat}(h:LnAt H rs ls):LnAt H (rs.drop n++rs.take n) (ls.drop n++ls.take n):=by
 refine⟨by simp[h.1],fun i r p e1 e2=>?_⟩
 by_cases c:i<(ls.drop n).length
 ·rw[List.getElem?_append_left (by simp[h.1];simpa using c)] at e1
  rw[List.getElem?_append_left c] at e2
  rw[List.getElem?_drop] at e1 e2
  exact h.2 _ r p e1 e2
 ·rw[List.getElem?_append_right (by simp[h.1];simpa using c)] at e1
  rw[List.getElem?_append_right (by omega)] at e2
  have e:(rs.drop n).length=(ls.drop n).length:=by simp[h.1]
  rw[e,List.getElem?_take] at e1
  rw[List.getElem?_take] at e2
  split at e1
  ·rw[if_pos ‹_›] at e2
   exact h.2 _ r p e1 e2
  ·cases e1
theorem zah {rs:List V}{n:Nat}(h:n≤rs.length):ZL rs (some (n:Int)) none=rs.drop n:=by
 have h1:HT.sIx rs.length 0 (some (n:Int))=n:=by
  unfold HT.sIx
  show(if (n:Int)<0 then _ else _)=n
  rw[if_neg (by omega)]
  simp
  omega
 have h2:HT.sIx rs.length rs.length none=rs.length:=rfl
 unfold ZL
 rw[h1,h2]
 exact List.take_of_length_le (by rw[List.length_drop];omega)
theorem zbn {rs:List V}{n:Nat}(h:n≤rs.length):ZL rs none (some (n:Int))=rs.take n:=by
 have h1:HT.sIx rs.length rs.length (some (n:Int))=n:=by
  unfold HT.sIx
  show(if (n:Int)<0 then _ else _)=n
  rw[if_neg (by omega)]
  simp
  omega
 have h2:HT.sIx rs.length 0 none=0:=rfl
 unfold ZL
 rw[h1,h2]
 simp
theorem UV {hs:LI}(nd:hs.Nodup){i j:Nat}{x:Int}(h1:hs[i]?=some x) (h2:hs[j]?=some x):i=j:=by
 obtain⟨a1,b1⟩:=List.getElem?_eq_some_iff.mp h1
 obtain⟨a2,b2⟩:=List.getElem?_eq_some_iff.mp h2
 exact(List.getElem?_inj a1 nd).mp (h1.trans h2.symm)
structure Lfd (hs:LI) (ls:LP) (j k:Nat):Prop where
 nd:ls.Nodup
 at_:∀ p∈ls,∃ k' j',hs[k']?=some p.1∧hs[j']?=some p.2∧k'<j'∧(j'<j∨(j'=j∧k'<k))
 le:ls.length≤tri j+k
theorem Lfd.skip {hs:LI}{ls:LP}{j k:Nat}(h:Lfd hs ls j k):Lfd hs ls j (k+1) :=
 ⟨h.nd,fun p hp=>by
  obtain⟨k',j',h1,h2,h3,h4⟩:=h.at_ p hp
  exact⟨k',j',h1,h2,h3,by omega⟩,by have:=h.le;omega⟩
theorem Lfd.row {hs:LI}{ls:LP}{j:Nat}(h:Lfd hs ls j j):Lfd hs ls (j+1) 0 :=
 ⟨h.nd,fun p hp=>by
  obtain⟨k',j',h1,h2,h3,h4⟩:=h.at_ p hp
  exact⟨k',j',h1,h2,h3,by omega⟩,h.le⟩
theorem Lfd.add {hs:LI}{ls:LP}{j k:Nat}{x y:Int}(W:Hs hs) (h:Lfd hs ls j k) (kj:k<j) (hx:hs[k]?=some x) (hy:hs[j]?=some y):Lfd hs (ls++[(x,y)]) j (k+1):=by
 have nd:=zaa W
 refine⟨?_,fun p hp=>?_,?_⟩
 ·rw[List.nodup_append]
  refine⟨h.nd,by simp,fun a ha b hb z=>?_⟩
  rw[List.mem_singleton.mp hb] at z
  obtain⟨k',j',h1,h2,h3,h4⟩:=h.at_ a ha
  rw[z] at h1 h2
  have:=UV nd h1 hx
  have:=UV nd h2 hy
  omega
 ·rcases List.mem_append.mp hp with h' | h'
  ·obtain⟨k',j',h1,h2,h3,h4⟩:=h.at_ p h'
   exact⟨k',j',h1,h2,h3,by omega⟩
  ·rw[List.mem_singleton.mp h']
   exact⟨k,j,hx,hy,kj,.inr ⟨rfl,by omega⟩⟩
 ·rw[List.length_append]
  have:=h.le
  simp
  omega
theorem Lfd.ls {hs:LI}{ls:LP}{n:Nat}(W:Hs hs) (h:Lfd hs ls hs.length 0):Ls hs (ls.drop n++ls.take n):=by
 have pm:(ls.drop n++ls.take n).Perm ls:=List.perm_append_comm.trans (by rw[List.take_append_drop])
 refine⟨pm.nodup_iff.mpr h.nd,fun p hp=>?_,?_⟩
 ·obtain⟨k',j',h1,h2,h3,_⟩:=h.at_ p (pm.mem_iff.mp hp)
  obtain⟨a1,b1⟩:=List.getElem?_eq_some_iff.mp h1
  obtain⟨a2,b2⟩:=List.getElem?_eq_some_iff.mp h2
  refine⟨b1 ▸ List.getElem_mem a1,b2 ▸ List.getElem_mem a2,?_⟩
  rw[← b1,← b2]
  exact List.pairwise_iff_getElem.mp W.up _ _ a1 a2 h3
 ·rw[pm.length_eq]
  have:=h.le
  have:=Ve hs.length W.l12
  omega
def zaJ:Sp:=fun vs H Q _=>∃ (l h:Addr) (hs:LI),vs=[.ref l,.ref h]∧XsAt H l∧H h=some (.lst (hs.map V.int))∧h≠l∧Hs hs ∧
 ∀ (q:Addr) (rs:List V) (ls:LP) (H':Hp),H q=none→H' q=some (.lst rs)→LnAt H' rs ls→Ls hs ls→XsAt H' l→Ext l H H'→Q (.ref q) H'
theorem WG {tA tB:TE}{σ:St}{H:Hp}{Q:VK}(k:(∀ b:Bool,Q (.bl b) H)→zaw tA tB σ H Q) (J:∀ b:Bool,Q (.bl b) H):zaw tA tB σ H Q:=k J
theorem za8 (T:Txt w K mg a):FnOk P w K mg base CX0 2 447 (dK K 447) ["_law_xs", "_law_hands_here"] zaJ:=by
 have c__law_take:Callee P w K mg base "_law_take" 435 (dK K 435) ["_law_xs", "_law_size"] 1 u7:=⟨uC T,(T.g 30 rfl),(T.fn 30 rfl).kp,(T.bi 30 rfl)⟩
 refine(T.fn 32 rfl).ok (scp 32 rfl) (fun vs H Q E h=>?_) (fun cdv A outer s H vs Q E hr h=>?_)
 ·obtain⟨l,h,hs,rfl,_⟩:=h
  rfl
 ·obtain⟨l,h,hs,rfl,sl,hh,nhl,wh,k⟩:=h
  have l12:=wh.l12
  refine zT (w_pss_cons (w_ps_set (i:=2) (scp 32 rfl).nd rfl (Or.inl rfl) (zq c__law_take hr.m (zg (zh 0) (yx zi zd))))
   (w_pss_cons (w_ps_set (i:=3) (scp 32 rfl).nd rfl (Or.inl rfl) (zM zd))
   (w_pss_cons (zG PassesOwn.never rfl (yw rfl (T.n 2 rfl) (zQ (zm zF (by rfl) (T.n 0 rfl) yj (zg (zh 1) zd)) zd)) (zk (i:=4) (scp 32 rfl).nd rfl (Or.inl rfl))
    (ze (zG PassesOwn.never rfl (yw rfl (T.n 2 rfl) (zg (zh 4) zd)) (zk (i:=5) (scp 32 rfl).nd rfl (Or.inl rfl))
     (w_pss_cons (w_ps_set (i:=6) (scp 32 rfl).nd rfl (Or.inl rfl) (uo (z7 xR (zD xA (zh 4) (zh 5)) zi (zC _)) (yL (z7 xR (zD xA (zh 4) (zh 5)) (zD xA (zm zF (by rfl) (T.n 0 rfl) yj (zg (zh 1) zd)) zi) (zC _)))))
     (w_pss_cons (w_ps_set (i:=7) (scp 32 rfl).nd rfl (Or.inl rfl) (zq c__law_take hr.m (zg (zh 0) (yx zi zd))))
     (ze (zB (zJ (zL ye (zM (zg (zh 6) (zr (z7 vt (zh 7) zi (zC _)) (zr (z7 vt (zh 7) zi (zC _)) (zr (z7 vt (zh 7) zi (zC _)) (yx zE (zr (uo (z7 xR (zh 5) (zD xX (zh 7) (zh 4)) (zC _)) (yL (z7 xR (zh 7) zi (zC _)))) zd))))))) (zh 2) (fun _ _=>rfl)))
      (ze (zO (yi PySem.F.plainAttrs_list PySem.F.slot_list_append PySem.F.type_list_append zU (zh 3) (xv (zR (zr (zL ye (zh 1) (zh 5) (fun _ _=>rfl)) (zr (zL ye (zh 1) (zh 4) (fun _ _=>rfl)) zd))) zd))))
      zo)))))))
   (w_pss_cons (w_ps_set (i:=8) (scp 32 rfl).nd rfl (Or.inl rfl) (zq c__law_take hr.m (zg (zh 0) (vI (zD xC (zm zF (by rfl) (T.n 0 rfl) yj (zg (zh 3) zd)) zi) zd))))
   (ze (zj (zD v4 (xH uu (zh 3) (w_po_some (zh 8)) wn) (xH uu (zh 3) wn (w_po_some (zh 8)))))))))) ?_
  refine⟨_,rfl,l,6,rfl,sl,by decide,fun way H1 g1 g2 s1 x1=>?_⟩
  refine⟨(by show 0≤sizeLine;decide),fun p hp=>?_⟩
  have npl:=s1.ne hp
  have hh1:=x1 _ _ hh nhl
  have nhp:h≠p:=fun z=>by rw[z,hp] at hh1;cases hh1
  refine⟨_,rfl,h,_,rfl,.inl (SqL.of ((Same.new hp) _ _ hh1)),_,rfl,?_⟩
  rw[List.length_map]
  refine⟨by omega,by omega,?_⟩
  rw[show((hs.length:Int)).toNat=hs.length by omega]
  have St:∀ {rs:List V}{ls:LP}{H':Hp},LnAt H' rs ls→True:=fun _=>trivial
  refine for_range (lo:=0) (fun j σ H'=>∃ (o4 o5 o6 o7:Option V) (rs:List V) (ls:LP),σ=[some (.ref l),some (.ref h),some (.int way),some (.ref p),o4,o5,o6,o7,none]∧H' p=some (.lst rs)∧LnAt H' rs ls∧Lfd hs ls j 0∧XsAt H' l∧Ext l H1 H') ?_ ?_ ?_
  ·exact⟨none,none,none,none,[],[],rfl,upd_same,⟨rfl,fun i r q e=>by cases e⟩,⟨List.nodup_nil,(fun q hq=>nomatch hq),Nat.zero_le _⟩,s1.new hp,Ext.new hp⟩
  ·rintro j σ H2 hj ⟨o4,o5,o6,o7,rs,ls,rfl,hp2,L,F,s2,x2⟩
   refine⟨_,rfl,0+(j:Int),rfl,by omega,by omega,?_⟩
   rw[show(0+(j:Int)).toNat=j by omega]
   refine for_range (lo:=0) (fun i σ H'=>∃ (o5 o6 o7:Option V) (rs:List V) (ls:LP),σ=[some (.ref l),some (.ref h),some (.int way),some (.ref p),some (.int (0+(j:Int))),o5,o6,o7,none]∧H' p=some (.lst rs)∧LnAt H' rs ls∧Lfd hs ls j i∧XsAt H' l∧Ext l H1 H') ?_ ?_ ?_
   ·exact⟨o5,o6,o7,rs,ls,rfl,hp2,L,F,s2,x2⟩
   ·rintro i σ H3 hi ⟨o5,o6,o7,rs,ls,rfl,hp3,L,F,s3,x3⟩
    have hj2:hs[j]?=some hs[j]:=by simp[hj]
    have hi2:hs[i]?=some (hs[i]'(by omega)):=by simp
    have hh3:=x3 _ _ hh1 nhl
    refine WG (fun hJ=>⟨_,rfl,_,rfl,_,_,rfl,rfl,rfl,_,rfl,ite2 (fun _=>hJ _) (fun _=>⟨_,rfl,_,rfl,_,_,rfl,rfl,_,rfl,h,_,rfl,.inl (SqL.of hh3),_,_,rfl,rfl,rfl,hJ _⟩)⟩) (fun bb=>?_)
    refine⟨_,rfl,l,6,rfl,s3,by decide,fun dr H4 a1 a2 s4 x4=>?_⟩
    refine⟨_,rfl,_,rfl,_,_,rfl,rfl,_,rfl,_,_,rfl,rfl,_,rfl,_,_,rfl,rfl,?_⟩
    refine WG (fun hJ=>⟨_,rfl,_,rfl,_,rfl,_,_,rfl,rfl,(by show(0:Int)<0+(j:Int);omega),rfl,_,rfl,ite2 (fun _=>hJ _) (fun _=>⟨_,rfl,rfl,hJ _⟩)⟩) (fun bb2=>?_)
    have hp4:=x4 _ _ hp3 npl
    have hh4:=x4 _ _ hh3 nhl
    have L4:LnAt H4 rs ls:=⟨L.1,fun n r pr e1 e2=>by
     obtain⟨q,e,t⟩:=L.2 n r pr e1 e2
     exact⟨q,e,x4 _ _ t fun z=>by
      obtain⟨ns,e3,_⟩:=s3
      rw[z,e3] at t
      cases t⟩⟩
    have X4:=x3.trans x4
    refine⟨by show 6≤sizeLine;decide,fun q6 hq6=>?_⟩
    have y5:∀ o,Same H4 (L2.upd H4 q6 o):=fun o=>Same.new hq6
    have u5:∀ o,L2.upd H4 q6 o q6=some o:=fun o=>upd_same
    generalize L2.upd H4 q6=f at *
    obtain⟨z,hz⟩:=zaV (b1:=_) (b2:=_) (b3:=_) (b4:=_) (b5:=_) (b6:=_) g1 g2
    refine⟨_,rfl,q6,_,_,_,rfl,rfl,SqL.of (u5 _),hz,_,rfl,?_⟩
    have hp5:=fun o=>y5 o _ _ hp4
    have hh5:=fun o=>y5 o _ _ hh4
    have L5:=fun o=>L4.same (y5 o)
    have s5:=fun o=>s4.same (y5 o)
    have X5:=fun o=>X4.trans (Ext.same (y5 o))
    refine ite2 (fun _=>?_) (fun _=>?_)
    ·refine⟨_,rfl,.inl ⟨rfl,_,SqL.of (hp5 _)⟩,_,rfl,_,rfl,h,_,_,V.int (hs[i]'(by omega)),rfl,rfl,SqL.of (hh5 _),(by rw[Int.zero_add];exact wJ (by simp)),_,rfl,_,rfl,h,_,_,V.int hs[j],rfl,rfl,SqL.of (hh5 _),(by rw[Int.zero_add];exact wJ (by simp[hj])),(by show 2≤sizeLine;decide),fun qt hqt=>?_⟩
     have y6:=Same.new (o:=HO.tup [V.int (hs[i]'(by omega)),V.int hs[j]]) hqt
     have l66:=F.le
     refine⟨p,_,_,rfl,rfl,y6 _ _ (hp5 _),(by rw[L.1];have:=Ve hs.length l12;have:=Ua hj;exact zu (by omega)),?_⟩
     refine⟨_,_,_,_,ls++[(hs[i]'(by omega),hs[j])],rfl,upd_same,LnAt.updL (y6 _ _ (hp5 _)) (LnAt.snoc (p:=(hs[i]'(by omega),hs[j])) ((L5 _).same y6) (q:=qt) upd_same),F.add wh hi hi2 hj2,((s5 _).same y6).upd npl.symm.symm,?_⟩
     intro b o e nb
     rw[upd_ne (ne_of_none e hp)]
     exact((X5 _).trans (Ext.same y6)) b o e nb
    ·exact⟨_,_,_,rs,ls,rfl,hp5 _,L5 _,F.skip,s5 _,X5 _⟩
   ·rintro σ H3 ⟨o5,o6,o7,rs,ls,rfl,hp3,L,F,s3,x3⟩
    exact⟨_,_,_,_,rs,ls,rfl,hp3,L,F.row,s3,x3⟩
  ·rintro σ H2 ⟨o4,o5,o6,o7,rs,ls,rfl,hp2,L,F,s2,x2⟩
   refine⟨_,rfl,_,rfl,p,_,rfl,.inl (SqL.of hp2),_,_,rfl,rfl,l,_,rfl,s2,by omega,fun d H3 a1 a2 s3 x3=>?_⟩
   obtain⟨n,rfl⟩:∃ n:Nat,d=n:=⟨d.toNat,by omega⟩
   have hp3:=x3 _ _ hp2 npl
   have L3:LnAt H3 rs ls:=⟨L.1,fun n r pr e1 e2=>by
      obtain⟨q,e,t⟩:=L.2 n r pr e1 e2
      exact⟨q,e,x3 _ _ t fun z=>by
       obtain⟨ns,e3,_⟩:=s2
       rw[z,e3] at t
       cases t⟩⟩
   refine⟨_,rfl,_,rfl,_,rfl,p,_,rfl,SqL.of hp3,fun q1 hq1=>?_⟩
   have y4:=Same.new (o:=HO.lst (ZL rs (some (n:Int)) none)) hq1
   refine⟨_,rfl,_,rfl,_,rfl,p,_,rfl,SqL.of (y4 _ _ hp3),fun q2 hq2=>?_⟩
   have y5:=Same.new (o:=HO.lst (ZL rs none (some (n:Int)))) hq2
   have hnl:n≤rs.length:=by omega
   have l66:=F.le
   have:=Ve hs.length l12
   have l1:=xq rs (some (n:Int)) none
   have l2:=xq rs none (some (n:Int))
   have lL:=L.1
   refine⟨q1,q2,_,_,rfl,rfl,y5 _ _ upd_same,upd_same,(Nat.le_of_lt (zu (by omega))),fun q hq=>?_⟩
   have y6:=Same.new (o:=HO.lst (ZL rs (some (n:Int)) none++ZL rs none (some (n:Int)))) hq
   have y456:=(y4.trans y5).trans y6
   refine k q (rs.drop n++rs.take n) (ls.drop n++ls.take n) _ ((((x1.trans x2).trans x3).trans (Ext.same (y4.trans y5))).free ((s3.same (y4.trans y5)).ne hq) hq) (by rw[upd_same,zah hnl,zbn hnl]) (L3.same y456).cut (F.ls wh) (s3.same y456) ?_
   exact(x1.trans x2).trans (x3.trans (Ext.same y456))
theorem LnAt.updN {H:Hp}{p:Addr}{o:HO}{u:HO}{rs:List V}{ls:LP}(h:LnAt H rs ls) (hp:H p=some u) (hu:∀ xs,u≠.tup xs):LnAt (L2.upd H p o) rs ls:=⟨h.1,fun n r q a1 a2=>by
 obtain⟨qq,b1,b2⟩:=h.2 n r q a1 a2
 exact⟨qq,b1,by rw[upd_ne (fun z=>by rw[z,hp] at b2;injection b2 with b2;exact hu _ b2)];exact b2⟩⟩
def zaC:Sp:=fun vs H Q _=>∃ (d:Addr) (pf:Int→Option Int) (us:LI) (x:Int),vs=[.ref d,.int x]∧H d=some (.dK (tabV (fun x=>opV (pf x)) us))∧us.length≤12∧Cl us pf∧x∈us∧(∀ (l:Addr) (p:LI),En pf x p→H l=none→Q (.ref l) (upd H l (.lst (p.map V.int))))∧((¬∃ p,En pf x p)→∀ H',Same H H'→Q .non H')
theorem UL (T:Txt w K mg a):FnOk P w K mg base CX0 1 459 (dK K 459) ["_law_parents", "_law_hand"] zaC:=by
 refine(T.fn 34 rfl).ok (scp 34 rfl) (fun vs H Q E h=>?_) (fun cdv A outer s H vs Q E hr h=>?_)
 ·obtain⟨d,pf,us,x,rfl,_⟩:=h
  rfl
 ·obtain⟨d,pf,us,x,rfl,hd,l12,C,hx,k,k0⟩:=h
  have hu:=yA hr
  refine zT (w_pss_cons (w_ps_set (i:=2) (scp 34 rfl).nd rfl (Or.inl rfl) (zM (zg (zh 1) zd)))
   (w_pss_cons (yG PassesOwn.never (zn wz (zH hu (zh 0) (zL ye (zh 2) (xj xU zi) (fun _ _=>rfl)) (fun _ _=>rfl)) yD (zC _))
    (w_pss_cons (zB (zn v0 (zm zF (by rfl) (T.n 0 rfl) yj (zg (zh 2) zd)) (zm ue (by rfl) (T.n 0 rfl) yj (zg (zh 0) zd)) (zC _))
     (ze (zj yD))
     zo)
    (ze (zO (yi PySem.F.plainAttrs_list PySem.F.slot_list_append PySem.F.type_list_append zU (zh 2) (zr (zH hu (zh 0) (zL ye (zh 2) (xj xU zi) (fun _ _=>rfl)) (fun _ _=>rfl)) zd))))))
   (ze (zj (zh 2))))) ?_
  refine⟨_,rfl,(by show 1≤sizeLine;decide),fun l hl=>?_⟩
  have sm:∀ o,Same H (upd H l o):=fun o=>Same.new hl
  refine⟨fun m σ H'=>∃ (ys:LI) (z:Int),m+(ys++[z]).length=us.length+1∧σ=[some (.ref d),some (.int x),some (.ref l)]∧H'=upd H l (.lst ((ys++[z]).map V.int))∧z∈us∧Pre pf x ys z,⟨us.length,[],x,rfl,rfl,rfl,hx,Pre.z⟩,?_⟩
  rintro m σ H' ⟨ys,z,hm,rfl,rfl,hz,hp⟩
  have hlast:atI ((ys++[z]).map V.int) (-1)=some (V.int z):=by rw[List.map_append];exact at_last
  have e2:∀ y:Int,(ys++[z]++[y]).length=(ys++[z]).length+1:=fun y=>by simp
  refine⟨_,rfl,_,rfl,_,rfl,l,_,-1,_,rfl,rfl,SqL.of upd_same,hlast,d,_,rfl,yN ((sm _) _ _ hd) hz,?_⟩
  cases h1:pf z with
  |none =>
   refine⟨rfl,_,rfl,iteN rfl ?_⟩
   refine⟨_,rfl,?_⟩
   exact k l _ (hp.end_ h1) hl
  |some y =>
   refine⟨rfl,_,rfl,wa ?_⟩
   refine⟨_,fun σ' H' h=>h,?_⟩
   by_cases c:us.length<(ys++[z]).length
   ·refine⟨_,rfl,l,_,rfl,.inl (SqL.of upd_same),_,rfl,d,_,rfl,(sm _) _ _ hd,_,_,rfl,rfl,_,rfl,iteB (by rw[List.length_map,tabV_len];exact decide_eq_true (by omega)) ?_⟩
    exact k0 (hp.long C hx h1 (by omega)) _ (sm _)
   refine⟨_,rfl,l,_,rfl,.inl (SqL.of upd_same),_,rfl,d,_,rfl,(sm _) _ _ hd,_,_,rfl,rfl,_,rfl,iteN (by rw[List.length_map,tabV_len];exact decide_eq_false (by omega)) ?_⟩
   refine⟨_,rfl,.inl ⟨rfl,_,SqL.of upd_same⟩,_,rfl,_,rfl,_,rfl,l,_,-1,_,rfl,rfl,SqL.of upd_same,hlast,d,_,rfl,yN ((sm _) _ _ hd) hz,l,_,_,rfl,rfl,upd_same,(by rw[List.length_map];exact zu (by omega)),?_⟩
   rw[xJ,h1]
   refine⟨m-1,by omega,ys++[z],y,by have:=e2 y;omega,rfl,?_,C z hz y h1,hp.s h1⟩
   rw[List.map_append (l₂:=[y])]
   rfl
def zan:Sp:=fun vs H Q _=>∃ (d:Addr) (pf:Int→Option Int) (pa:Int→LI) (us:LI) (x:Int),vs=[.ref d,.int x]∧H d=some (.dK (tabV (fun x=>opV (pf x)) us))∧us.length≤12∧UpP us pf pa∧x∈us∧∀ (l:Addr),H l=none→Q (.ref l) (upd H l (.lst ((pa x).map V.int)))
theorem UM (T:Txt w K mg a):FnOk P w K mg base CX0 1 459 (dK K 459) ["_law_parents", "_law_hand"] zan:=(UL T).imp fun vs H Q E h=>by
 obtain⟨d,pf,pa,us,x,rfl,hd,l12,U,hx,k⟩:=h
 exact⟨d,pf,us,x,rfl,hd,l12,U.cl,hx,fun l p hp hl=>by rw[hp.fn (U.en hx)];exact k l hl,fun h=>absurd ⟨_,U.en hx⟩ h⟩
open L2.Sco (PT PsAt)
noncomputable def rdW (pa:Int→LI) (h n:Int):LI:=pa n++(pa h).reverse.drop 1
def rdO (pa:Int→LI) (h n:Int) (b:Int×Int):LI:=rdW pa b.1 n++rdW pa h b.2
def dbl (ls:LP):LP:=ls.flatMap fun p=>[p,(p.2,p.1)]
theorem Zu {ls:LP}{p:Int×Int}:dbl (ls++[p])=dbl ls++[p]++[(p.2,p.1)]:=by
 unfold dbl
 rw[List.flatMap_append]
 simp
theorem mem_dbl {ls:LP}{q:Int×Int}:q∈dbl ls↔q∈ls∨(q.2,q.1)∈ls:=by
 unfold dbl
 rw[List.mem_flatMap]
 constructor
 ·rintro⟨p,hp,h⟩
  rcases List.mem_cons.mp h with e | e
  ·rw[e];exact .inl hp
  ·rw[List.mem_singleton.mp e];exact .inr hp
 ·rintro(h | h)
  ·exact⟨q,h,List.mem_cons_self⟩
  ·exact⟨_,h,by simp⟩
theorem xS:∀ {ls:LP},(dbl ls).length=2*ls.length
 |[]=>rfl
 |p::ls=>by
  have ih:=xS (ls:=ls)
  unfold dbl at ih ⊢
  rw[List.flatMap_cons,List.length_append,ih,List.length_cons,List.length_cons]
  simp
  omega
theorem zcs {rs:List V}(h:1≤rs.length):ZL rs (some 1) none=rs.drop 1:=zah (n:=1) h
theorem UpP.len {us:LI}{pf:Int→Option Int}{pa:Int→LI}(U:UpP us pf pa){x:Int}(hx:x∈us):1≤(pa x).length∧(pa x).length≤us.length:=by
 obtain⟨⟨ys,e⟩,_,_,h4,h5⟩:=U.ld hx
 exact⟨by rw[e];simp,xn h4 h5⟩
theorem Yl {us:LI}{pf:Int→Option Int}{pa:Int→LI}(U:UpP us pf pa){h n:Int}(hh:h∈us) (hn:n∈us):(rdW pa h n).length≤2*us.length:=by
 have h1:=(U.len hh).2
 have h2:=(U.len hn).2
 unfold rdW
 rw[List.length_append,List.length_drop,List.length_reverse]
 omega
def zaG (a:Ad):Sp:=fun vs H Q _=>∃ (p dx dp ob:Addr) (pf:Int→Option Int) (pa:Int→LI) (us:LI) (x:Int),vs=[.ref p,.int x]∧WayR a H p pf us dx dp ob∧UpP us pf pa∧x∈us∧∀ (l:Addr),H l=none→Q (.ref l) (upd H l (.lst ((pa x).map V.int)))
theorem WM (T:Txt w K mg a):FnOk P w K mg base CX0 1 124 (dK K 124) ["self", "hand"] (zaG a):=(VB T).imp fun vs H Q E h=>by
 obtain⟨p,dx,dp,ob,pf,pa,us,x,rfl,W,U,hx,k⟩:=h
 refine⟨p,dx,dp,ob,pf,us,x,rfl,W,U.cl,hx,fun l ys z hl hz hor=>?_⟩
 rcases hor with⟨_,h⟩ | ⟨_,h⟩
 ·rw[← (U.en hx).fn h]
  exact k l hl
 ·exact absurd ⟨_,U.en hx⟩ h
def zaD (a:Ad):Sp:=fun vs H Q _=>∃ (p dx dp ob:Addr) (pf:Int→Option Int) (pa:Int→LI) (us:LI) (h n:Int),vs=[.ref p,.int h,.int n]∧WayR a H p pf us dx dp ob∧UpP us pf pa∧h∈us∧n∈us∧∀ (l:Addr) (H':Hp),H l=none→H' l=some (.lst ((rdW pa h n).map V.int))→Same H H'→Q (.ref l) H'
theorem UN (T:Txt w K mg a):FnOk P w K mg base CX0 2 262 (dK K 262) ["way", "hand", "neighbour"] (zaD a):=by
 refine(T.fn 15 rfl).ok (scp 15 rfl) (fun vs H Q E h=>?_) (fun cdv A outer s H vs Q E hr h=>?_)
 ·obtain⟨p,dx,dp,ob,pf,pa,us,h,n,rfl,_⟩:=h
  rfl
 ·obtain⟨p,dx,dp,ob,pf,pa,us,h,n,rfl,W,U,hh,hn,k⟩:=h
  have l12:=W.l12
  have lh:=U.len hh
  have ln:=U.len hn
  refine zT (w_pss_cons (w_ps_set (i:=3) (scp 15 rfl).nd rfl (Or.inl rfl) (vG rfl rfl (T.n 4 rfl) rfl (T.n 9 rfl) (zQ (zx (zh 0) (zg (zh 1) zd)) zd)))
   (ze (zj (zD v4 (zx (zh 0) (zg (zh 2) zd)) (xH uu (zh 3) (w_po_some zi) wn))))) ?_
  refine mtV rfl W.p rfl (T.cl 0 rfl) (T.mt 44 rfl) (WM (P:=P) (w:=w) T) hr.m (T.bi 44 rfl) ⟨_,rfl,p,dx,dp,ob,pf,pa,us,h,rfl,W,U,hh,fun l1 hl1=>?_⟩
  refine⟨l1,_,rfl,SqL.of upd_same,fun l2 hl2=>?_⟩
  have s2:=(Same.new (o:=HO.lst ((pa h).map V.int)) hl1).trans (Same.new (o:=HO.lst ((pa h).map V.int).reverse) hl2)
  have h2:=upd_same (H:=upd H l1 (HO.lst ((pa h).map V.int))) (a:=l2) (o:=HO.lst ((pa h).map V.int).reverse)
  generalize upd (upd H l1 (HO.lst ((pa h).map V.int))) l2 (HO.lst ((pa h).map V.int).reverse)=H2 at *
  have W2:=W.same s2
  refine mtV rfl W2.p rfl (T.cl 0 rfl) (T.mt 44 rfl) (WM (P:=P) (w:=w) T) hr.m (T.bi 44 rfl) ⟨_,rfl,p,dx,dp,ob,pf,pa,us,n,rfl,W2,U,hn,fun l3 hl3=>?_⟩
  have s3:=Same.new (o:=HO.lst ((pa n).map V.int)) hl3
  have h3:=upd_same (H:=H2) (a:=l3) (o:=HO.lst ((pa n).map V.int))
  generalize upd H2 l3 (HO.lst ((pa n).map V.int))=H3 at *
  refine⟨_,rfl,_,rfl,l2,_,rfl,SqL.of (s3 _ _ h2),fun l4 hl4=>?_⟩
  rw[zcs (by simp;omega)]
  have s4:=Same.new (o:=HO.lst (((pa h).map V.int).reverse.drop 1)) hl4
  refine⟨l3,l4,_,_,rfl,rfl,s4 _ _ h3,upd_same,Nat.le_of_lt (zu (by rw[List.length_drop,List.length_reverse,List.length_map,List.length_map];omega)),fun l5 hl5=>?_⟩
  have s5:=(s2.trans s3).trans s4
  refine k l5 _ (s5.free hl5) ?_ (s5.trans (Same.new hl5))
  rw[upd_same]
  unfold rdW
  rw[List.map_append,List.map_drop,List.map_reverse]
def zbF (a:Ad):Sp:=fun vs H Q _=>∃ (p dx dp ob t:Addr) (pf:Int→Option Int) (pa:Int→LI) (us:LI) (h n:Int) (b:Int×Int),vs=[.ref p,.int h,.int n,.ref t]∧WayR a H p pf us dx dp ob∧UpP us pf pa∧h∈us∧n∈us∧b.1∈us∧b.2∈us∧H t=some (.tup [.int b.1,.int b.2])∧∀ (l:Addr) (H':Hp),H l=none→H' l=some (.lst ((rdO pa h n b).map V.int))→Same H H'→Q (.ref l) H'
theorem za2 (T:Txt w K mg a):FnOk P w K mg base CX0 3 269 (dK K 269) ["way", "hand", "neighbour", "bridge"] (zbF a):=by
 have c_road_within:Callee P w K mg base "road_within" 262 (dK K 262) ["way", "hand", "neighbour"] 2 (zaD a):=⟨UN T,(T.g 15 rfl),(T.fn 15 rfl).kp,(T.bi 15 rfl)⟩
 refine(T.fn 16 rfl).ok (scp 16 rfl) (fun vs H Q E h=>?_) (fun cdv A outer s H vs Q E hr h=>?_)
 ·obtain⟨p,dx,dp,ob,t,pf,pa,us,h,n,b,rfl,_⟩:=h
  rfl
 ·obtain⟨p,dx,dp,ob,t,pf,pa,us,h,n,b,rfl,W,U,hh,hn,hb1,hb2,ht,k⟩:=h
  have l12:=W.l12
  have n1:=Yl U hb1 hn
  have n2:=Yl U hh hb2
  refine zT (ze (zj (zD v4 (zq c_road_within hr.m (zg (zh 0) (zr (zL ym (zh 3) zi (fun _ _=>rfl)) (zg (zh 2) zd)))) (zq c_road_within hr.m (zg (zh 0) (zg (zh 1) (zr (zL ym (zh 3) zi (fun _ _=>rfl)) zd))))))) ?_
  refine⟨_,rfl,_,rfl,t,_,0,_,rfl,rfl,SqT.of ht,rfl,_,rfl,p,dx,dp,ob,pf,pa,us,b.1,n,rfl,W,U,hb1,hn,fun l1 H1 hl1 h1 s1=>?_⟩
  refine⟨_,rfl,_,rfl,_,rfl,t,_,1,_,rfl,rfl,SqT.of (s1 _ _ ht),rfl,p,dx,dp,ob,pf,pa,us,h,b.2,rfl,W.same s1,U,hh,hb2,fun l2 H2 hl2 h2 s2=>?_⟩
  refine⟨l1,l2,_,_,rfl,rfl,s2 _ _ h1,h2,Nat.le_of_lt (zu (by rw[List.length_map,List.length_map];omega)),fun l3 hl3=>?_⟩
  have s12:=s1.trans s2
  refine k l3 _ (s12.free hl3) ?_ (s12.trans (Same.new hl3))
  rw[upd_same]
  unfold rdO
  rw[List.map_append]
open L2.Sco (PT PsAt)
def kvB (js:List ((Int×Int)×Addr)):List (List Key×V):=js.map fun j=>(xo j.1,V.ref j.2)
def sel (lf:Int→Int) (k:Int×Int) (ds:LP):LP:=ds.filter fun p=>decide ((lf p.1,lf p.2)=k)
structure BR (H:Hp) (d:Addr) (lf:Int→Int) (ds:LP) (js:List ((Int×Int)×Addr)):Prop where
 dd:H d=some (.dT (kvB js))
 nd:(js.map (·.1)).Nodup
 rows:∀ j∈js,∃ rs,H j.2=some (.lst rs)∧LnAt H rs (sel lf j.1 ds)
 no:∀ k,k∉js.map (·.1)→sel lf k ds=[]
structure BB (G H:Hp) (d:Addr) (lf:Int→Int) (ds:LP) (js:List ((Int×Int)×Addr)):Prop extends BR H d lf ds js where
 sm:Ext d G H
 fr:∀ j∈js,G j.2=none
 nda:(js.map (·.2)).Nodup
theorem BR.same {H H':Hp}{d:Addr}{lf:Int→Int}{ds:LP}{js:List ((Int×Int)×Addr)}(b:BR H d lf ds js) (s:Same H H'):BR H' d lf ds js :=
 ⟨s _ _ b.dd,b.nd,fun j hj=>let ⟨rs,h1,h2⟩:=b.rows j hj;⟨rs,s _ _ h1,h2.same s⟩,b.no⟩
theorem BB.same {G H H':Hp}{d:Addr}{lf:Int→Int}{ds:LP}{js:List ((Int×Int)×Addr)}(b:BB G H d lf ds js) (s:Same H H'):BB G H' d lf ds js :=
 ⟨b.toBR.same s,b.sm.trans (Ext.same s),b.fr,b.nda⟩
theorem YS {α β:Type}{f:α→β}:∀ {xs:List α},(xs.map f).Nodup→∀ {u v},u∈xs→v∈xs→f u=f v→u=v:=by
 intro xs
 induction xs with
 |nil=>intro _ u v hu;cases hu
 |cons x xs ih =>
  intro hn u v hu hv e
  rw[List.map_cons,List.nodup_cons] at hn
  rcases List.mem_cons.mp hu with a1 | a1<;>rcases List.mem_cons.mp hv with a2 | a2
  ·rw[a1,a2]
  ·exact absurd (List.mem_map.mpr ⟨v,a2,by rw[← e,a1]⟩) hn.1
  ·exact absurd (List.mem_map.mpr ⟨u,a1,by rw[e,a2]⟩) hn.1
  ·exact ih hn.2 a1 a2 e
theorem kvB_keys {js:List ((Int×Int)×Addr)}{k:Int×Int}:xo k∈(kvB js).map (·.1)↔k∈js.map (·.1):=by
 unfold kvB
 rw[List.map_map]
 constructor
 ·intro h
  obtain⟨j,hj,e⟩:=List.mem_map.mp h
  exact List.mem_map.mpr ⟨j,hj,y9 e⟩
 ·intro h
  obtain⟨j,hj,e⟩:=List.mem_map.mp h
  exact List.mem_map.mpr ⟨j,hj,by rw[← e];rfl⟩
theorem WR {js:List ((Int×Int)×Addr)}{k:Int×Int}{v:V}(h:yE (kvB js) (xo k)=some v):∃ l,v=.ref l∧(k,l)∈js:=by
 unfold yE at h
 obtain⟨kv,h1,rfl⟩:=Option.map_eq_some_iff.mp h
 have h2:=List.find?_some h1
 obtain⟨j,hj,e⟩:=List.mem_map.mp (List.mem_of_find?_eq_some h1)
 subst e
 have e:j.1=k:=y9 (of_decide_eq_true h2)
 exact⟨j.2,rfl,by rw[← e];exact hj⟩
theorem BB.put {G H:Hp}{d e:Addr}{lf:Int→Int}{ds:LP}{js:List ((Int×Int)×Addr)}(b:BB G H d lf ds js){k:Int×Int}(he:H e=some (.lst [])) (hne:∀ j∈js,j.2≠e) (hge:G e=none) (hn:yE (kvB js) (xo k)=none):BB G (upd H d (.dT (putK (kvB js) (xo k) (.ref e)))) d lf ds (js++[(k,e)]):=by
 have hk:k∉js.map (·.1):=fun z=>uY hn (kvB_keys.mpr z)
 have ned:e≠d:=fun z=>by rw[z,b.dd] at he;cases he
 refine⟨⟨?_,?_,fun j hj=>?_,fun k' hk'=>b.no k' fun z=>hk' (by rw[List.map_append];exact List.mem_append.mpr (.inl z))⟩,b.sm.trans Ext.at,fun j hj=>?_,?_⟩
 ·rw[upd_same,L2.putK_new _ hn]
  unfold kvB
  rw[List.map_append]
  rfl
 ·rw[List.map_append,List.nodup_append]
  exact⟨b.nd,by simp,fun u hu v hv e=>hk (by rw[List.map_cons,List.map_nil] at hv;rw[List.mem_singleton.mp hv] at e;have e:u=k:=e;rw[← e];exact hu)⟩
 ·rcases List.mem_append.mp hj with z | z
  ·obtain⟨rs,h1,h2⟩:=b.rows j z
   exact⟨rs,by rw[upd_ne (fun q=>by rw[q,b.dd] at h1;cases h1)];exact h1,h2.updN b.dd (fun xs q=>by cases q)⟩
  ·rw[List.mem_singleton.mp z]
   refine⟨[],by rw[upd_ne ned];exact he,?_⟩
   rw[b.no k hk]
   exact⟨rfl,fun n r p a1=>by simp at a1⟩
 ·rcases List.mem_append.mp hj with z | z
  ·exact b.fr j z
  ·rw[List.mem_singleton.mp z];exact hge
 ·rw[List.map_append,List.nodup_append]
  refine⟨b.nda,by simp,fun u hu v hv ee=>?_⟩
  obtain⟨j,hj,rfl⟩:=List.mem_map.mp hu
  rw[List.map_cons,List.map_nil] at hv
  rw[List.mem_singleton.mp hv] at ee
  exact hne j hj ee
theorem BB.app {G H:Hp}{d l t:Addr}{lf:Int→Int}{ds:LP}{js:List ((Int×Int)×Addr)}(b:BB G H d lf ds js){p:Int×Int}(hj:((lf p.1,lf p.2),l)∈js){rs:List V}(hl:H l=some (.lst rs)) (ht:H t=some (.tup [.int p.1,.int p.2])):BB G (upd H l (.lst (rs++[.ref t]))) d lf (ds++[p]) js:=by
 have hsel:∀ k,sel lf k (ds++[p])=if (lf p.1,lf p.2)=k then sel lf k ds++[p] else sel lf k ds:=fun k=>by
  unfold sel
  rw[List.filter_append]
  by_cases c:(lf p.1,lf p.2)=k
  ·rw[if_pos c,List.filter_cons_of_pos (by simpa using c)]
   rfl
  ·rw[if_neg c,List.filter_cons_of_neg (by simpa using c)]
   simp
 refine⟨⟨?_,b.nd,fun j hjm=>?_,fun k hk=>?_⟩,fun c o e n=>?_,b.fr,b.nda⟩
 ·rw[upd_ne (fun z=>by rw[← z,b.dd] at hl;cases hl)]
  exact b.dd
 ·obtain⟨rs',h1,h2⟩:=b.rows j hjm
  rw[hsel]
  by_cases c:j.2=l
  ·have ej:j=((lf p.1,lf p.2),l):=YS b.nda hjm hj c
   rw[ej] at h1 h2 ⊢
   rw[hl] at h1
   cases h1
   rw[if_pos rfl]
   exact⟨_,upd_same,(h2.snoc ht).updN hl (fun xs q=>by cases q)⟩
  ·have hk:(lf p.1,lf p.2)≠j.1:=fun z=>c (by rw[← YS b.nd hj hjm z])
   rw[if_neg hk]
   exact⟨rs',by rw[upd_ne c];exact h1,h2.updN hl (fun xs q=>by cases q)⟩
 ·rw[hsel,if_neg (fun z=>hk (by rw[← z];exact List.mem_map.mpr ⟨_,hj,rfl⟩))]
  exact b.no k hk
 ·rw[upd_ne (ne_of_none e (b.fr _ hj))]
  exact b.sm c o e n
theorem BB.set {G H:Hp}{d e kt:Addr}{lf:Int→Int}{ds:LP}{js:List ((Int×Int)×Addr)}{k:Int×Int}{Q:V→Hp→Prop}(b:BB G H d lf ds js) (he:H e=some (.lst [])) (hne:∀ j∈js,j.2≠e) (hge:G e=none) (ht:H kt=some (.tup [.int k.1,.int k.2])) (hz:js.length≤1000)
  (hJ:∀ (l:Addr) (H':Hp) (js':List ((Int×Int)×Addr)),BB G H' d lf ds js'→(k,l)∈js'→js'.length≤js.length+1→Ext d H H'→Q (.ref l) H'):zbr H d (.ref kt) (.ref e) Q:=by
 refine .inr ⟨kvB js,xo k,kt,b.dd,rfl,ht,by unfold kvB;rw[List.length_map];exact zu hz,fun u hu=>?_,fun hn=>?_⟩
 ·obtain⟨l,rfl,hl⟩:=WR hu
  exact hJ l H js b hl (by omega) (Ext.same fun _ _ h=>h)
 ·exact hJ e _ (js++[(k,e)]) (b.put he hne hge hn) (by simp) (by simp) Ext.at
def zaP (a:Ad):Sp:=fun vs H Q _=>∃ (p dx dp ob:Addr) (pf:Int→Option Int) (pa:Int→LI) (us:LI) (bs:LP),vs=[.ref p]∧WayAt a H p pf us bs dx dp ob∧UpP us pf pa∧Bd bs∧bs.length≤66∧(∀ q∈bs,q.1∈us∧q.2∈us) ∧
 ∀ (d:Addr) (js:List ((Int×Int)×Addr)) (H':Hp),H d=none→BR H' d (ldr pa) (dbl (srt bs)) js→js.length≤132→Same H H'→Q (.ref d) H'
theorem UT (T:Txt w K mg a):FnOk P w K mg base CX0 7 276 (dK K 276) ["way"] (zaP a):=by
 refine(T.fn 17 rfl).ok (scp 17 rfl) (fun vs H Q E h=>?_) (fun cdv A outer s H vs Q E hr h=>?_)
 ·obtain⟨p,dx,dp,ob,pf,pa,us,bs,rfl,_⟩:=h
  rfl
 ·obtain⟨p,dx,dp,ob,pf,pa,us,bs,rfl,W,U,B,l66,hin,k⟩:=h
  have hu:=yA hr
  refine zT (w_pss_cons (w_ps_set (i:=1) (scp 17 rfl).nd rfl (Or.inl rfl) yY)
   (w_pss_cons (zG PassesOwn.never rfl (zy (zm Sco.call_sortX (by rfl) (T.n 6 rfl) zW (zQ (zK (zh 0)) zd))) (zZ rfl (zp (zk (i:=2) (scp 17 rfl).nd rfl (Or.inl rfl)) (zp (zk (i:=3) (scp 17 rfl).nd rfl (Or.inl rfl)) zP)))
    (w_pss_cons (zO (yi PySem.F.plainAttrs_list PySem.F.slot_list_append PySem.F.type_list_append zU (xt hu (zh 1) (zR (zQ (zx (zh 0) (zg (zh 2) zd)) (zQ (zx (zh 0) (zg (zh 3) zd)) zd))) (zM zd) ⟨rfl,rfl,rfl,rfl⟩) (xv (zR (zg (zh 2) (zg (zh 3) zd))) zd)))
    (ze (zO (yi PySem.F.plainAttrs_list PySem.F.slot_list_append PySem.F.type_list_append zU (xt hu (zh 1) (zR (zQ (zx (zh 0) (zg (zh 3) zd)) (zQ (zx (zh 0) (zg (zh 2) zd)) zd))) (zM zd) ⟨rfl,rfl,rfl,rfl⟩) (xv (zR (zg (zh 3) (zg (zh 2) zd))) zd))))))
   (ze (zj (zh 1))))) ?_
  refine fun d hd=>?_
  have s0:=Same.new (o:=HO.dT []) hd
  have h0:=upd_same (H:=H) (a:=d) (o:=HO.dT [])
  generalize upd H d (HO.dT [])=H0 at *
  refine mtV rfl (s0 _ _ W.p) rfl (T.cl 0 rfl) (T.mt 43 rfl) (ok_ab (P:=P) (w:=w) T) hr.m (T.bi 43 rfl) (ag0 (wU (W.same s0) (fun l rs H1 hl hl1 L1 s1=>?_)))
  obtain⟨ps,e1,e2,e3⟩:=L1.ps B
  have lps:ps.length≤66:=by rw[← e2,List.length_map] at l66;exact l66
  refine⟨l,ps,rfl,by rw[e1];exact SqL.of hl1,lps,e3,fun sl qs hsl pm up=>?_⟩
  have Ls:=xm e3 pm up
  rw[e2] at Ls
  have s2:=Same.new (o:=HO.lst (qs.map fun p=>V.ref p.1)) hsl
  have hs2:=upd_same (H:=H1) (a:=sl) (o:=HO.lst (qs.map fun p=>V.ref p.1))
  generalize upd H1 sl (HO.lst (qs.map fun p=>V.ref p.1))=H2 at *
  generalize hrq:qs.map (fun p=>V.ref p.1)=rq at *
  have s02:=s0.trans (s1.trans s2)
  have hsm:∀ {x:Int×Int},x∈srt bs↔x∈bs:=fun {x}=>(zX bs).mem_iff
  have lsl:(srt bs).length≤66:=by rw[(zX bs).length_eq];exact l66
  have lr:=Ls.1
  have Ls2:=Ls.same s2
  generalize srt bs=sb at *
  refine⟨sl,rfl,⟨_,SqL.of hs2⟩,?_⟩
  generalize hlf:ldr pa=lf at *
  have hd2:=(s1.trans s2) _ _ h0
  have nsd:sl≠d:=fun z=>by rw[z,hd2] at hs2;cases hs2
  refine for_list (xs:=rq) (fun i σ H'=>∃ (js:List ((Int×Int)×Addr)) (o2 o3:Option V),σ=[some (.ref p),some (.ref d),o2,o3]∧BB H2 H' d lf (dbl (sb.take i)) js∧js.length≤2*i) ?_ ?_ ?_ ?_
  ·exact⟨[],none,none,rfl,⟨⟨hd2,List.nodup_nil,(fun j hj=>(nomatch hj)),fun k _=>rfl⟩,Ext.same fun _ _ h=>h,(fun j hj=>(nomatch hj)),List.nodup_nil⟩,by simp⟩
  ·rintro i σ H' hi ⟨js,o2,o3,_,b,_⟩
   exact SqL.of (b.sm _ _ hs2 nsd)
  ·rintro i v σ H3 hi ⟨js,o2,o3,rfl,b,ljs⟩
   obtain⟨⟨x,y⟩,q,hp,rfl,hq⟩:=Ls2.get hi
   have hpm:=hin _ (hsm.mp (List.mem_of_getElem? hp))
   have hi66:i<66:=by
    have:=(List.getElem?_eq_some_iff.mp hp).1
    omega
   obtain⟨hx,hy⟩:=hpm
   dsimp only at hx hy hq
   have W3:∀ {H':Hp},Ext d H2 H'→WayR a H' p pf us dx dp ob:=fun {H'} x=>by
    have W2:=W.same s02
    refine⟨x _ _ W2.p fun z=>?_,.inl (x _ _ W2.dp fun z=>?_),W2.l12⟩
    ·have:=W.p;rw[z,hd] at this;cases this
    ·have:=W.dp;rw[z,hd] at this;cases this
   have nqd:q≠d:=fun z=>by rw[z,hd2] at hq;cases hq
   refine⟨q,_,rfl,SqT.of (b.sm _ _ hq nqd),rfl,_,_,rfl,_,_,rfl,rfl,?_⟩
   have etk:sb.take (i+1)=sb.take i++[(x,y)]:=by rw[List.take_add_one,hp];rfl
   have zt:(dbl (sb.take i)).length≤2*i:=by rw[xS,List.length_take];omega
   refine⟨_,rfl,d,rfl,.inr ⟨_,.inl b.dd⟩,?_⟩
   refine mtV rfl ((W3 b.sm).p) rfl (T.cl 0 rfl) (T.mt 45 rfl) (wB (P:=P) (w:=w) T) hr.m (T.bi 45 rfl) (ag1 rfl (xy (W3 b.sm) U hx (fun H4 s4=>?_)))
   have b4:=b.same s4
   refine mtV rfl ((W3 b4.sm).p) rfl (T.cl 0 rfl) (T.mt 45 rfl) (wB (P:=P) (w:=w) T) hr.m (T.bi 45 rfl) (ag1 rfl (xy (W3 b4.sm) U hy (fun H5 s5=>?_)))
   have b5:=b4.same s5
   rw[hlf]
   refine⟨(by show 2≤sizeLine;decide),fun kt hkt=>?_⟩
   refine⟨(by show 0≤sizeLine;decide),fun e he=>?_⟩
   have sk:=Same.new (o:=HO.tup [V.int (lf x),V.int (lf y)]) hkt
   have hk6:=upd_same (H:=H5) (a:=kt) (o:=HO.tup [V.int (lf x),V.int (lf y)])
   have b6:=b5.same sk
   generalize upd H5 kt (HO.tup [V.int (lf x),V.int (lf y)])=H6 at *
   have se:=Same.new (o:=HO.lst []) he
   have he7:=upd_same (H:=H6) (a:=e) (o:=HO.lst [])
   have b7:=b6.same se
   have ned:e≠d:=fun z=>by rw[z,b6.dd] at he;cases he
   have hne:∀ j∈js,j.2≠e:=fun j hj z=>by
    obtain⟨rs,h1,_⟩:=b6.rows j hj
    rw[z,he] at h1
    cases h1
   have hk7:=se _ _ hk6
   have hge:=b6.sm.free ned he
   generalize upd H6 e (HO.lst [])=H7 at *
   refine b7.set (k:=(lf x,lf y)) he7 hne hge hk7 (by omega) fun l H8 js1 b8 hl8 n8 x8=>?_
   obtain⟨rs8,hr8,L8⟩:=b8.rows _ hl8
   have z8:=L8.1
   have z9:=List.length_filter_le (fun p:Int×Int=>decide ((lf p.1,lf p.2)=(lf x,lf y))) (dbl (sb.take i))
   refine⟨.inl ⟨rfl,_,SqL.of hr8⟩,?_⟩
   refine⟨_,rfl,_,rfl,(by show 2≤sizeLine;decide),fun t ht=>?_⟩
   have s9:=Same.new (o:=HO.tup [V.int x,V.int y]) ht
   have b9:=b8.same s9
   refine⟨l,_,_,rfl,rfl,s9 _ _ hr8,zu (by unfold sel at z8;dsimp only at z8;omega),?_⟩
   have b10:=b9.app (p:=(x,y)) hl8 (s9 _ _ hr8) upd_same
   generalize upd (upd H8 t (HO.tup [V.int x,V.int y])) l (HO.lst (rs8++[V.ref t]))=H10 at *
   refine⟨_,rfl,d,rfl,.inr ⟨_,.inl b10.dd⟩,?_⟩
   refine mtV rfl ((W3 b10.sm).p) rfl (T.cl 0 rfl) (T.mt 45 rfl) (wB (P:=P) (w:=w) T) hr.m (T.bi 45 rfl) (ag1 rfl (xy (W3 b10.sm) U hy (fun H4' s4'=>?_)))
   have b4':=b10.same s4'
   refine mtV rfl ((W3 b4'.sm).p) rfl (T.cl 0 rfl) (T.mt 45 rfl) (wB (P:=P) (w:=w) T) hr.m (T.bi 45 rfl) (ag1 rfl (xy (W3 b4'.sm) U hx (fun H5' s5'=>?_)))
   have b5':=b4'.same s5'
   rw[hlf]
   refine⟨(by show 2≤sizeLine;decide),fun kt' hkt'=>?_⟩
   refine⟨(by show 0≤sizeLine;decide),fun e' he'=>?_⟩
   have sk':=Same.new (o:=HO.tup [V.int (lf y),V.int (lf x)]) hkt'
   have hk6':=upd_same (H:=H5') (a:=kt') (o:=HO.tup [V.int (lf y),V.int (lf x)])
   have b6':=b5'.same sk'
   generalize upd H5' kt' (HO.tup [V.int (lf y),V.int (lf x)])=H6' at *
   have se':=Same.new (o:=HO.lst []) he'
   have he7':=upd_same (H:=H6') (a:=e') (o:=HO.lst [])
   have b7':=b6'.same se'
   have ned':e'≠d:=fun z=>by rw[z,b6'.dd] at he';cases he'
   have hne':∀ j∈js1,j.2≠e':=fun j hj z=>by
    obtain⟨rs,h1,_⟩:=b6'.rows j hj
    rw[z,he'] at h1
    cases h1
   have hk7':=se' _ _ hk6'
   have hge':=b6'.sm.free ned' he'
   generalize upd H6' e' (HO.lst [])=H7' at *
   refine b7'.set (k:=(lf y,lf x)) he7' hne' hge' hk7' (by omega) fun l' H8' js' b8' hl8' n8' x8'=>?_
   obtain⟨rs8',hr8',L8'⟩:=b8'.rows _ hl8'
   have z8':=L8'.1
   have z9':=List.length_filter_le (fun p:Int×Int=>decide ((lf p.1,lf p.2)=(lf y,lf x))) (dbl (sb.take i)++[(x,y)])
   refine⟨.inl ⟨rfl,_,SqL.of hr8'⟩,?_⟩
   refine⟨_,rfl,_,rfl,(by show 2≤sizeLine;decide),fun t' ht'=>?_⟩
   have s9':=Same.new (o:=HO.tup [V.int y,V.int x]) ht'
   have b9':=b8'.same s9'
   refine⟨l',_,_,rfl,rfl,s9' _ _ hr8',zu (by unfold sel at z8';dsimp only at z8';rw[List.length_append,List.length_singleton] at z9';omega),?_⟩
   have b10':=b9'.app (p:=(y,x)) hl8' (s9' _ _ hr8') upd_same
   generalize upd (upd H8' t' (HO.tup [V.int y,V.int x])) l' (HO.lst (rs8'++[V.ref t']))=H10' at *
   refine⟨js',_,_,rfl,?_,by omega⟩
   rw[etk,Zu]
   exact b10'
  ·rintro σ H' ⟨js,o2,o3,rfl,b,lj⟩
   rw[List.take_of_length_le (by omega)] at b
   refine⟨_,rfl,k d js H' hd b.toBR (by omega) fun c o hc=>?_⟩
   exact b.sm _ _ (s02 _ _ hc) fun z=>by rw[z,hd] at hc;cases hc
open L2.Sco (PT PsAt)
def rfs (pa:Int→LI) (ds:LP) (h n:Int):List (LI):=if ldr pa n=ldr pa h then[rdW pa h n] else(sel (ldr pa) (ldr pa n,ldr pa h) ds).map (rdO pa h n)
def LL (H:Hp) (l:Addr) (xss:List (LI)):Prop:=∃ ps:List (Addr×LI),H l=some (.lst (ps.map fun p=>V.ref p.1))∧(∀ p∈ps,H p.1=some (.lst (p.2.map V.int)))∧ps.map (·.2)=xss
def zaF (a:Ad):Sp:=fun vs H Q _=>∃ (p dx dp ob d:Addr) (pf:Int→Option Int) (pa:Int→LI) (us:LI) (ds:LP) (js:List ((Int×Int)×Addr)) (h n:Int),vs=[.ref p,.ref d,.int h,.int n]∧WayR a H p pf us dx dp ob∧UpP us pf pa∧BR H d (ldr pa) ds js∧(∀ q∈ds,q.1∈us∧q.2∈us)∧ds.length≤132∧h∈us∧n∈us ∧
 ∀ (l:Addr) (H':Hp),H l=none→LL H' l (rfs pa ds h n)→Same H H'→Q (.ref l) H'
theorem UO (T:Txt w K mg a):FnOk P w K mg base CX0 4 281 (dK K 281) ["way", "bridges", "hand", "neighbour"] (zaF a):=by
 have c_road_within:Callee P w K mg base "road_within" 262 (dK K 262) ["way", "hand", "neighbour"] 2 (zaD a):=⟨UN T,(T.g 15 rfl),(T.fn 15 rfl).kp,(T.bi 15 rfl)⟩
 have c_road_over:Callee P w K mg base "road_over" 269 (dK K 269) ["way", "hand", "neighbour", "bridge"] 3 (zbF a):=⟨za2 T,(T.g 16 rfl),(T.fn 16 rfl).kp,(T.bi 16 rfl)⟩
 refine(T.fn 18 rfl).ok (scp 18 rfl) (fun vs H Q E h=>?_) (fun cdv A outer s H vs Q E hr h=>?_)
 ·obtain⟨p,dx,dp,ob,d,pf,pa,us,ds,js,h,n,rfl,_⟩:=h
  rfl
 ·obtain⟨p,dx,dp,ob,d,pf,pa,us,ds,js,h,n,rfl,W,U,b,hds,lds,hh,hn,k⟩:=h
  have hu:=yA hr
  refine zT (w_pss_cons (w_ps_set (i:=4) (scp 18 rfl).nd rfl (Or.inl rfl) (zR (zQ (zx (zh 0) (zg (zh 3) zd)) (zQ (zx (zh 0) (zg (zh 2) zd)) zd))))
   (w_pss_cons (zB (zn xR (zL ym (zh 4) zi (fun _ _=>rfl)) (zL ym (zh 4) zi (fun _ _=>rfl)) (zC _))
    (ze (zj (zM (zQ (zq c_road_within hr.m (zg (zh 0) (zg (zh 2) (zg (zh 3) zd)))) zd))))
    zo)
   (ze (zj (yd rfl (N':=["bridge", "way", "hand", "neighbour"]) (t:=1) (caps:=[0,2,3]) ⟨rfl,rfl,rfl⟩ (zy (ZA hu (zh 1) (zh 4) (zM zd) ⟨rfl,rfl,rfl,rfl⟩)) (fun _=>(zk (i:=0) (show(["bridge", "way", "hand", "neighbour"]:List Str).Nodup by decide +kernel) rfl (Or.inl rfl))) (fun _=>yk) (fun _=>(zq c_road_over hr.m (zg (zh 1) (zg (zh 2) (zg (zh 3) (zg (zh 0) zd))))))))))) ?_
  refine mtV rfl W.p rfl (T.cl 0 rfl) (T.mt 45 rfl) (wB (P:=P) (w:=w) T) hr.m (T.bi 45 rfl) (ag1 rfl (xy W U hn (fun H1 s1=>?_)))
  have W1:=W.same s1
  refine mtV rfl W1.p rfl (T.cl 0 rfl) (T.mt 45 rfl) (wB (P:=P) (w:=w) T) hr.m (T.bi 45 rfl) (ag1 rfl (xy W1 U hh (fun H2 s2=>?_)))
  refine⟨(by show 2≤sizeLine;decide),fun t ht=>?_⟩
  have s3:=(s1.trans s2).trans (Same.new (o:=HO.tup [V.int (ldr pa n),V.int (ldr pa h)]) ht)
  have ht3:=upd_same (H:=H2) (a:=t) (o:=HO.tup [V.int (ldr pa n),V.int (ldr pa h)])
  generalize upd H2 t (HO.tup [V.int (ldr pa n),V.int (ldr pa h)])=H3 at *
  refine⟨_,rfl,t,_,0,_,rfl,rfl,SqT.of ht3,rfl,_,rfl,t,_,1,_,rfl,rfl,SqT.of ht3,rfl,rfl,_,rfl,?_⟩
  have W3:=W.same s3
  have b3:=b.same s3
  by_cases c:ldr pa n=ldr pa h
  ·refine iteB (by rw[c];simp) ?_
   refine⟨_,rfl,_,rfl,_,rfl,p,dx,dp,ob,pf,pa,us,h,n,rfl,W3,U,hh,hn,fun l H4 hl h4 s4=>?_⟩
   refine⟨(by show 1≤sizeLine;decide),fun r hr'=>?_⟩
   have s5:=Same.new (o:=HO.lst [V.ref l]) hr'
   refine k r _ ((s3.trans s4).free hr') ⟨[(l,rdW pa h n)],upd_same,fun q hq=>?_,?_⟩ (s3.trans (s4.trans s5))
   ·rw[List.mem_singleton.mp hq]
    exact s5 _ _ h4
   ·unfold rfs
    rw[if_pos c]
    rfl
  ·refine iteN (by simp[c]) ?_
   have er:rfs pa ds h n=(sel (ldr pa) (ldr pa n,ldr pa h) ds).map (rdO pa h n):=by unfold rfs;rw[if_neg c]
   rw[er] at k
   refine⟨_,rfl,d,rfl,.inr ⟨_,.inl b3.dd⟩,_,rfl,(by show 0≤sizeLine;decide),fun e he=>?_⟩
   have s4:=Same.new (o:=HO.lst []) he
   have he4:=upd_same (H:=H3) (a:=e) (o:=HO.lst [])
   generalize upd H3 e (HO.lst [])=H4 at *
   have W4:=W3.same s4
   have b4:=b3.same s4
   obtain⟨l0,rs0,hv,h0,L0⟩:∃ l0 rs0,(yE (kvB js) (xo (ldr pa n,ldr pa h))).getD (V.ref e)=V.ref l0∧H4 l0=some (.lst rs0)∧LnAt H4 rs0 (sel (ldr pa) (ldr pa n,ldr pa h) ds):=by
    cases hc:yE (kvB js) (xo (ldr pa n,ldr pa h)) with
    |none =>
     refine⟨e,[],rfl,he4,?_⟩
     rw[b4.no _ fun z=>uY hc (kvB_keys.mpr z)]
     exact⟨rfl,fun n r p a1=>by simp at a1⟩
    |some v =>
     obtain⟨l,rfl,hl⟩:=WR hc
     obtain⟨rs,h1,h2⟩:=b4.rows _ hl
     exact⟨l,rs,rfl,h1,h2⟩
   refine⟨_,DGet.t (k:=xo (ldr pa n,ldr pa h)) b4.dd (s4 _ _ ht3),?_⟩
   rw[hv]
   refine⟨l0,rfl,⟨_,SqL.of h0⟩,fun D hD _=>?_⟩
   have lsel:(sel (ldr pa) (ldr pa n,ldr pa h) ds).length≤132:=Nat.le_trans (List.length_filter_le _ _) lds
   have hsl:∀ q∈sel (ldr pa) (ldr pa n,ldr pa h) ds,q.1∈us∧q.2∈us:=fun q hq=>hds q (List.mem_filter.mp hq).1
   generalize sel (ldr pa) (ldr pa n,ldr pa h) ds=sl at *
   have fD:=(s3.trans s4).free hD
   refine ya (K:=K) (a:=l0) (xs:=rs0) (fun j zs τ H'=>∃ (o:Option V) (ps:List (Addr×LI)),τ=[o,some (.ref p),some (.int h),some (.int n)]∧zs=ps.map (fun p=>V.ref p.1)∧H' D=some (.lst zs)∧(∀ q∈ps,H' q.1=some (.lst (q.2.map V.int)))∧ps.map (·.2)=(sl.take j).map (rdO pa h n)∧Same H4 H') ?_ ?_ ?_ ?_
   ·exact⟨none,[],rfl,rfl,upd_same,(fun q hq=>(nomatch hq)),by simp,Same.new hD⟩
   ·rintro j zs τ H' ⟨o,ps,_,_,_,_,_,sm⟩
    exact SqL.of (sm _ _ h0)
   ·rintro j v zs τ H' hj ⟨o,ps,rfl,rfl,hD',hps,eps,sm⟩
    obtain⟨q,t',hq,rfl,ht'⟩:=L0.get hj
    obtain⟨hq1,hq2⟩:=hsl q (List.mem_of_getElem? hq)
    have hjl:=(List.getElem?_eq_some_iff.mp hq).1
    have lps:ps.length≤132:=by
     have:=congrArg List.length eps
     rw[List.length_map,List.length_map,List.length_take] at this
     omega
    refine X7 ?_
    refine⟨_,rfl,_,rfl,_,rfl,_,rfl,p,dx,dp,ob,t',pf,pa,us,h,n,q,rfl,W4.same sm,U,hh,hn,hq1,hq2,sm _ _ ht',fun l H5 hl h5 s5=>?_⟩
    have nlD:l≠D:=fun z=>by rw[z,hD'] at hl;cases hl
    refine⟨s5 _ _ hD',by rw[List.length_map];exact zu (by omega),_,ps++[(l,rdO pa h n q)],rfl,by rw[List.map_append];rfl,upd_same,fun q' hq'=>?_,?_,Same.updF (sm.trans s5) hD⟩
    ·rcases List.mem_append.mp hq' with z | z
     ·have h1:=s5 _ _ (hps q' z)
      have:q'.1≠D:=fun zz=>by
       have h2:=hps q' z
       rw[zz,hD'] at h2
       injection h2 with h2
       injection h2 with h2
       have:=congrArg List.head? h2
       cases ps with
       |nil=>cases z
       |cons p0 ps => 
        cases hc:q'.2 with
        |nil=>rw[hc] at h2;cases h2
        |cons i r=>rw[hc] at h2;cases h2
      rw[upd_ne this]
      exact h1
     ·rw[List.mem_singleton.mp z,upd_ne nlD]
      exact h5
    ·rw[List.map_append,eps,List.take_add_one,hq,List.map_append]
     rfl
   ·rintro zs τ H' ⟨o,ps,rfl,rfl,hD',hps,eps,sm⟩
    rw[List.take_of_length_le (by have:=L0.1;omega)] at eps
    exact k D H' fD ⟨ps,hD',hps,eps⟩ ((s3.trans s4).trans sm)
def zaI (a:Ad):Sp:=fun vs H Q _=>∃ (p:Addr) (hs:LI) (ls:LP),vs=[.ref p]∧WbP a H p hs ls∧∀ (l:Addr) (rs:List V) (H':Hp),H l=none→H' l=some (.lst rs)→LnAt H' rs (dbl (srt ls))→Same H H'→Q (.ref l) H'
theorem UP (T:Txt w K mg a):FnOk P w K mg base CX0 2 288 (dK K 288) ["web"] (zaI a):=by
 refine(T.fn 19 rfl).ok (scp 19 rfl) (fun vs H Q E h=>?_) (fun cdv A outer s H vs Q E hr h=>?_)
 ·obtain⟨p,hs,ls,rfl,_⟩:=h
  rfl
 ·obtain⟨p,hs,ls,rfl,WP,k⟩:=h
  refine zT (w_pss_cons (w_ps_set (i:=1) (scp 19 rfl).nd rfl (Or.inl rfl) (zM zd))
   (w_pss_cons (zG PassesOwn.never rfl (zy (zK (zh 0))) (zZ rfl (zp (zk (i:=2) (scp 19 rfl).nd rfl (Or.inl rfl)) (zp (zk (i:=3) (scp 19 rfl).nd rfl (Or.inl rfl)) zP)))
    (w_pss_cons (zO (yi PySem.F.plainAttrs_list PySem.F.slot_list_append PySem.F.type_list_append zU (zh 1) (xv (zR (zg (zh 2) (zg (zh 3) zd))) zd)))
    (ze (zO (yi PySem.F.plainAttrs_list PySem.F.slot_list_append PySem.F.type_list_append zU (zh 1) (xv (zR (zg (zh 3) (zg (zh 2) zd))) zd))))))
   (ze (zj (zh 1))))) ?_
  refine⟨(by show 0≤sizeLine;decide),fun l hl=>?_⟩
  have s0:=Same.new (o:=HO.lst []) hl
  have h0:=upd_same (H:=H) (a:=l) (o:=HO.lst [])
  generalize upd H l (HO.lst [])=H0 at *
  obtain⟨wdx,oh,ol,d0,ad,W⟩:=(WP.same s0).at_
  refine mtV rfl W.p rfl (T.cl 1 rfl) (T.mt 49 rfl) (Yv (P:=P) (w:=w) T) hr.m (T.bi 49 rfl) (ag0 (ut W (fun lq zs hlq Lz=>?_)))
  have s1:=Same.new (o:=HO.lst zs) hlq
  have hz1:=upd_same (H:=H0) (a:=lq) (o:=HO.lst zs)
  have Lz1:=Lz.same s1
  have h1:=s1 _ _ h0
  have lsl:(srt ls).length≤66:=by rw[(zX ls).length_eq];exact WP.wl.le
  generalize upd H0 lq (HO.lst zs)=H1 at *
  generalize srt ls=sb at *
  have nql:lq≠l:=fun z=>by rw[z,h0] at hlq;cases hlq
  refine⟨lq,rfl,⟨_,SqL.of hz1⟩,?_⟩
  refine for_list (xs:=zs) (fun i σ H'=>∃ (rs:List V) (o2 o3:Option V),σ=[some (.ref p),some (.ref l),o2,o3]∧H' l=some (.lst rs)∧LnAt H' rs (dbl (sb.take i))∧H' lq=some (.lst zs)∧LnAt H' zs sb∧Same H H') ?_ ?_ ?_ ?_
  ·exact⟨[],none,none,rfl,h1,⟨rfl,fun n r p a1=>by simp at a1⟩,hz1,Lz1,s0.trans s1⟩
  ·rintro i σ H' hi ⟨rs,o2,o3,_,_,_,h,_⟩
   exact SqL.of h
  ·rintro i v σ H2 hi ⟨rs,o2,o3,rfl,h2,L2',hz2,Lz2,sm⟩
   obtain⟨⟨x,y⟩,q,hp,rfl,hq⟩:=Lz2.get hi
   dsimp only at hq
   have hjl:=(List.getElem?_eq_some_iff.mp hp).1
   have etk:sb.take (i+1)=sb.take i++[(x,y)]:=by rw[List.take_add_one,hp];rfl
   have lr:rs.length≤132:=by
    rw[L2'.1,xS,List.length_take]
    omega
   refine⟨q,_,rfl,SqT.of hq,rfl,_,_,rfl,_,_,rfl,rfl,?_⟩
   refine⟨_,rfl,.inl ⟨rfl,_,SqL.of h2⟩,_,rfl,_,rfl,(by show 2≤sizeLine;decide),fun t1 ht1=>?_⟩
   have n1:=Same.new (o:=HO.tup [V.int x,V.int y]) ht1
   refine⟨l,_,_,rfl,rfl,n1 _ _ h2,zu (by omega),?_⟩
   have L3:=(((L2'.same n1).snoc (p:=(x,y)) upd_same).updN (o:=HO.lst (rs++[V.ref t1])) (n1 _ _ h2) (fun xs q=>by cases q))
   have Lz3:=(Lz2.same n1).updN (o:=HO.lst (rs++[V.ref t1])) (n1 _ _ h2) (fun xs q=>by cases q)
   have hz3:(upd (upd H2 t1 (HO.tup [V.int x,V.int y])) l (HO.lst (rs++[V.ref t1]))) lq=some (.lst zs):=by rw[upd_ne nql];exact n1 _ _ hz2
   have sm3:=(sm.trans n1).updF (o:=HO.lst (rs++[V.ref t1])) hl
   have h3:=upd_same (H:=upd H2 t1 (HO.tup [V.int x,V.int y])) (a:=l) (o:=HO.lst (rs++[V.ref t1]))
   generalize upd (upd H2 t1 (HO.tup [V.int x,V.int y])) l (HO.lst (rs++[V.ref t1]))=H3 at *
   refine⟨_,rfl,.inl ⟨rfl,_,SqL.of h3⟩,_,rfl,_,rfl,(by show 2≤sizeLine;decide),fun t2 ht2=>?_⟩
   have n2:=Same.new (o:=HO.tup [V.int y,V.int x]) ht2
   refine⟨l,_,_,rfl,rfl,n2 _ _ h3,zu (by rw[List.length_append,List.length_singleton];omega),?_⟩
   refine⟨_,_,_,rfl,upd_same,?_,by rw[upd_ne nql];exact n2 _ _ hz3,(Lz3.same n2).updN (n2 _ _ h3) (fun xs q=>by cases q),(sm3.trans n2).updF hl⟩
   rw[etk,Zu]
   exact((L3.same n2).snoc (p:=(y,x)) upd_same).updN (n2 _ _ h3) (fun xs q=>by cases q)
  ·rintro σ H' ⟨rs,o2,o3,rfl,h2,L2',_,_,sm⟩
   rw[List.take_of_length_le (by have:=Lz1.1;omega)] at L2'
   exact⟨_,rfl,k l rs H' hl h2 L2' sm⟩
end
end K04
namespace L2
open PySem PySem.Spec PyProof.Rows
section
variable {prog:Program}{w:World}{A:Around}{E:Value→Shared→Prop}{s:Shared}
theorem XT (d:Addr) (hd:(d == sysModules)=false):MeetsIn prog w (Builtin.«dict.__len__» ⟨[.ref d],[]⟩) fun _ R s=>∃ es ep,vD s.heap d es ep∧R (.ok (.ret (.int es.size s.toks))) { s with toks:=s.toks+1 } :=
 .of_wp fun A R s ⟨es,ep,⟨o,ho,hc,ha⟩,h⟩=>by
  refine wpAny_bind (m:=dictSize d) ?_
  unfold dictSize
  refine wpAny_bind (wpAny_dictEntries ho ha (wpAny_pure (wpAny_bind (m:=Builtin.Dict.pendingCount d) (wpAny_pendingCount_other hd (wpAny_ret_mkInt ?_)))))
  rw[Nat.add_zero]
  exact h
theorem UX {d:Addr}{es:Array DictEntry}{ep:Nat}{Q:Value→Shared→Prop}(hd:(d == sysModules)=false) (hm:vD s.heap d es ep) (ht:s.TypeIs (.ref d) "dict") (hf:(es.size:Int)<2 ^ 63)
  (h:Q (.int es.size (s.toks+1)) { s with toks:=s.toks+1+1 }):wpAny (model prog w) A (call (.builtin "len") [.ref d]) Q E s:=by
 refine Calls.call_function_entry kind_len plain_len entry_len (args_len1 _) ?_
 unfold Builtin.«len»
 refine wpAny_bind (m:=oneArg "len" _) (wpAny_pure (wpAny_bind (m:=callSpecial? (.ref d) (Str.ofString "__len__")) (wpAny_callSpecial?_slot (name:=Str.ofString "__len__") ht F.slot_dict_len
  (call_meetsIn F.slot_dict_len ht F.entry_dict_len (F.args_dict_len_1 _) (XT d hd) ⟨es,ep,hm,?_⟩))))
 refine wpAny_bind (s:={ s with toks:=s.toks+1 }) (wpAny_holding (wpAny_pure (wpAny_bind (wpAny_letGo ?_))))
 show wpAny _ _ (if ((es.size:Nat):Int)<0 then _ else if ((es.size:Nat):Int)≥2 ^ 63 then _ else _) _ _ _
 rw[if_neg (by omega),if_neg (by omega)]
 exact wpAny_bind (wpAny_mkInt (wpAny_pure ⟨_,rfl,h⟩))
end
section
variable {X:Cx}
theorem ZM:xr X (.builtin "len") (fun xs H Q=>∃ a kvs,xs=[V.ref a]∧H a=some (.dT kvs)∧Q (.int kvs.length) H):=by
 intro pins s σ H xs us Q I r h
 obtain⟨a,kvs,rfl,ha,q⟩:=h
 obtain⟨u,rfl,ru⟩:=r.one
 cases ru
 obtain⟨z,hd,xs,rel,dd⟩:=uJ I.hok ha
 have ty:=dd.typeIs
 obtain⟨o,es,ep,q1,q2,q3,q4,q5⟩:=dd
 have hl:es.size=kvs.length:=by
  rw[← Array.length_toList,q4,List.length_map]
  exact(Paired.length rel).symm
 refine UX (es:=es) (ep:=ep) hd ⟨o,q1,q2,q3⟩ ty (by rw[sizeLine_eq] at z;omega) ?_
 rw[hl]
 exact⟨.int kvs.length,H,I.tok _,⟨_,rfl⟩,q⟩
end
end L2
namespace K04
open PySem L2
open L2.Sco (PT PsAt)
theorem LnAt.prs {H:Hp}:∀ {rs:List V}{ls:LP},LnAt H rs ls→∃ ps:List (Addr×Int×Int),ps.map (fun p=>V.ref p.1)=rs∧ps.map (·.2)=ls∧∀ p∈ps,H p.1=some (.tup [.int p.2.1,.int p.2.2])
 |[],[],_=>⟨[],rfl,rfl,fun p hp=>(nomatch hp)⟩
 |[],l::ls,h=>absurd h.1 (by simp)
 |r::rs,[],h=>absurd h.1 (by simp)
 |r::rs,l::ls,h=>by
  obtain⟨q,e1,e2⟩:=h.2 0 r l rfl rfl
  obtain⟨ps,h1,h2,h3⟩:=LnAt.prs (rs:=rs) (ls:=ls) ⟨by have:=h.1;simpa using this,fun i r p a1 a2=>h.2 (i+1) r p (by simpa using a1) (by simpa using a2)⟩
  refine⟨(q,l)::ps,by rw[List.map_cons,h1,e1],by rw[List.map_cons,h2],fun p hp=>?_⟩
  rcases List.mem_cons.mp hp with e | e
  ·rw[e];exact e2
  ·exact h3 p e
def kvP (js:List ((Int×Int)×Addr×LI)):List (List Key×V):=js.map fun j=>(xo j.1,V.ref j.2.1)
structure Pp (H:Hp) (d:Addr) (js:List ((Int×Int)×Addr×LI)):Prop where
 dd:H d=some (.dT (kvP js))
 nd:(js.map (·.1)).Nodup
 row:∀ j∈js,H j.2.1=some (.lst (j.2.2.map V.int))
 len:js.length≤132
theorem Pp.same {H H':Hp}{d:Addr}{js:List ((Int×Int)×Addr×LI)}(p:Pp H d js) (s:Same H H'):Pp H' d js:=⟨s _ _ p.dd,p.nd,fun j hj=>s _ _ (p.row j hj),p.len⟩
theorem vy {js:List ((Int×Int)×Addr×LI)}:(kvP js).map (·.1)=(js.map (·.1)).map xo:=by
 unfold kvP
 rw[List.map_map,List.map_map]
 rfl
theorem VO {js:List ((Int×Int)×Addr×LI)}(nd:(js.map (·.1)).Nodup){j:(Int×Int)×Addr×LI}(h:j∈js):yE (kvP js) (xo j.1)=some (.ref j.2.1):=by
 refine uZ ?_ (List.mem_map.mpr ⟨j,h,rfl⟩)
 rw[vy]
 exact List.pairwise_map.mpr (nd.imp fun h e=>h (y9 e))
theorem WY:∀ {ls:LP},ls.Nodup→(∀ p∈ls,p.1<p.2)→(dbl ls).Nodup
 |[],_,_=>List.nodup_nil
 |p::ls,hn,h=>by
  rw[List.nodup_cons] at hn
  have ih:=WY (ls:=ls) hn.2 fun q hq=>h q (List.mem_cons_of_mem _ hq)
  have hp:=h p List.mem_cons_self
  show(p::(p.2,p.1)::dbl ls).Nodup
  rw[List.nodup_cons,List.nodup_cons]
  refine⟨fun z=>?_,fun z=>?_,ih⟩
  ·rcases List.mem_cons.mp z with e | e
   ·have:=congrArg Prod.fst e
    dsimp only at this
    omega
   ·rcases mem_dbl.mp e with e | e
    ·exact hn.1 e
    ·have:=h _ (List.mem_cons_of_mem _ e)
     dsimp only at this
     omega
  ·rcases mem_dbl.mp z with e | e
   ·have:=h _ (List.mem_cons_of_mem _ e)
    dsimp only at this
    omega
   ·exact hn.1 e
theorem Ls.dnd {hs:LI}{ls:LP}(L:Ls hs ls):(dbl (srt ls)).Nodup:=WY ((zX ls).nodup_iff.mpr L.nd) fun p hp=>(L.ok p ((zX ls).mem_iff.mp hp)).2.2
theorem mem_ds {ls:LP}{q:Int×Int}:q∈dbl (srt ls)↔q∈dbl ls:=by
 rw[mem_dbl,mem_dbl,(zX ls).mem_iff,(zX ls).mem_iff]
theorem Ws {as bs:LP}(na:as.Nodup) (nb:bs.Nodup) (h:∀ x∈as,x∈bs) (hl:as.length=bs.length):∀ x∈bs,x∈as:=fun x hx=>by
 by_cases c:x∈as
 ·exact c
 ·have h1:=wY (as:=x::as) (bs:=bs) (List.nodup_cons.mpr ⟨c,na⟩) fun y hy=>by
   rcases List.mem_cons.mp hy with e | e
   ·rw[e];exact hx
   ·exact h y e
  rw[List.length_cons] at h1
  omega
theorem Ux {pa:Int→LI}{bs:LP}{x y:Int}(h:ldr pa x≠ldr pa y→∃ b∈bs,jk (ldr pa) b=jk (ldr pa) (x,y)):rfs pa (dbl (srt bs)) x y≠[]:=by
 unfold rfs
 by_cases c:ldr pa y=ldr pa x
 ·rw[if_pos c];simp
 ·rw[if_neg c]
  obtain⟨b,hb,e⟩:=h fun z=>c z.symm
  have e1:=congrArg Prod.fst e
  have e2:=congrArg Prod.snd e
  unfold jk at e1 e2
  dsimp only at e1 e2
  intro z
  rw[List.map_eq_nil_iff] at z
  have hz:∀ q:Int×Int,q∈dbl (srt bs)→(ldr pa q.1,ldr pa q.2)≠(ldr pa y,ldr pa x):=fun q hq e=>by
   have:q∈sel (ldr pa) (ldr pa y,ldr pa x) (dbl (srt bs)):=List.mem_filter.mpr ⟨hq,decide_eq_true e⟩
   rw[z] at this
   cases this
  by_cases c1:ldr pa b.1=ldr pa y
  ·exact hz b (mem_ds.mpr (mem_dbl.mpr (.inl hb))) (Prod.ext c1 (by show ldr pa b.2=ldr pa x;omega))
  ·exact hz (b.2,b.1) (mem_ds.mpr (mem_dbl.mpr (.inr hb))) (Prod.ext (by show ldr pa b.2=ldr pa y;omega) (by show ldr pa b.1=ldr pa x;omega))
section
variable {P:Program}{w:World}{K:PySem.W.Frag}{mg:Str→Option Value}{base:Heap}{a:Ad}
def zaQ (K:PySem.W.Frag):Sp:=fun vs H Q _=>∃ (l:Addr) (ns:LI),vs=[.ref l]∧(SqL K H l (ns.map V.int)∨SqT K H l (ns.map V.int))∧Q (.bl true) H
theorem UU (T:Txt w K mg a):FnOk P w K mg base CX0 2 302 (dK K 302) ["values"] (zaQ K):=by
 have c_is_whole:Callee P w K mg base "is_whole" 77 (dK K 77) ["value"] 1 vj:=⟨v5 T,(T.g 0 rfl),(T.fn 0 rfl).kp,(T.bi 0 rfl)⟩
 refine(T.fn 21 rfl).ok (scp 21 rfl) (fun vs H Q E h=>?_) (fun cdv A outer s H vs Q E hr h=>?_)
 ·obtain⟨l,ns,rfl,_⟩:=h
  rfl
 ·obtain⟨l,ns,rfl,hor,k⟩:=h
  refine zT (w_pss_cons (zG PassesOwn.never rfl (Xj (zy (zh 0)) (uT (zh 0))) (zk (i:=1) (scp 21 rfl).nd rfl (Or.inl rfl))
    (ze (zB (zN (zJ (zq c_is_whole hr.m (zg (zh 1) zd))))
     (ze (zj zE))
     zo)))
   (ze (zj zE))) ?_
  rcases hor with hl | hl
  ·refine .inl ⟨_,rfl,l,rfl,⟨_,hl⟩,?_⟩
   refine for_list (xs:=ns.map V.int) (fun i σ H'=>∃ (o1:Option V),σ=[some (.ref l),o1]∧H'=H) ?_ ?_ ?_ ?_
   ·exact⟨none,rfl,rfl⟩
   ·rintro i σ H' hi ⟨o1,_,rfl⟩
    exact hl
   ·rintro i v σ H' hi ⟨o1,rfl,rfl⟩
    rw[List.getElem?_map] at hi
    obtain⟨x,hx,rfl⟩:=Option.map_eq_some_iff.mp hi
    exact⟨_,rfl,_,true,rfl,.int x,_,rfl,iteN rfl ⟨_,rfl,rfl⟩⟩
   ·rintro σ H' ⟨o1,rfl,rfl⟩
    exact k
  ·refine .inr ⟨_,rfl,l,rfl,⟨_,hl⟩,?_⟩
   refine for_tup (xs:=ns.map V.int) (fun i σ H'=>∃ (o1:Option V),σ=[some (.ref l),o1]∧H'=H) ?_ ?_ ?_ ?_
   ·exact⟨none,rfl,rfl⟩
   ·rintro i σ H' hi ⟨o1,_,rfl⟩
    exact hl
   ·rintro i v σ H' hi ⟨o1,rfl,rfl⟩
    rw[List.getElem?_map] at hi
    obtain⟨x,hx,rfl⟩:=Option.map_eq_some_iff.mp hi
    exact⟨_,rfl,_,true,rfl,.int x,_,rfl,iteN rfl ⟨_,rfl,rfl⟩⟩
   ·rintro σ H' ⟨o1,rfl,rfl⟩
    exact k
def spHj:Sp:=fun vs H Q _=>∃ (d l:Addr) (js:List ((Int×Int)×Addr×LI)) (rs:List V) (qs:LP),vs=[.ref d,.ref l]∧Pp H d js∧H l=some (.lst rs)∧LnAt H rs qs∧∀ (b:Bool),(b=true↔(∀ j∈js,j.1∈qs)∧js.length=qs.length)→Q (.bl b) H
theorem zbd (T:Txt w K mg a):FnOk P w K mg base CX0 3 309 (dK K 309) ["paper", "pairs"] spHj:=by
 have c_are_wholes:Callee P w K mg base "are_wholes" 302 (dK K 302) ["values"] 2 (zaQ K):=⟨UU T,(T.g 21 rfl),(T.fn 21 rfl).kp,(T.bi 21 rfl)⟩
 refine(T.fn 22 rfl).ok (scp 22 rfl) (fun vs H Q E h=>?_) (fun cdv A outer s H vs Q E hr h=>?_)
 ·obtain⟨d,l,js,rs,qs,rfl,_⟩:=h
  rfl
 ·obtain⟨d,l,js,rs,qs,rfl,pp,hl,L,k⟩:=h
  have hu:=yA hr
  have un:=hr.units
  refine zT (w_pss_cons (Zy (zG PassesOwn.never rfl (uj (zh 0)) (zk (i:=2) (scp 22 rfl).nd rfl (Or.inl rfl))
    (ze (zB (we (yc (zN (zJ (zm zY (by rfl) (T.n 3 rfl) zA (zg (zh 2) (zg (yh (T.n 8 rfl) xb) zd))))) (yc (zN (zJ (zq c_are_wholes hr.m (zg (zh 2) zd)))) (z6 (zn vY (zh 2) (zh 1) (by with_unfolding_all rfl))))))
     (ze (zj zE))
     zo))))
   (ze (zj (z7 xR (zm ZM (by rfl) (T.n 0 rfl) yj (zg (zh 0) zd)) (zm zF (by rfl) (T.n 0 rfl) yj (zg (zh 1) zd)) (zC _))))) ?_
  refine⟨_,rfl,d,kvP js,rfl,pp.dd,fun od S=>?_⟩
  have x1:Ext d H (upd H d (HO.frz od (HO.dT (kvP js)))):=Ext.at
  have hz1:=upd_same (H:=H) (a:=d) (o:=HO.frz od (HO.dT (kvP js)))
  have back:upd (upd H d (HO.frz od (HO.dT (kvP js)))) d (HO.dT (kvP js))=H:=by
   rw[xJ]
   funext b
   by_cases z:b=d
   ·rw[z,upd_same,pp.dd]
   ·rw[upd_ne z]
  generalize upd H d (HO.frz od (HO.dT (kvP js)))=H1 at *
  have nld:l≠d:=fun z=>by rw[z,pp.dd] at hl;cases hl
  have hl1:=x1 _ _ hl nld
  have L1:LnAt H1 rs qs:=⟨L.1,fun n r p a1 a2=>by
   obtain⟨qq,b1,b2⟩:=L.2 n r p a1 a2
   exact⟨qq,b1,x1 _ _ b2 fun z=>by rw[z,pp.dd] at b2;cases b2⟩⟩
  obtain⟨ps,e1,e2,e3⟩:=L1.prs
  refine for_keysT (d:=d) (od:=od) (kvs:=kvP js) (fun i σ H'=>∃ (o2:Option V),σ=[some (.ref d),some (.ref l),o2]∧H'=H1∧∀ j∈js.take i,j.1∈qs) ?_ ?_ ?_ ?_
  ·exact⟨none,rfl,rfl,fun j hj=>by simp at hj⟩
  ·rintro i σ H' ⟨o2,_,rfl,_⟩
   exact hz1
  ·rintro i kv b σ H' hkv hb ⟨o2,rfl,rfl,gd⟩
   unfold kvP at hkv
   rw[List.getElem?_map] at hkv
   obtain⟨j,hj,e⟩:=Option.map_eq_some_iff.mp hkv
   subst e
   have etk:js.take (i+1)=js.take i++[j]:=by rw[List.take_add_one,hj];rfl
   refine⟨_,rfl,_,_,_,_,_,rfl,rfl,.tup hb,(T.k 3 rfl),_,rfl,iteN rfl ?_⟩
   refine⟨_,rfl,b,[j.1.1,j.1.2],rfl,.inr (SqT.of hb),_,rfl,iteN rfl ?_⟩
   refine⟨_,rfl,_,rfl,l,b,ps,j.1.1,j.1.2,rfl,rfl,by rw[e1];exact SqL.of hl1,e3,hb,Nat.lt_of_le_of_lt (Nat.add_le_add_left (by decide:5≤64) _) hr.units,_,rfl,?_⟩
   rw[e2]
   by_cases c:j.1∈qs
   ·refine iteN (by rw[decide_eq_true (show(j.1.1,j.1.2)∈qs from c)];rfl) ⟨_,rfl,rfl,fun j' hj'=>?_⟩
    rw[etk] at hj'
    rcases List.mem_append.mp hj' with z | z
    ·exact gd j' z
    ·rw[List.mem_singleton.mp z];exact c
   ·refine iteB (by rw[decide_eq_false (show(j.1.1,j.1.2)∉qs from c)];rfl) ?_
    refine .inr ⟨d,od,_,S,hz1,?_⟩
    rw[back]
    exact k false ⟨fun z=>(nomatch z),fun h=>absurd (h.1 j (List.mem_of_getElem? hj)) c⟩
  ·rintro σ H' ⟨o2,rfl,rfl,gd⟩
   refine .inr ⟨d,od,_,S,hz1,?_⟩
   rw[back]
   have hlk:(kvP js).length=js.length:=by unfold kvP;rw[List.length_map]
   rw[hlk,List.take_length] at gd
   refine⟨_,rfl,d,_,rfl,pp.dd,_,rfl,l,_,rfl,.inl (SqL.of hl),rfl,?_⟩
   refine k _ ?_
   rw[decide_eq_true_eq,hlk,L.1]
   constructor
   ·intro h
    injection h with h
    exact⟨gd,by omega⟩
   ·rintro⟨_,h⟩
    rw[h]
open L2.Sco (PT PsAt)
theorem un70 {k:Nat}{A:Around}(hr:Room k A):A.units+70<cLine:=by have:=hr.un;omega
structure HoB (us:LI) (ls:LP) (pf:Int→Option Int) (bs:LP) (js:List ((Int×Int)×Addr×LI)):Prop where
 g:GrB us ls pf bs
 kk:∀ j∈js,j.1∈dbl (srt ls)
 ln:js.length=(dbl (srt ls)).length
 rd:∀ j∈js,j.2.2∈rfs (paO pf) (dbl (srt bs)) j.1.1 j.1.2
def zaM (a:Ad):Sp:=fun vs H Q _=>∃ (p q d dx dp ob:Addr) (hs us:LI) (ls bs:LP) (pf:Int→Option Int) (js:List ((Int×Int)×Addr×LI)),vs=[.ref p,.ref q,.ref d]∧WbP a H p hs ls∧WayAt a H q pf us bs dx dp ob∧(∀ x,x∈us↔x∈hs)∧Cl us pf∧BrL hs bs∧Pp H d js∧∀ (b:Bool) (H':Hp),(b=true↔HoB us ls pf bs js)→Same H H'→Q (.bl b) H'
theorem zbc (T:Txt w K mg a):FnOk P w K mg base CX0 9 316 (dK K 316) ["web", "way", "paper"] (zaM a):=by
 have c_pairs_of:Callee P w K mg base "pairs_of" 288 (dK K 288) ["web"] 2 (zaI a):=⟨UP T,(T.g 19 rfl),(T.fn 19 rfl).kp,(T.bi 19 rfl)⟩
 have c_is_grounded:Callee P w K mg base "is_grounded" 201 (dK K 201) ["web", "way"] 8 (zaL a):=⟨UQ T,(T.g 6 rfl),(T.fn 6 rfl).kp,(T.bi 6 rfl)⟩
 have c_has_just_pairs:Callee P w K mg base "has_just_pairs" 309 (dK K 309) ["paper", "pairs"] 3 spHj:=⟨zbd T,(T.g 22 rfl),(T.fn 22 rfl).kp,(T.bi 22 rfl)⟩
 have c_bridges_by_leaders:Callee P w K mg base "bridges_by_leaders" 276 (dK K 276) ["way"] 7 (zaP a):=⟨UT T,(T.g 17 rfl),(T.fn 17 rfl).kp,(T.bi 17 rfl)⟩
 have c_are_wholes:Callee P w K mg base "are_wholes" 302 (dK K 302) ["values"] 2 (zaQ K):=⟨UU T,(T.g 21 rfl),(T.fn 21 rfl).kp,(T.bi 21 rfl)⟩
 have c_roads_for:Callee P w K mg base "roads_for" 281 (dK K 281) ["way", "bridges", "hand", "neighbour"] 4 (zaF a):=⟨UO T,(T.g 18 rfl),(T.fn 18 rfl).kp,(T.bi 18 rfl)⟩
 refine(T.fn 23 rfl).ok (scp 23 rfl) (fun vs H Q E h=>?_) (fun cdv A outer s H vs Q E hr h=>?_)
 ·obtain⟨p,q,d,dx,dp,ob,hs,us,ls,bs,pf,js,rfl,_⟩:=h
  rfl
 ·obtain⟨p,q,d,dx,dp,ob,hs,us,ls,bs,pf,js,rfl,WP,Y,hm,C,BL,pp,k⟩:=h
  have hu:=yA hr
  refine zT (w_pss_cons (w_ps_set (i:=3) (scp 23 rfl).nd rfl (Or.inl rfl) (zq c_pairs_of hr.m (zg (zh 0) zd)))
   (w_pss_cons (zB (we (yc (zN (zJ (zq c_is_grounded hr.m (zg (zh 0) (zg (zh 1) zd))))) (yc (zN (zJ (zm zY (by rfl) (T.n 3 rfl) zA (zg (zh 2) (zg (yh (T.n 5 rfl) wI) zd))))) (z6 (zN (zJ (zq c_has_just_pairs hr.m (zg (zh 2) (zg (zh 3) zd)))))))))
    (ze (zj zE))
    zo)
   (w_pss_cons (w_ps_set (i:=4) (scp 23 rfl).nd rfl (Or.inl rfl) (zq c_bridges_by_leaders hr.m (zg (zh 1) zd)))
   (w_pss_cons (zG PassesOwn.never rfl (zy (zh 3)) (zZ rfl (zp (zk (i:=5) (scp 23 rfl).nd rfl (Or.inl rfl)) (zp (zk (i:=6) (scp 23 rfl).nd rfl (Or.inl rfl)) zP)))
    (w_pss_cons (w_ps_set (i:=7) (scp 23 rfl).nd rfl (Or.inl rfl) (zH hu (zh 2) (zR (zg (zh 5) (zg (zh 6) zd))) (fun _ _=>rfl)))
    (w_pss_cons (zB (we (yc (zN (zJ (zm zY (by rfl) (T.n 3 rfl) zA (zg (zh 7) (zg (yh (T.n 4 rfl) bt_list) zd))))) (z6 (zN (zJ (zq c_are_wholes hr.m (zg (zh 7) zd)))))))
     (ze (zj zE))
     zo)
    (ze (zB (zn wA (zh 7) (zq c_roads_for hr.m (zg (zh 1) (zg (zh 4) (zg (zh 5) (zg (zh 6) zd))))) (by with_unfolding_all rfl))
     (ze (zj zE))
     zo)))))
   (ze (zj zE)))))) ?_
  refine⟨_,rfl,p,hs,ls,rfl,WP,fun l rs H1 hl h1 L1 s1=>?_⟩
  refine⟨_,rfl,_,rfl,p,q,dx,dp,ob,hs,us,ls,bs,pf,rfl,WP.same s1,Y.same s1,hm,C,BL,fun b1 H2 hb1 s2=>⟨_,rfl,?_⟩⟩
  have s02:=s1.trans s2
  cases hc1:b1 with
  |false=>exact wa (k false _ ⟨fun z=>(nomatch z),fun h=>by have:=hb1.mpr h.g;rw[hc1] at this;cases this⟩ s02)
  |true =>
  have g:=hb1.mp hc1
  have U:=UpP.of C g.en
  have inl:∀ b∈bs,b∈ls:=fun b hb=>adLn WP.wl (g.gd.1 b hb).1 (g.gd.1 b hb).2.1
  have l66:bs.length≤66:=Nat.le_trans (wY g.gd.2 inl) WP.wl.le
  have Bb:Bd bs:=fun b hb=>(WP.wl.bd WP.wh) b (inl b hb)
  have bin:∀ b∈bs,b.1∈us∧b.2∈us:=fun b hb=>⟨(hm _).mpr (WP.wl.ok b (inl b hb)).1,(hm _).mpr (WP.wl.ok b (inl b hb)).2.1⟩
  have din:∀ b∈dbl (srt bs),b.1∈us∧b.2∈us:=fun b hb=>by
   rcases mem_dbl.mp (mem_ds.mp hb) with z | z
   ·exact bin b z
   ·exact⟨(bin _ z).2,(bin _ z).1⟩
  have dln:(dbl (srt bs)).length≤132:=by rw[xS,(zX bs).length_eq];omega
  have pin:∀ b∈dbl (srt ls),b.1∈us∧b.2∈us:=fun b hb=>by
   rcases mem_dbl.mp (mem_ds.mp hb) with z | z
   ·exact⟨(hm _).mpr (WP.wl.ok _ z).1,(hm _).mpr (WP.wl.ok _ z).2.1⟩
   ·exact⟨(hm _).mpr (WP.wl.ok _ z).2.1,(hm _).mpr (WP.wl.ok _ z).1⟩
  have dnd:=WP.wl.dnd
  refine iteN rfl ?_
  have pp2:=pp.same s02
  refine⟨_,rfl,_,_,_,_,_,rfl,rfl,.dT pp2.dd,(T.k 7 rfl),_,rfl,iteN rfl ?_⟩
  refine⟨_,rfl,_,rfl,d,l,js,rs,_,rfl,pp2,s2 _ _ h1,L1.same s2,fun b3 hb3=>⟨_,rfl,?_⟩⟩
  cases hc3:b3 with
  |false=>exact wa (k false _ ⟨fun z=>(nomatch z),fun h=>by have:=hb3.mpr ⟨h.kk,h.ln⟩;rw[hc3] at this;cases this⟩ s02)
  |true =>
  obtain⟨kk,ln⟩:=hb3.mp hc3
  refine iteN rfl ?_
  refine⟨_,rfl,q,dx,dp,ob,pf,paO pf,us,bs,rfl,Y.same s02,U,Bb,l66,bin,fun bd bj H4 hbd br4 lbj s4=>?_⟩
  have s04:=s02.trans s4
  have h4:=s4 _ _ (s2 _ _ h1)
  have L4:=(L1.same s2).same s4
  have Y4:=Y.same s04
  have pp4:=pp.same s04
  refine⟨_,rfl,l,rfl,⟨_,SqL.of h4⟩,?_⟩
  have lr:=L4.1
  generalize hqs:dbl (srt ls)=qs at *
  refine for_list (xs:=rs) (fun i σ H'=>∃ (o5 o6 o7:Option V),σ=[some (.ref p),some (.ref q),some (.ref d),some (.ref l),some (.ref bd),o5,o6,o7]∧Same H4 H'∧∀ j∈js,j.1∈qs.take i→j.2.2∈rfs (paO pf) (dbl (srt bs)) j.1.1 j.1.2) ?_ ?_ ?_ ?_
  ·exact⟨none,none,none,rfl,Same.refl _,fun j _ hj=>by simp at hj⟩
  ·rintro i σ H' hi ⟨o5,o6,o7,_,sm,_⟩
   exact SqL.of (sm _ _ h4)
  ·rintro i v σ H5 hi ⟨o5,o6,o7,rfl,sm,gd⟩
   obtain⟨⟨x,y⟩,t,hp,rfl,ht⟩:=(L4.same sm).get hi
   have hxy:=List.mem_of_getElem? hp
   obtain⟨hx,hy⟩:=pin _ hxy
   dsimp only at ht hx hy
   have etk:qs.take (i+1)=qs.take i++[(x,y)]:=by rw[List.take_add_one,hp];rfl
   refine⟨t,_,rfl,SqT.of ht,rfl,_,_,rfl,_,_,rfl,rfl,?_⟩
   have hkj:=Ws pp.nd dnd (fun u hu=>by obtain⟨j,hj,rfl⟩:=List.mem_map.mp hu;exact kk j hj) (by rw[List.length_map];exact ln) _ hxy
   obtain⟨j,hj,ej⟩:=List.mem_map.mp hkj
   refine⟨_,rfl,_,rfl,_,rfl,(by show 2≤sizeLine;decide),fun kt hkt=>?_⟩
   have s6:=Same.new (o:=HO.tup [V.int x,V.int y]) hkt
   have hk6:=upd_same (H:=H5) (a:=kt) (o:=HO.tup [V.int x,V.int y])
   generalize upd H5 kt (HO.tup [V.int x,V.int y])=H6 at *
   have s46:=sm.trans s6
   have pp6:=pp4.same s46
   have hval:some (V.ref j.2.1)=yE (kvP js) (xo (x,y)):=by rw[← ej];exact(VO pp.nd hj).symm
   have hrow:=pp6.row j hj
   refine⟨d,V.ref j.2.1,rfl,by rw[hval];exact DGet.t (k:=xo (x,y)) pp6.dd hk6,?_⟩
   refine⟨_,rfl,_,_,_,_,_,rfl,rfl,.lst hrow,(T.k 2 rfl),_,rfl,iteN rfl ?_⟩
   refine⟨_,rfl,j.2.1,j.2.2,rfl,.inl (SqL.of hrow),_,rfl,iteN rfl ?_⟩
   refine⟨_,rfl,_,rfl,_,rfl,_,rfl,_,rfl,q,dx,dp,ob,bd,pf,paO pf,us,dbl (srt bs),bj,x,y,rfl,(Y4.same s46).r,U,br4.same s46,din,dln,hx,hy,fun lr H7 hlr ll7 s7=>?_⟩
   obtain⟨ps,e1,e2,e3⟩:=ll7
   have s47:=s46.trans s7
   refine⟨lr,j.2.1,ps,j.2.2,rfl,rfl,SqL.of e1,e2,s7 _ _ hrow,un70 hr,_,rfl,?_⟩
   rw[e3]
   by_cases c:j.2.2∈rfs (paO pf) (dbl (srt bs)) x y
   ·refine iteN (by rw[decide_eq_true c];rfl) ⟨_,_,_,rfl,s47,fun j' hj' hm'=>?_⟩
    rw[etk] at hm'
    rcases List.mem_append.mp hm' with z | z
    ·exact gd j' hj' z
    ·have z:=List.mem_singleton.mp z
     have:=YS pp.nd hj' hj (z.trans ej.symm)
     rw[this,ej]
     exact c
   ·refine iteB (by rw[decide_eq_false c];rfl) ?_
    refine k false _ ⟨fun z=>(nomatch z),fun h=>?_⟩ (s04.trans s47)
    have:=h.rd j hj
    rw[ej] at this
    exact absurd this c
  ·rintro σ H' ⟨o5,o6,o7,rfl,sm,gd⟩
   refine k true _ ⟨fun _=>⟨g,by rw[hqs];exact kk,by rw[hqs];exact ln,fun j hj=>gd j hj ?_⟩,fun _=>rfl⟩ (s04.trans sm)
   rw[List.take_of_length_le (by omega)]
   exact kk j hj
def zbD (a:Ad):Sp:=fun vs H Q _=>∃ (p q dx dp ob:Addr) (hs us:LI) (ls bs:LP) (pf:Int→Option Int),vs=[.ref p,.ref q]∧WbP a H p hs ls∧WayAt a H q pf us bs dx dp ob∧(∀ x,x∈us↔x∈hs)∧Cl us pf∧BrL hs bs∧GG us ls pf bs∧∀ (H':Hp),Same H H'→Q .non H'
theorem zaZ (T:Txt w K mg a):FnOk P w K mg base CX0 10 222 (dK K 222) ["web", "way"] (zbD a):=by
 have c_lets:Callee P w K mg base "lets" 215 (dK K 215) ["web", "way"] 9 (Ur a):=⟨VD T,(T.g 8 rfl),(T.fn 8 rfl).kp,(T.bi 8 rfl)⟩
 refine(T.fn 9 rfl).ok (scp 9 rfl) (fun vs H Q E h=>?_) (fun cdv A outer s H vs Q E hr h=>?_)
 ·obtain⟨p,q,dx,dp,ob,hs,us,ls,bs,pf,rfl,_⟩:=h
  rfl
 ·obtain⟨p,q,dx,dp,ob,hs,us,ls,bs,pf,rfl,WP,Y,hm,C,BL,gg,k⟩:=h
  refine zT (ze (zB (zN (zJ (zq c_lets hr.m (zg (zh 0) (zg (zh 1) zd)))))
    (ze wS)
    zo)) ?_
  refine⟨_,rfl,_,rfl,p,q,dx,dp,ob,hs,us,ls,bs,pf,rfl,WP,Y,hm,C,BL,fun b H1 hb s1=>⟨_,rfl,?_⟩⟩
  rw[hb.mpr gg]
  exact iteN rfl (k _ s1)
structure RdB (us:LI) (ls:LP) (pf:Int→Option Int) (bs:LP) (js:List ((Int×Int)×Addr×LI)):Prop where
 ks:js.map (·.1)=dbl (srt ls)
 hd:∀ j∈js,(rfs (paO pf) (dbl (srt bs)) j.1.1 j.1.2).head?=some j.2.2
def zaE (a:Ad):Sp:=fun vs H Q _=>∃ (p q dx dp ob:Addr) (hs us:LI) (ls bs:LP) (pf:Int→Option Int),vs=[.ref p,.ref q]∧WbP a H p hs ls∧WayAt a H q pf us bs dx dp ob∧(∀ x,x∈us↔x∈hs)∧Cl us pf∧BrL hs bs∧GG us ls pf bs∧∀ (d:Addr) (js:List ((Int×Int)×Addr×LI)) (H':Hp),H d=none→Pp H' d js→RdB us ls pf bs js→Same H H'→Q (.ref d) H'
theorem za1 (T:Txt w K mg a):FnOk P w K mg base CX0 11 295 (dK K 295) ["web", "way"] (zaE a):=by
 have c_refuse_unlet:Callee P w K mg base "refuse_unlet" 222 (dK K 222) ["web", "way"] 10 (zbD a):=⟨zaZ T,(T.g 9 rfl),(T.fn 9 rfl).kp,(T.bi 9 rfl)⟩
 have c_pairs_of:Callee P w K mg base "pairs_of" 288 (dK K 288) ["web"] 2 (zaI a):=⟨UP T,(T.g 19 rfl),(T.fn 19 rfl).kp,(T.bi 19 rfl)⟩
 have c_bridges_by_leaders:Callee P w K mg base "bridges_by_leaders" 276 (dK K 276) ["way"] 7 (zaP a):=⟨UT T,(T.g 17 rfl),(T.fn 17 rfl).kp,(T.bi 17 rfl)⟩
 have c_roads_for:Callee P w K mg base "roads_for" 281 (dK K 281) ["way", "bridges", "hand", "neighbour"] 4 (zaF a):=⟨UO T,(T.g 18 rfl),(T.fn 18 rfl).kp,(T.bi 18 rfl)⟩
 refine(T.fn 20 rfl).ok (scp 20 rfl) (fun vs H Q E h=>?_) (fun cdv A outer s H vs Q E hr h=>?_)
 ·obtain⟨p,q,dx,dp,ob,hs,us,ls,bs,pf,rfl,_⟩:=h
  rfl
 ·obtain⟨p,q,dx,dp,ob,hs,us,ls,bs,pf,rfl,WP,Y,hm,C,BL,gg,k⟩:=h
  have hu:=yA hr
  have g:=gg.g
  have U:=UpP.of C g.en
  have inl:∀ b∈bs,b∈ls:=fun b hb=>adLn WP.wl (g.gd.1 b hb).1 (g.gd.1 b hb).2.1
  have l66:bs.length≤66:=Nat.le_trans (wY g.gd.2 inl) WP.wl.le
  have Bb:Bd bs:=fun b hb=>(WP.wl.bd WP.wh) b (inl b hb)
  have bin:∀ b∈bs,b.1∈us∧b.2∈us:=fun b hb=>⟨(hm _).mpr (WP.wl.ok b (inl b hb)).1,(hm _).mpr (WP.wl.ok b (inl b hb)).2.1⟩
  have din:∀ b∈dbl (srt bs),b.1∈us∧b.2∈us:=fun b hb=>by
   rcases mem_dbl.mp (mem_ds.mp hb) with z | z
   ·exact bin b z
   ·exact⟨(bin _ z).2,(bin _ z).1⟩
  have dln:(dbl (srt bs)).length≤132:=by rw[xS,(zX bs).length_eq];omega
  have pin:∀ b∈dbl (srt ls),b.1∈us∧b.2∈us:=fun b hb=>by
   rcases mem_dbl.mp (mem_ds.mp hb) with z | z
   ·exact⟨(hm _).mpr (WP.wl.ok _ z).1,(hm _).mpr (WP.wl.ok _ z).2.1⟩
   ·exact⟨(hm _).mpr (WP.wl.ok _ z).2.1,(hm _).mpr (WP.wl.ok _ z).1⟩
  have cov:∀ b∈dbl (srt ls),rfs (paO pf) (dbl (srt bs)) b.1 b.2≠[]:=fun b hb=>Ux fun hne=>by
   rcases mem_dbl.mp (mem_ds.mp hb) with z | z
   ·exact gg.cov b z hne
   ·obtain⟨c,hc,e⟩:=gg.cov _ z fun zz=>hne zz.symm
    refine⟨c,hc,e.trans ?_⟩
    unfold jk
    rw[Int.min_comm,Int.max_comm]
  have dnd:=WP.wl.dnd
  have pln:(dbl (srt ls)).length≤132:=by rw[xS,(zX ls).length_eq];have:=WP.wl.le;omega
  refine zT (w_pss_cons (zO (zq c_refuse_unlet hr.m (zg (zh 0) (zg (zh 1) zd))))
   (w_pss_cons (w_ps_set (i:=2) (scp 20 rfl).nd rfl (Or.inl rfl) (zq c_bridges_by_leaders hr.m (zg (zh 1) zd)))
   (w_pss_cons (w_ps_set (i:=3) (scp 20 rfl).nd rfl (Or.inl rfl) yY)
   (w_pss_cons (zG PassesOwn.never rfl (zy (zq c_pairs_of hr.m (zg (zh 0) zd))) (zZ rfl (zp (zk (i:=4) (scp 20 rfl).nd rfl (Or.inl rfl)) (zp (zk (i:=5) (scp 20 rfl).nd rfl (Or.inl rfl)) zP)))
    (ze (wk hu (zh 3) (zR (zg (zh 4) (zg (zh 5) zd))) (zL ye (zq c_roads_for hr.m (zg (zh 1) (zg (zh 2) (zg (zh 4) (zg (zh 5) zd))))) zi (fun _ _=>rfl)) rfl)))
   (ze (zj (zh 3))))))) ?_
  refine⟨_,rfl,_,rfl,p,q,dx,dp,ob,hs,us,ls,bs,pf,rfl,WP,Y,hm,C,BL,gg,fun H1 s1=>?_⟩
  refine⟨_,rfl,q,dx,dp,ob,pf,paO pf,us,bs,rfl,Y.same s1,U,Bb,l66,bin,fun bd bj H2 hbd br2 lbj s2=>?_⟩
  refine fun d hd=>?_
  have s3:=Same.new (o:=HO.dT []) hd
  have h3:=upd_same (H:=H2) (a:=d) (o:=HO.dT [])
  generalize upd H2 d (HO.dT [])=H3 at *
  have s02:=s1.trans s2
  have s03:=s02.trans s3
  refine⟨_,rfl,p,hs,ls,rfl,WP.same s03,fun l rs H4 hl h4 L4 s4=>?_⟩
  have s24:=s3.trans s4
  have fd:H d=none:=s02.free hd
  refine⟨l,rfl,⟨_,SqL.of h4⟩,?_⟩
  have lr:=L4.1
  have nld:l≠d:=fun z=>by rw[z,h3] at hl;cases hl
  have hd4:=s4 _ _ h3
  generalize hqs:dbl (srt ls)=qs at *
  have LX:∀ {G:Hp},Ext d H4 G→LnAt G rs qs:=fun {G} x=>⟨L4.1,fun n r p a1 a2=>by
   obtain⟨qq,b1,b2⟩:=L4.2 n r p a1 a2
   exact⟨qq,b1,x _ _ b2 fun z=>by rw[z,hd4] at b2;cases b2⟩⟩
  have SX:∀ {G:Hp},Ext d H4 G→Same H2 G:=fun {G} x c o hc=>x _ _ (s24 _ _ hc) fun z=>by rw[z,hd] at hc;cases hc
  refine for_list (xs:=rs) (fun i σ H'=>∃ (js:List ((Int×Int)×Addr×LI)) (o4 o5:Option V),σ=[some (.ref p),some (.ref q),some (.ref bd),some (.ref d),o4,o5]∧Pp H' d js∧js.map (·.1)=qs.take i∧(∀ j∈js,(rfs (paO pf) (dbl (srt bs)) j.1.1 j.1.2).head?=some j.2.2)∧Ext d H4 H') ?_ ?_ ?_ ?_
  ·exact⟨[],none,none,rfl,⟨hd4,List.nodup_nil,(fun j hj=>(nomatch hj)),by simp⟩,by simp,(fun j hj=>(nomatch hj)),Ext.refl⟩
  ·rintro i σ H' hi ⟨js,o4,o5,_,_,_,_,x⟩
   exact SqL.of (x _ _ h4 nld)
  ·rintro i v σ H5 hi ⟨js,o4,o5,rfl,pp,ek,eh,x5⟩
   obtain⟨⟨x,y⟩,t,hp,rfl,ht⟩:=(LX x5).get hi
   have hxy:=List.mem_of_getElem? hp
   obtain⟨hx,hy⟩:=pin _ hxy
   have hne:=cov _ hxy
   dsimp only at ht hx hy hne
   have etk:qs.take (i+1)=qs.take i++[(x,y)]:=by rw[List.take_add_one,hp];rfl
   have S5:=SX x5
   have Y5:=(Y.same s02).same S5
   refine⟨t,_,rfl,SqT.of ht,rfl,_,_,rfl,_,_,rfl,rfl,?_⟩
   refine⟨_,rfl,_,rfl,_,rfl,_,rfl,q,dx,dp,ob,bd,pf,paO pf,us,dbl (srt bs),bj,x,y,rfl,Y5.r,U,br2.same S5,din,dln,hx,hy,fun lr6 H6 hlr ll6 s6=>?_⟩
   obtain⟨ps,e1,e2,e3⟩:=ll6
   cases hps:ps with
   |nil=>rw[hps] at e3;exact absurd e3.symm hne
   |cons r0 ps' =>
   rw[hps] at e1 e2 e3
   refine⟨lr6,_,0,V.ref r0.1,rfl,rfl,SqL.of e1,wJ (j:=0) rfl,?_⟩
   have hr0:=e2 r0 List.mem_cons_self
   have ehd:(rfs (paO pf) (dbl (srt bs)) x y).head?=some r0.2:=by rw[← e3];rfl
   refine⟨_,rfl,_,rfl,_,rfl,(by show 2≤sizeLine;decide),fun kt hkt=>?_⟩
   have s7:=Same.new (o:=HO.tup [V.int x,V.int y]) hkt
   have hk7:=upd_same (H:=H6) (a:=kt) (o:=HO.tup [V.int x,V.int y])
   generalize upd H6 kt (HO.tup [V.int x,V.int y])=H7 at *
   have s57:=s6.trans s7
   have pp7:=pp.same s57
   have hnew:xo (x,y)∉(kvP js).map (·.1):=by
    rw[vy]
    intro z
    obtain⟨u,hu',e⟩:=List.mem_map.mp z
    rw[y9 e,ek] at hu'
    exact vx dnd hp hu'
   have ljs:js.length≤131:=by
    have h1:=congrArg List.length ek
    rw[List.length_map,List.length_take] at h1
    have h2:=(List.getElem?_eq_some_iff.mp hp).1
    omega
   refine⟨d,_,rfl,DPut.t (k:=xo (x,y)) pp7.dd hk7 (by unfold kvP;rw[List.length_map];exact zu (by omega)),?_⟩
   refine⟨js++[((x,y),r0.1,r0.2)],_,_,rfl,⟨?_,?_,fun j hj=>?_,by rw[List.length_append,List.length_singleton];omega⟩,?_,fun j hj=>?_,(x5.trans (Ext.same s57)).trans Ext.at⟩
   ·rw[upd_same,putK_new hnew]
    unfold kvP
    rw[List.map_append]
    rfl
   ·have e:(js++[((x,y),r0.1,r0.2)]).map (·.1)=qs.take (i+1):=by rw[List.map_append,ek,etk];rfl
    rw[e]
    exact dnd.sublist (List.take_sublist _ _)
   ·have hrow:∀ {b:Addr}{ns:LI},H7 b=some (.lst (ns.map V.int))→(upd H7 d (.dT (putK (kvP js) (xo (x,y)) (V.ref r0.1)))) b=some (.lst (ns.map V.int)):=fun {b ns} e=>by
     rw[upd_ne (fun z=>by rw[z,pp7.dd] at e;cases e)]
     exact e
    rcases List.mem_append.mp hj with z | z
    ·exact hrow (pp7.row j z)
    ·rw[List.mem_singleton.mp z]
     exact hrow (s7 _ _ hr0)
   ·rw[List.map_append,ek,etk]
    rfl
   ·rcases List.mem_append.mp hj with z | z
    ·exact eh j z
    ·rw[List.mem_singleton.mp z]
     exact ehd
  ·rintro σ H' ⟨js,o4,o5,rfl,pp,ek,eh,x5⟩
   rw[List.take_of_length_le (by omega)] at ek
   exact⟨_,rfl,k d js H' fd pp ⟨by rw[hqs];exact ek,eh⟩ (s02.trans (SX x5))⟩
structure FP (ls:LP) (left:LI) (s:Int) (reach:Nat) (F:Int→Option Nat):Prop where
 z:F s=some 0
 z1:∀ x,F x=some 0→x=s
 mem:∀ x d,F x=some d→x∈left∧d≤reach
 cl:∀ x d y,F x=some d→d<reach→y∈left→adB ls x y=true→∃ e,F y=some e∧e≤d+1
 pr:∀ x d,F x=some (d+1)→∃ y,F y=some d∧adB ls y x=true
def vis (ls:LP) (left:LI) (s:Int):Nat→List Int
 |0=>[s]
 |k+1=>left.filter fun x=>decide (x∈vis ls left s k)||(vis ls left s k).any fun y=>adB ls y x
theorem Xr {ls:LP}{left:LI}{s:Int}(hs:s∈left):∀ {k:Nat}{x:Int},x∈vis ls left s k→x∈left
 |0,x,h=>by rw[List.mem_singleton.mp h];exact hs
 |k+1,x,h=>(List.mem_filter.mp h).1
theorem Wm {ls:LP}{left:LI}{s:Int}{k:Nat}{x y:Int}(h:y∈vis ls left s k) (hx:x∈left) (a:adB ls y x=true):x∈vis ls left s (k+1) :=
 List.mem_filter.mpr ⟨hx,by rw[Bool.or_eq_true];exact .inr (List.any_eq_true.mpr ⟨y,h,a⟩)⟩
theorem UZ {p:Nat→Prop}:∀ {k:Nat},p k→∃ d,d≤k∧p d∧∀ j,j<d→¬ p j:=by
 intro k
 induction k using Nat.strongRecOn with
 |_ k ih =>
  intro h
  by_cases c:∃ j,j<k∧p j
  ·obtain⟨j,hj,pj⟩:=c
   obtain⟨d,h1,h2⟩:=ih j hj pj
   exact⟨d,by omega,h2⟩
  ·exact⟨k,Nat.le_refl _,h,fun j hj pj=>c ⟨j,hj,pj⟩⟩
theorem zac (ls:LP) (left:LI) (s:Int) (reach:Nat) (hs:s∈left):∃ F,FP ls left s reach F:=by
 have hch:∀ x,∃ o:Option Nat,(∀ d,o=some d↔d≤reach∧x∈vis ls left s d∧∀ j,j<d→x∉vis ls left s j):=fun x=>by
  by_cases c:∃ k,k≤reach∧x∈vis ls left s k
  ·obtain⟨k,hk,hx⟩:=c
   obtain⟨d,h1,h2,h3⟩:=UZ (p:=fun k=>x∈vis ls left s k) hx
   refine⟨some d,fun e=>⟨fun z=>(by cases z;exact⟨by omega,h2,h3⟩),fun hq0=>?_⟩⟩
   obtain⟨e1,e2,e3⟩:=hq0
   have a1:¬ e<d:=fun z=>h3 e z e2
   have a2:¬ d<e:=fun z=>e3 d z h2
   rw[show d=e by omega]
  ·exact⟨none,fun d=>⟨fun z=>(by cases z),fun⟨e1,e2,_⟩=>absurd ⟨d,e1,e2⟩ c⟩⟩
 have:=Classical.axiomOfChoice hch
 obtain⟨F,hF⟩:=this
 refine⟨F,?_,?_,?_,?_,?_⟩
 ·exact(hF s 0).mpr ⟨Nat.zero_le _,List.mem_singleton.mpr rfl,fun j hj=>by omega⟩
 ·intro x h
  exact List.mem_singleton.mp ((hF x 0).mp h).2.1
 ·intro x d h
  have:=(hF x d).mp h
  exact⟨Xr hs this.2.1,this.1⟩
 ·intro x d y h hd hy a
  have h1:=(hF x d).mp h
  have h2:=Wm h1.2.1 hy a
  obtain⟨e,e1,e2,e3⟩:=UZ (p:=fun k=>y∈vis ls left s k) h2
  exact⟨e,(hF y e).mpr ⟨by omega,e2,e3⟩,e1⟩
 ·intro x d h
  obtain⟨h1,h2,h3⟩:=(hF x (d+1)).mp h
  obtain⟨hx,hv⟩:=List.mem_filter.mp h2
  rw[Bool.or_eq_true] at hv
  rcases hv with hv | hv
  ·exact absurd (of_decide_eq_true hv) (h3 d (by omega))
  ·obtain⟨y,hy,a⟩:=List.any_eq_true.mp hv
   refine⟨y,(hF y d).mpr ⟨by omega,hy,fun j hj hy'=>?_⟩,a⟩
   exact h3 (j+1) (by omega) (Wm hy' hx a)
theorem FP.lower {ls:LP}{left:LI}{s:Int}{reach:Nat}{F:Int→Option Nat}(h:FP ls left s reach F):∀ {d:Nat}{x:Int},F x=some d→∀ j,j≤d→∃ y,F y=some j
 |0,x,hx,j,hj=>⟨x,by rw[hx,Nat.le_zero.mp hj]⟩
 |d+1,x,hx,j,hj=>by
  rcases Nat.lt_or_eq_of_le hj with z | z
  ·obtain⟨y,hy,_⟩:=h.pr x d hx
   exact h.lower hy j (by omega)
  ·exact⟨x,by rw[hx,z]⟩
theorem FP.few {ls:LP}{left:LI}{s:Int}{reach:Nat}{F:Int→Option Nat}(h:FP ls left s reach F){x:Int}{d:Nat}(hx:F x=some d):d<left.length:=by
 have:∀ n,n≤d+1→∃ ys:LI,ys.length=n∧ys.Nodup∧∀ y∈ys,y∈left∧∃ j,j<n∧F y=some j:=by
  intro n
  induction n with
  |zero=>intro _;exact⟨[],rfl,List.nodup_nil,fun y hy=>by cases hy⟩
  |succ n ih =>
   intro hn
   obtain⟨ys,l,nd,m⟩:=ih (by omega)
   obtain⟨y,hy⟩:=h.lower hx n (by omega)
   refine⟨y::ys,by simp[l],List.nodup_cons.mpr ⟨fun z=>?_,nd⟩,fun u hu=>?_⟩
   ·obtain⟨_,j,hj,e⟩:=m y z
    rw[hy] at e
    cases e
    omega
   ·rcases List.mem_cons.mp hu with z | z
    ·rw[z]
     exact⟨(h.mem y n hy).1,n,by omega,hy⟩
    ·obtain⟨a,j,hj,e⟩:=m u z
     exact⟨a,j,by omega,e⟩
 obtain⟨ys,l,nd,m⟩:=this (d+1) (Nat.le_refl _)
 have:=xn nd (fun y hy=>(m y hy).1)
 omega
def par (ls:LP) (left:LI) (F:Int→Option Nat) (x:Int):Option Int :=
 match F x with
 |some (d+1)=>(left.filter fun y=>decide (F y=some d)).find? fun y=>adB ls y x
 |_=>none
noncomputable def stp (ls:LP) (r:Nat):LI→Int→Option Nat
 |[]=>fun _=>none
 |s::left=>Classical.choose (zac ls (s::left) s r List.mem_cons_self)
theorem stp_fp {ls:LP}{r:Nat}{s:Int}{left:LI}:FP ls (s::left) s r (stp ls r (s::left)):=Classical.choose_spec (zac ls (s::left) s r List.mem_cons_self)
noncomputable def nxl (ls:LP) (r:Nat) (left:LI):LI:=left.filter fun x=>decide (stp ls r left x=none)
noncomputable def PF (ls:LP) (r:Nat):Nat→LI→Int→Option Int
 |0,_,_=>none
 |n+1,left,x=>if stp ls r left x=none then PF ls r n (nxl ls r left) x else par ls left (stp ls r left) x
noncomputable def LF (ls:LP) (r:Nat):Nat→LI→Int→Int
 |0,_,x=>x
 |n+1,left,x=>if stp ls r left x=none then LF ls r n (nxl ls r left) x else left.headD x
noncomputable def SF (ls:LP) (r:Nat):Nat→LI→Int→Nat
 |0,_,_=>0
 |n+1,left,x=>if stp ls r left x=none then SF ls r n (nxl ls r left) x else(stp ls r left x).getD 0
theorem uE {ls:LP}{r:Nat}{s:Int}{left:LI}:(nxl ls r (s::left)).length≤left.length:=by
 have h:stp ls r (s::left) s=some 0:=stp_fp.z
 unfold nxl
 rw[List.filter_cons_of_neg (by rw[h];simp)]
 exact List.length_filter_le _ _
theorem XC {ls:LP}{left:LI}{s:Int}{r:Nat}{F:Int→Option Nat}(h:FP ls left s r F){x:Int}{d:Nat}(hx:F x=some (d+1)):∃ y,par ls left F x=some y∧y∈left∧F y=some d∧adB ls y x=true:=by
 have e:par ls left F x=(left.filter fun y=>decide (F y=some d)).find? fun y=>adB ls y x:=by
  unfold par
  rw[hx]
 rw[e]
 cases hf:(left.filter fun y=>decide (F y=some d)).find? fun y=>adB ls y x with
 |none =>
  obtain⟨y,hy,a⟩:=h.pr x d hx
  have:=List.find?_eq_none.mp hf y (List.mem_filter.mpr ⟨(h.mem y d hy).1,by simp[hy]⟩)
  exact absurd a this
 |some y =>
  have h1:=List.find?_some hf
  have h2:=List.mem_filter.mp (List.mem_of_find?_eq_some hf)
  exact⟨y,rfl,h2.1,of_decide_eq_true h2.2,h1⟩
theorem vg {ls:LP}{r:Nat}:∀ {n:Nat}{left:LI}{x:Int},left.length≤n→x∈left→(PF ls r n left x=none∧LF ls r n left x=x∧SF ls r n left x=0)∨∃ y,PF ls r n left x=some y∧y∈left∧LF ls r n left y=LF ls r n left x∧SF ls r n left x=SF ls r n left y+1∧adB ls y x=true
 |0,left,x,hl,hx=>by
  rw[List.eq_nil_of_length_eq_zero (Nat.le_zero.mp hl)] at hx
  cases hx
 |n+1,[],x,_,hx=>by cases hx
 |n+1,s::left,x,hl,hx=>by
  rw[List.length_cons] at hl
  have F:=stp_fp (ls:=ls) (r:=r) (s:=s) (left:=left)
  unfold PF LF SF
  cases hx0:stp ls r (s::left) x with
  |none =>
   have hx1:x∈nxl ls r (s::left):=List.mem_filter.mpr ⟨hx,by simp[hx0]⟩
   rcases vg (ls:=ls) (r:=r) (n:=n) (Nat.le_trans uE (by omega)) hx1 with⟨h1,h2,h3⟩ | ⟨y,h1,h2,h3,h4,h5⟩
   ·exact .inl ⟨by rw[if_pos rfl];exact h1,by rw[if_pos rfl];exact h2,by rw[if_pos rfl];exact h3⟩
   ·have hy0:stp ls r (s::left) y=none:=of_decide_eq_true (List.mem_filter.mp h2).2
    refine .inr ⟨y,by rw[if_pos rfl];exact h1,(List.mem_filter.mp h2).1,?_,?_,h5⟩
    ·rw[if_pos hy0,if_pos rfl];exact h3
    ·rw[if_pos hy0,if_pos rfl];exact h4
  |some d =>
   cases d with
   |zero =>
    refine .inl ⟨?_,?_,?_⟩
    ·rw[if_neg (by simp)]
     unfold par
     rw[hx0]
    ·rw[if_neg (by simp)]
     exact(F.z1 x hx0).symm
    ·rw[if_neg (by simp)]
     rfl
   |succ d =>
    obtain⟨y,h1,h2,h3,h4⟩:=XC F hx0
    refine .inr ⟨y,by rw[if_neg (by simp)];exact h1,h2,?_,?_,h4⟩
    ·rw[h3,if_neg (by simp),if_neg (by simp)]
     rfl
    ·rw[h3,if_neg (by simp),if_neg (by simp)]
     rfl
theorem zak {ls:LP}{r:Nat}:∀ {n:Nat}{left:LI}{x:Int},x∈left→SF ls r n left x≤r
 |0,_,_,_=>Nat.zero_le _
 |n+1,[],_,h=>nomatch h
 |n+1,s::left,x,hx=>by
  unfold SF
  cases hx0:stp ls r (s::left) x with
  |none=>rw[if_pos rfl];exact zak (List.mem_filter.mpr ⟨hx,by simp[hx0]⟩)
  |some d=>rw[if_neg (by simp)];exact(stp_fp.mem x d hx0).2
theorem zam {ls:LP}{r:Nat}:∀ {n:Nat}{left:LI}{x:Int},left.Pairwise (· < ·)→x∈left→LF ls r n left x≤x
 |0,_,_,_,_=>Int.le_refl _
 |n+1,[],_,_,h=>nomatch h
 |n+1,s::left,x,hp,hx=>by
  unfold LF
  cases hx0:stp ls r (s::left) x with
  |none=>rw[if_pos rfl];exact zam (hp.sublist List.filter_sublist) (List.mem_filter.mpr ⟨hx,by simp[hx0]⟩)
  |some d =>
   rw[if_neg (by simp)]
   show s≤x
   rcases List.mem_cons.mp hx with e | e
   ·rw[e];exact Int.le_refl _
   ·exact Int.le_of_lt ((List.pairwise_cons.mp hp).1 x e)
theorem Xh {ls:LP}{r:Nat}:∀ {n:Nat}{left:LI}{x:Int},x∈left→LF ls r n left x∈left
 |0,_,_,h=>h
 |n+1,[],_,h=>nomatch h
 |n+1,s::left,x,hx=>by
  unfold LF
  cases hx0:stp ls r (s::left) x with
  |none=>rw[if_pos rfl];exact(List.mem_filter.mp (Xh (n:=n) (List.mem_filter.mpr ⟨hx,by simp[hx0]⟩:x∈nxl ls r (s::left)))).1
  |some d=>rw[if_neg (by simp)];exact List.mem_cons_self
theorem Xf {ls:LP}{r:Nat}:∀ {n:Nat}{left:LI}{x y:Int},left.length≤n→x∈left→y∈left→adB ls y x=true→LF ls r n left x=LF ls r n left y→SF ls r n left x≤SF ls r n left y+1
 |0,left,x,y,hl,hx,_,_,_=>by
  rw[List.eq_nil_of_length_eq_zero (Nat.le_zero.mp hl)] at hx
  cases hx
 |n+1,[],x,y,_,hx,_,_,_=>by cases hx
 |n+1,s::left,x,y,hl,hx,hy,a,e=>by
  rw[List.length_cons] at hl
  have F:=stp_fp (ls:=ls) (r:=r) (s:=s) (left:=left)
  have ns:s∉nxl ls r (s::left):=fun h=>by
   have:=of_decide_eq_true (List.mem_filter.mp h).2
   rw[F.z] at this
   cases this
  unfold LF at e
  unfold SF
  cases hx0:stp ls r (s::left) x with
  |none =>
   have hx1:x∈nxl ls r (s::left):=List.mem_filter.mpr ⟨hx,by simp[hx0]⟩
   rw[if_pos hx0] at e
   cases hy0:stp ls r (s::left) y with
   |none =>
    rw[if_pos hy0] at e
    rw[if_pos rfl,if_pos rfl]
    exact Xf (Nat.le_trans uE (by omega)) hx1 (List.mem_filter.mpr ⟨hy,by simp[hy0]⟩) a e
   |some d =>
    rw[if_neg (by rw[hy0];simp)] at e
    have:=Xh (ls:=ls) (r:=r) (n:=n) hx1
    rw[e] at this
    exact absurd this ns
  |some d =>
   rw[if_neg (by rw[hx0];simp)] at e
   cases hy0:stp ls r (s::left) y with
   |none =>
    rw[if_pos hy0] at e
    have hy1:y∈nxl ls r (s::left):=List.mem_filter.mpr ⟨hy,by simp[hy0]⟩
    have:=Xh (ls:=ls) (r:=r) (n:=n) hy1
    rw[← e] at this
    exact absurd this ns
   |some d2 =>
    rw[if_neg (by simp),if_neg (by simp)]
    show d≤d2+1
    by_cases c:d2<r
    ·obtain⟨e2,h1,h2⟩:=F.cl y d2 x hy0 c hx a
     rw[hx0] at h1
     cases h1
     exact h2
    ·have:=(F.mem x d hx0).2
     omega
def rgf (ls:LP) (ring:LI) (x:Int):V:=opV (ring.find? fun y=>adB ls y x)
theorem YV {ls:LP}{ring:LI}{x h:Int}(e:∃ y∈ring,adB ls y x=true):rgf ls (ring++[h]) x=rgf ls ring x:=by
 unfold rgf
 rw[List.find?_append]
 cases hf:ring.find? fun y=>adB ls y x with
 |none =>
  obtain⟨y,hy,a⟩:=e
  exact absurd a (List.find?_eq_none.mp hf y hy)
 |some y=>rfl
theorem Wb {ls:LP}{ring:LI}{x h:Int}(e:¬ ∃ y∈ring,adB ls y x=true) (a:adB ls h x=true):rgf ls (ring++[h]) x=.int h:=by
 unfold rgf
 rw[List.find?_append]
 have:(ring.find? fun y=>adB ls y x)=none:=List.find?_eq_none.mpr fun y hy z=>e ⟨y,hy,z⟩
 rw[this,List.find?_singleton,a]
 rfl
def zbH (a:Ad):Sp:=fun vs H Q _=>∃ (p dx oh ol d0 l d r:Addr) (ad:Int→Addr) (hs left ring us:LI) (ls:LP) (f:Int→V),vs=[.ref p,.ref l,.ref d,.ref r]∧WebAt a H p hs ls dx oh ol d0 ad∧Hs hs∧Ls hs ls∧H l=some (.lst (left.map V.int))∧H d=some (.dK (tabV f us))∧H r=some (.lst (ring.map V.int))∧(∀ x∈left,x∈hs)∧(∀ x∈ring,x∈hs) ∧
 ∀ (q:Addr) (fs:LI) (H':Hp),H q=none→H' q=some (.dK (tabV (rgf ls ring) fs))→fs.Nodup→(∀ x,x∈fs↔x∈left∧x∉us∧∃ y∈ring,adB ls y x=true)→Same H H'→Q (.ref q) H'
theorem za6 (T:Txt w K mg a):FnOk P w K mg base CX0 4 229 (dK K 229) ["web", "left", "parents", "ring"] (zbH a):=by
 refine(T.fn 10 rfl).ok (scp 10 rfl) (fun vs H Q E h=>?_) (fun cdv A outer s H vs Q E hr h=>?_)
 ·obtain⟨p,dx,oh,ol,d0,l,d,r,ad,hs,left,ring,us,ls,f,rfl,_⟩:=h
  rfl
 ·obtain⟨p,dx,oh,ol,d0,l,d,r,ad,hs,left,ring,us,ls,f,rfl,W,wh,wl,hl,hd,hr0,hlh,hrh,k⟩:=h
  have hu:=yA hr
  refine zT (w_pss_cons (w_ps_set (i:=4) (scp 10 rfl).nd rfl (Or.inl rfl) xI)
   (w_pss_cons (zG PassesOwn.never rfl (zy (zh 3)) (zk (i:=5) (scp 10 rfl).nd rfl (Or.inl rfl))
    (ze (zG PassesOwn.never rfl (zy (zx (zh 0) (zg (zh 5) zd))) (zk (i:=6) (scp 10 rfl).nd rfl (Or.inl rfl))
     (ze (zB (we (yB (zn xB (zh 6) (zh 1) (by with_unfolding_all rfl)) (yr (wc (xk hu (zh 6) (zh 2))))))
      (ze (zO (xt hu (zh 4) (zh 6) (zh 5) ⟨rfl,rfl,rfl,rfl⟩)))
      zo)))))
   (ze (zj (zh 4))))) ?_
  refine fun q hq=>?_
  refine⟨_,rfl,r,rfl,⟨_,SqL.of (Same.new hq _ _ hr0)⟩,?_⟩
  refine for_list (xs:=ring.map V.int) (fun i σ H'=>∃ (fs:LI) (o5 o6:Option V),σ=[some (.ref p),some (.ref l),some (.ref d),some (.ref r),some (.ref q),o5,o6]∧H' q=some (.dK (tabV (rgf ls (ring.take i)) fs))∧fs.Nodup∧(∀ x,x∈fs↔x∈left∧x∉us∧∃ y∈ring.take i,adB ls y x=true)∧Same H H') ?_ ?_ ?_ ?_
  ·exact⟨[],none,none,rfl,upd_same,List.nodup_nil,(fun x=>⟨fun h=>(nomatch h),fun⟨_,_,y,hy,_⟩=>(nomatch hy)⟩),Same.new hq⟩
  ·rintro i σ H' hi ⟨fs,o5,o6,_,_,_,_,sm⟩
   exact SqL.of (sm _ _ hr0)
  ·rintro i v σ H1 hi ⟨fs,o5,o6,rfl,hq1,nd,mem,sm⟩
   rw[List.getElem?_map] at hi
   obtain⟨h,hh,rfl⟩:=Option.map_eq_some_iff.mp hi
   have hhm:=hrh h (List.mem_of_getElem? hh)
   have etk:ring.take (i+1)=ring.take i++[h]:=by rw[List.take_add_one,hh];rfl
   refine mtV rfl (sm _ _ W.p) rfl (T.cl 1 rfl) (T.mt 52 rfl) (za7 (P:=P) (w:=w) T) hr.m (T.bi 52 rfl) ⟨_,rfl,p,h,hs,ls,dx,oh,ol,d0,ad,rfl,W.same sm,wh,wl,hhm,fun n hn=>?_⟩
   refine⟨n,rfl,⟨_,SqL.of upd_same⟩,?_⟩
   have s2:=Same.new (o:=HO.lst ((hs.filter (adB ls h)).map V.int)) hn
   have hn2:=upd_same (H:=H1) (a:=n) (o:=HO.lst ((hs.filter (adB ls h)).map V.int))
   have nnq:n≠q:=fun z=>by rw[z,hq1] at hn;cases hn
   have hq2:=s2 _ _ hq1
   have sm2:=sm.trans s2
   generalize upd H1 n (HO.lst ((hs.filter (adB ls h)).map V.int))=H2 at *
   refine for_list (xs:=(hs.filter (adB ls h)).map V.int) (fun j σ H'=>∃ (fs':LI) (o6:Option V),σ=[some (.ref p),some (.ref l),some (.ref d),some (.ref r),some (.ref q),some (.int h),o6]∧H' q=some (.dK (tabV (rgf ls (ring.take i++[h])) fs'))∧H' n=some (.lst ((hs.filter (adB ls h)).map V.int))∧fs'.Nodup∧(∀ x,x∈fs'↔x∈left∧x∉us∧((∃ y∈ring.take i,adB ls y x=true)∨x∈(hs.filter (adB ls h)).take j))∧Same H H') ?_ ?_ ?_ ?_
   ·refine⟨fs,o6,rfl,?_,hn2,nd,fun x=>?_,sm2⟩
    ·rw[hq2,yJ fun x hx=>(YV ((mem x).mp hx).2.2).symm]
    ·rw[mem x]
     simp
   ·rintro j σ H' hj ⟨fs',o6,_,_,hn',_⟩
    exact SqL.of hn'
   ·rintro j v σ H3 hj ⟨fs',o6,rfl,hq3,hn3,nd3,mem3,sm3⟩
    rw[List.getElem?_map] at hj
    obtain⟨o,ho,rfl⟩:=Option.map_eq_some_iff.mp hj
    have hom:=List.mem_filter.mp (List.mem_of_getElem? ho)
    have etk2:(hs.filter (adB ls h)).take (j+1)=(hs.filter (adB ls h)).take j++[o]:=by rw[List.take_add_one,ho];rfl
    have l12:fs'.length≤12:=Nat.le_trans (xn nd3 fun x hx=>hlh x ((mem3 x).mp hx).1) wh.l12
    by_cases c1:o∈left
    ·refine⟨_,rfl,_,rfl,l,_,rfl,.inl (SqL.of (sm3 _ _ hl)),rfl,yu _,_,rfl,iteB (by show inV (.int o) _=true;rw[yP];exact decide_eq_true c1) ?_⟩
     by_cases c2:o∈us
     ·refine⟨_,rfl,_,rfl,d,_,rfl,yN (sm3 _ _ hd) c2,_,rfl,iteN rfl ?_⟩
      refine⟨fs',_,rfl,hq3,hn3,nd3,fun x=>?_,sm3⟩
      rw[mem3 x,etk2]
      constructor
      ·rintro⟨h1,h2,h3⟩
       exact⟨h1,h2,h3.imp id fun z=>List.mem_append.mpr (.inl z)⟩
      ·rintro⟨h1,h2,h3⟩
       refine⟨h1,h2,h3.imp id fun z=>(List.mem_append.mp z).resolve_right fun e=>h2 ?_⟩
       rw[List.mem_singleton.mp e];exact c2
     ·refine⟨_,rfl,_,rfl,d,none,rfl,Z0 (sm3 _ _ hd) c2,_,rfl,wa ?_⟩
      refine⟨_,rfl,q,rfl,.inl ⟨_,.inl hq3⟩,_,rfl,_,rfl,.inl ⟨_,.inl o,hq3,rfl,by rw[tabV_len];exact zu (by omega),fun u hu'=>?_,fun hn'=>?_⟩⟩
      ·have hof:o∈fs':=Classical.byContradiction fun z=>by rw[u0 z] at hu';cases hu'
       refine⟨fs',_,rfl,hq3,hn3,nd3,fun x=>?_,sm3⟩
       rw[mem3 x,etk2]
       constructor
       ·rintro⟨h1,h2,h3⟩
        exact⟨h1,h2,h3.imp id fun z=>List.mem_append.mpr (.inl z)⟩
       ·rintro⟨h1,h2,h3⟩
        refine⟨h1,h2,h3.elim .inl fun z=>(List.mem_append.mp z).elim .inr fun e=>?_⟩
        rw[List.mem_singleton.mp e]
        exact((mem3 o).mp hof).2.2
      ·have hof:o∉fs':=fun z=>by rw[vi z] at hn';cases hn'
       have hno:¬ ∃ y∈ring.take i,adB ls y o=true:=fun z=>hof ((mem3 o).mpr ⟨c1,c2,.inl z⟩)
       rw[u4 hof]
       have ec:tabV (fun y=>if y=o then V.int h else rgf ls (ring.take i++[h]) y) (fs'++[o])=tabV (rgf ls (ring.take i++[h])) (fs'++[o]):=yJ fun x hx=>by
        by_cases e:x=o
        ·rw[if_pos e,e,Wb hno hom.2]
        ·rw[if_neg e]
       rw[ec]
       refine⟨fs'++[o],_,rfl,upd_same,?_,?_,fun x=>?_,Same.updF sm3 hq⟩
       ·rw[upd_ne nnq];exact hn3
       ·rw[List.nodup_append]
        exact⟨nd3,by simp,fun u hu v hv e=>hof (by rw[List.mem_singleton.mp hv] at e;rw[← e];exact hu)⟩
       ·rw[List.mem_append,mem3 x,etk2]
        constructor
        ·rintro(⟨h1,h2,h3⟩ | e)
         ·exact⟨h1,h2,h3.imp id fun z=>List.mem_append.mpr (.inl z)⟩
         ·rw[List.mem_singleton.mp e]
          exact⟨c1,c2,.inr (List.mem_append.mpr (.inr (by simp)))⟩
        ·rintro⟨h1,h2,h3⟩
         rcases h3 with h3 | h3
         ·exact .inl ⟨h1,h2,.inl h3⟩
         ·rcases List.mem_append.mp h3 with z | z
          ·exact .inl ⟨h1,h2,.inr z⟩
          ·exact .inr z
    ·refine⟨_,rfl,_,rfl,l,_,rfl,.inl (SqL.of (sm3 _ _ hl)),rfl,yu _,_,rfl,iteN (by show inV (.int o) _=false;rw[yP];exact decide_eq_false c1) ?_⟩
     refine⟨fs',_,rfl,hq3,hn3,nd3,fun x=>?_,sm3⟩
     rw[mem3 x,etk2]
     constructor
     ·rintro⟨h1,h2,h3⟩
      exact⟨h1,h2,h3.imp id fun z=>List.mem_append.mpr (.inl z)⟩
     ·rintro⟨h1,h2,h3⟩
      refine⟨h1,h2,h3.imp id fun z=>(List.mem_append.mp z).resolve_right fun e=>c1 ?_⟩
      rw[← List.mem_singleton.mp e];exact h1
   ·rintro σ H3 ⟨fs',o6,rfl,hq3,hn3,nd3,mem3,sm3⟩
    rw[List.length_map,List.take_length] at mem3
    refine⟨fs',_,_,rfl,by rw[etk];exact hq3,nd3,fun x=>?_,sm3⟩
    rw[mem3 x,etk]
    constructor
    ·rintro⟨h1,h2,h3⟩
     refine⟨h1,h2,h3.elim (fun⟨y,hy,z⟩=>⟨y,List.mem_append.mpr (.inl hy),z⟩) fun z=>⟨h,by simp,(List.mem_filter.mp z).2⟩⟩
    ·rintro⟨h1,h2,y,hy,z⟩
     refine⟨h1,h2,?_⟩
     rcases List.mem_append.mp hy with e | e
     ·exact .inl ⟨y,e,z⟩
     ·rw[List.mem_singleton.mp e] at z
      exact .inr (List.mem_filter.mpr ⟨hlh x h1,z⟩)
  ·rintro σ H1 ⟨fs,o5,o6,rfl,hq1,nd,mem,sm⟩
   rw[List.length_map,List.take_length] at hq1 mem
   exact⟨_,rfl,k q fs H1 hq hq1 nd mem sm⟩
open L2.Srt (vd)
theorem V2 {v:V}{xs:List V}:atI (v::xs) 0=some v:=by
 unfold atI ixN
 simp
theorem zar {ms fs:LI}(pm:ms.Perm fs) (sd:ms.Pairwise (· ≤ ·)) (nd:fs.Nodup):ms.Pairwise (· < ·):=by
 have nd2:ms.Nodup:=pm.nodup_iff.mpr nd
 have:=List.pairwise_and_iff.mpr ⟨sd,List.nodup_iff_pairwise_ne.mp nd2⟩
 exact this.imp fun {a b} h=>by omega
def zbG (a:Ad):Sp:=fun vs H Q _=>∃ (p dx oh ol d0 l:Addr) (ad:Int→Addr) (hs lt:LI) (s:Int) (ls:LP) (r:Nat),vs=[.ref p,.ref l,.int (r:Int)]∧WebAt a H p hs ls dx oh ol d0 ad∧Hs hs∧Ls hs ls∧H l=some (.lst ((s::lt).map V.int))∧(∀ x∈s::lt,x∈hs)∧(s::lt).Pairwise (· < ·) ∧
 ∀ (q:Addr) (us:LI) (H':Hp),H q=none→H' q=some (.dK (tabV (fun x=>opV (par ls (s::lt) (stp ls r (s::lt)) x)) us))→us.Nodup→(∀ x,x∈us↔stp ls r (s::lt) x≠none)→Same H H'→Q (.ref q) H'
theorem za5 (T:Txt w K mg a):FnOk P w K mg base CX0 5 236 (dK K 236) ["web", "left", "reach"] (zbG a):=by
 have c_next_ring:Callee P w K mg base "next_ring" 229 (dK K 229) ["web", "left", "parents", "ring"] 4 (zbH a):=⟨za6 T,(T.g 10 rfl),(T.fn 10 rfl).kp,(T.bi 10 rfl)⟩
 refine(T.fn 11 rfl).ok (scp 11 rfl) (fun vs H Q E h=>?_) (fun cdv A outer s H vs Q E hr h=>?_)
 ·obtain⟨p,dx,oh,ol,d0,l,ad,hs,lt,s,ls,r,rfl,_⟩:=h
  rfl
 ·obtain⟨p,dx,oh,ol,d0,l,ad,hs,lt,s,ls,r,rfl,W,wh,wl,hl,hsub,up,k⟩:=h
  have hu:=yA hr
  have hF:=stp_fp (ls:=ls) (r:=r) (s:=s) (left:=lt)
  generalize hFe:stp ls r (s::lt)=F at *
  generalize hle:s::lt=left at *
  have hsl:s∈left:=by rw[← hle];exact List.mem_cons_self
  have nd:left.Nodup:=List.nodup_iff_pairwise_ne.mpr (up.imp fun {a b} h=>by omega)
  have l12:left.length≤12:=Nat.le_trans (xn nd hsub) wh.l12
  have h0:atI (left.map V.int) 0=some (V.int s):=by rw[← hle];exact V2
  refine zT (w_pss_cons (w_ps_set (i:=3) (scp 11 rfl).nd rfl (Or.inl rfl) (ZV (Zz (zL ye (zh 1) zi (fun _ _=>rfl)) yD ZT) rfl rfl (by intro z;cases z) (by decide)))
   (w_pss_cons (w_ps_set (i:=4) (scp 11 rfl).nd rfl (Or.inl rfl) (zM (zr (zL ye (zh 1) zi (fun _ _=>rfl)) zd)))
   (w_pss_cons (w_ps_set (i:=5) (scp 11 rfl).nd rfl (Or.inl rfl) zi)
   (w_pss_cons (yG PassesOwn.never (we (yB (wR (zh 4) (fun _=>rfl)) (yr (zn vt (zh 5) (zh 2) (zC _)))))
    (w_pss_cons (w_ps_set (i:=6) (scp 11 rfl).nd rfl (Or.inl rfl) (zq c_next_ring hr.m (zg (zh 0) (zg (zh 1) (zg (zh 3) (zg (zh 4) zd))))))
    (w_pss_cons (zO (vH (zh 3) (zh 6) ⟨rfl,rfl,rfl,rfl⟩))
    (w_pss_cons (w_ps_set (i:=4) (scp 11 rfl).nd rfl (Or.inl rfl) (zm vd (by rfl) (T.n 6 rfl) zW (zg (zh 6) zd)))
    (ze (Xi (i:=5) (scp 11 rfl).nd rfl (Or.inl rfl) zi U8))))))
   (ze (zj (zh 3))))))) ?_
  refine fun q hq=>?_
  have s1:=Same.new (o:=HO.dK []) hq
  refine⟨_,rfl,l,_,0,_,rfl,rfl,SqL.of (s1 _ _ hl),h0,?_⟩
  refine⟨upd_same,[(Sum.inl s,V.non)],rfl,(by show 1≤15;decide),?_⟩
  rw[xJ,Zl (kvs:=[(Sum.inl s,V.non)]) (by simp)]
  have hps:par ls left F s=none:=by
   unfold par
   rw[hF.z]
  have ht1:([(Sum.inl s,V.non)]:List (Key×V))=tabV (fun x=>opV (par ls left F x)) [s]:=by
   show _=[(Sum.inl s,opV (par ls left F s))]
   rw[hps]
   rfl
  rw[ht1]
  have s2:=Same.new (o:=HO.dK (tabV (fun x=>opV (par ls left F x)) [s])) hq
  have hq2:=upd_same (H:=H) (a:=q) (o:=HO.dK (tabV (fun x=>opV (par ls left F x)) [s]))
  generalize upd H q (HO.dK (tabV (fun x=>opV (par ls left F x)) [s]))=H2 at *
  refine⟨_,rfl,l,_,0,_,rfl,rfl,SqL.of (s2 _ _ hl),h0,(by show 1≤sizeLine;decide),fun rg hrg=>?_⟩
  have s3:=s2.trans (Same.new (o:=HO.lst [V.int s]) hrg)
  have hf0:left.filter (fun x=>decide (F x=some 0))=[s]:=by
   rw[← hle] at nd ⊢
   rw[List.filter_cons_of_pos (by simp[hF.z])]
   rw[List.filter_eq_nil_iff.mpr fun x hx=>by
    have:x≠s:=fun z=>(List.nodup_cons.mp nd).1 (by rw[← z];exact hx)
    simp only[decide_eq_true_eq]
    exact fun z=>this (hF.z1 x z)]
  refine⟨fun m σ H'=>∃ (kk:Nat) (us:LI) (rg:Addr) (o6:Option V),m=left.length+1-kk∧σ=[some (.ref p),some (.ref l),some (.int (r:Int)),some (.ref q),some (.ref rg),some (.int (kk:Int)),o6]∧H' q=some (.dK (tabV (fun x=>opV (par ls left F x)) us))∧H' rg=some (.lst ((left.filter fun x=>decide (F x=some kk)).map V.int))∧us.Nodup∧(∀ x,x∈us↔∃ d,d≤kk∧F x=some d)∧kk≤r∧Same H H',⟨_,0,[s],rg,none,rfl,rfl,?_,?_,by simp,fun x=>?_,Nat.zero_le _,s3⟩,?_⟩
  ·have nq:q≠rg:=fun z=>by rw[← z,hq2] at hrg;cases hrg
   rw[upd_ne nq]
   exact hq2
  ·rw[upd_same,hf0]
   rfl
  ·constructor
   ·intro h
    rw[List.mem_singleton.mp h]
    exact⟨0,Nat.le_refl _,hF.z⟩
   ·rintro⟨d,hd,e⟩
    rw[Nat.le_zero.mp hd] at e
    rw[hF.z1 x e]
    simp
  rintro m σ H4 ⟨kk,us,rg,o6,rfl,rfl,hq4,hrg4,ndu,mem,hkr,s4⟩
  have fin:(∀ x d,F x=some d→d≤kk)→Q (V.ref q) H4:=fun h=>k q us H4 hq hq4 ndu (fun x=>by
   rw[mem x]
   constructor
   ·rintro⟨d,_,e⟩ z
    rw[z] at e
    cases e
   ·intro h1
    cases hx:F x with
    |none=>exact absurd hx h1
    |some d=>exact⟨d,h x d hx,rfl⟩) s4
  have us12:us.length≤12:=Nat.le_trans (xn ndu fun x hx=>by
   obtain⟨d,_,e⟩:=(mem x).mp hx
   exact hsub x (hF.mem x d e).1) wh.l12
  refine⟨_,rfl,_,.inl ⟨_,SqL.of hrg4,rfl⟩,?_⟩
  cases hrl:left.filter fun x=>decide (F x=some kk) with
  |nil =>
   refine iteN (by rfl) ?_
   refine⟨_,rfl,fin fun x d e=>?_⟩
   rcases Nat.lt_or_ge kk d with z | z
   ·obtain⟨y,hy⟩:=hF.lower e kk (by omega)
    have:y∈left.filter fun x=>decide (F x=some kk):=List.mem_filter.mpr ⟨(hF.mem y _ hy).1,by simp[hy]⟩
    rw[hrl] at this
    cases this
   ·exact z
  |cons z0 zs0 =>
   have hz0:z0∈left.filter fun x=>decide (F x=some kk):=by rw[hrl];exact List.mem_cons_self
   have hkl:kk<left.length:=hF.few (of_decide_eq_true (List.mem_filter.mp hz0).2)
   refine iteB (by rfl) ?_
   by_cases hc:(kk:Int)<(r:Int)
   ·refine⟨_,rfl,_,rfl,_,_,rfl,rfl,_,rfl,iteB (by simp;omega) ?_⟩
    refine⟨_,fun σ' H' h=>h,?_⟩
    refine⟨_,rfl,_,rfl,_,rfl,_,rfl,p,dx,oh,ol,d0,l,q,rg,ad,hs,left,left.filter (fun x=>decide (F x=some kk)),us,ls,_,rfl,W.same s4,wh,wl,s4 _ _ hl,hq4,hrg4,hsub,(fun x hx=>hsub x (List.mem_filter.mp hx).1),fun fq fs H5 hfq hfq5 ndf memf s5=>?_⟩
    have hmf:∀ x,x∈fs↔F x=some (kk+1):=fun x=>by
     rw[memf x]
     constructor
     ·rintro⟨h1,h2,y,hy,a⟩
      have hy':F y=some kk:=of_decide_eq_true (List.mem_filter.mp hy).2
      obtain⟨e,he,hle2⟩:=hF.cl y kk x hy' (by omega) h1 a
      have:¬ e≤kk:=fun z=>h2 ((mem x).mpr ⟨e,z,he⟩)
      rw[he,show e=kk+1 by omega]
     ·intro e
      obtain⟨y,hy,a⟩:=hF.pr x kk e
      refine⟨(hF.mem x _ e).1,fun z=>?_,y,List.mem_filter.mpr ⟨(hF.mem y _ hy).1,by simp[hy]⟩,a⟩
      obtain⟨d,hd,e2⟩:=(mem x).mp z
      rw[e] at e2
      cases e2
      omega
    have ec:tabV (rgf ls (left.filter fun x=>decide (F x=some kk))) fs=tabV (fun x=>opV (par ls left F x)) fs:=yJ fun x hx=>by
     show opV _=opV (par ls left F x)
     unfold par
     rw[(hmf x).mp hx]
    rw[ec] at hfq5
    have nfq:q≠fq:=fun z=>by rw[← z,hq4] at hfq;cases hfq
    have ndx:(us++fs).Nodup:=by
     rw[List.nodup_append]
     refine⟨ndu,ndf,fun x hx y hy e=>?_⟩
     rw[← e] at hy
     obtain⟨d,hd,e2⟩:=(mem x).mp hx
     rw[(hmf x).mp hy] at e2
     cases e2
     omega
    have f12:fs.length≤12:=Nat.le_trans (xn ndf fun x hx=>hsub x (hF.mem x _ ((hmf x).mp hx)).1) wh.l12
    refine⟨_,rfl,q,rfl,.inl ⟨_,.inl (s5 _ _ hq4)⟩,_,rfl,fq,_,_,rfl,nfq,s5 _ _ hq4,hfq5,by rw[tabV_len,tabV_len];omega,?_⟩
    rw[xL ndx]
    have hfq6:(upd H5 q (HO.dK (tabV (fun x=>opV (par ls left F x)) (us++fs)))) fq=some (.dK (tabV (fun x=>opV (par ls left F x)) fs)):=by rw[upd_ne nfq.symm];exact hfq5
    have s6:Same H (upd H5 q (HO.dK (tabV (fun x=>opV (par ls left F x)) (us++fs)))):=Same.updF (s4.trans s5) hq
    have hq6:=upd_same (H:=H5) (a:=q) (o:=HO.dK (tabV (fun x=>opV (par ls left F x)) (us++fs)))
    generalize upd H5 q (HO.dK (tabV (fun x=>opV (par ls left F x)) (us++fs)))=H6 at *
    refine⟨_,rfl,fq,_,fs,rfl,hfq6,yT,by omega,fun rg2 ms hrg2 pm sd=>?_⟩
    have ems:ms=left.filter fun x=>decide (F x=some (kk+1)):=ZX (zar pm sd ndf) (up.sublist (List.filter_sublist)) fun x=>by
     rw[pm.mem_iff,hmf x,List.mem_filter]
     constructor
     ·intro e
      exact⟨(hF.mem x _ e).1,by simp[e]⟩
     ·intro e
      exact of_decide_eq_true e.2
    rw[ems]
    have s7:=Same.new (o:=HO.lst ((left.filter fun x=>decide (F x=some (kk+1))).map V.int)) hrg2
    refine⟨_,rfl,_,_,rfl,rfl,?_⟩
    refine⟨left.length+1-(kk+1),by omega,kk+1,us++fs,rg2,_,rfl,rfl,s7 _ _ hq6,upd_same,ndx,fun x=>?_,by omega,s6.trans s7⟩
    rw[List.mem_append,mem x,hmf x]
    constructor
    ·rintro(⟨d,hd,e⟩ | e)
     ·exact⟨d,by omega,e⟩
     ·exact⟨kk+1,Nat.le_refl _,e⟩
    ·rintro⟨d,hd,e⟩
     rcases Nat.lt_or_eq_of_le hd with z | z
     ·exact .inl ⟨d,by omega,e⟩
     ·exact .inr (by rw[← z];exact e)
   ·refine⟨_,rfl,_,rfl,_,_,rfl,rfl,_,rfl,iteN (by simp;omega) ?_⟩
    exact⟨_,rfl,fin fun x d e=>by have:=(hF.mem x d e).2;omega⟩
open L2.Sco (PT PsAt)
noncomputable abbrev pfh (ls:LP) (r:Nat) (hs:LI):Int→Option Int:=PF ls r hs.length hs
noncomputable abbrev lfh (ls:LP) (r:Nat) (hs:LI):Int→Int:=ldr (paO (pfh ls r hs))
theorem UF {ls:LP}{r:Nat}{hs:LI}:∀ (m:Nat){x:Int},SF ls r hs.length hs x≤m→x∈hs→∃ l,En (pfh ls r hs) x l∧l.length=SF ls r hs.length hs x+1∧l.getLastD x=LF ls r hs.length hs x
 |m,x,hm,hx=>by
  rcases vg (ls:=ls) (r:=r) (n:=hs.length) (Nat.le_refl _) hx with⟨h1,h2,h3⟩ | ⟨y,h1,h2,h3,h4,h5⟩
  ·exact⟨[x],.z h1,by rw[h3];rfl,by rw[h2];rfl⟩
  ·obtain⟨m,rfl⟩:∃ m',m=m'+1:=⟨m-1,by omega⟩
   obtain⟨l,e1,e2,e3⟩:=UF (ls:=ls) (r:=r) m (by omega) h2
   obtain⟨t,et⟩:=e1.hd
   refine⟨x::l,.s h1 e1,by rw[List.length_cons,e2,h4],?_⟩
   rw[← h3,← e3,et]
   simp only[List.getLastD_eq_getLast?,List.getLast?_cons_cons]
   rw[List.getLast?_eq_some_getLast (by simp)]
   rfl
structure ByC (hs:LI) (ls:LP) (r:Nat) (pf:Int→Option Int) (bs:LP):Prop where
 cl:Cl hs pf
 ad:∀ x∈hs,∀ y,pf x=some y→adB ls x y=true
 en:∀ x∈hs,∃ l,En pf x l
 dr:∀ x∈hs,(paO pf x).length≤r+1
 le:∀ x∈hs,ldr (paO pf) x≤x
 nr:∀ x∈hs,∀ y∈hs,adB ls y x=true→ldr (paO pf) x=ldr (paO pf) y→(paO pf x).length≤(paO pf y).length+1
 bs:bs=srt ((jn (ldr (paO pf)) (srt ls)).map (·.2))
theorem byC {ls:LP}{r:Nat}{hs:LI}(wh:Hs hs):ByC hs ls r (pfh ls r hs) (srt ((jn (lfh ls r hs) (srt ls)).map (·.2))):=by
 have en:∀ x∈hs,En (pfh ls r hs) x (paO (pfh ls r hs) x)∧(paO (pfh ls r hs) x).length=SF ls r hs.length hs x+1∧ldr (paO (pfh ls r hs)) x=LF ls r hs.length hs x:=fun x hx=>by
  obtain⟨l,e1,e2,e3⟩:=UF (ls:=ls) (r:=r) _ (Nat.le_refl _) hx
  have e:=wX e1
  unfold ldr
  rw[e]
  exact⟨e1,e2,e3⟩
 refine⟨fun x hx y (hy:PF ls r hs.length hs x=some y)=>?_,fun x hx y (hy:PF ls r hs.length hs x=some y)=>?_,fun x hx=>⟨_,(en x hx).1⟩,fun x hx=>?_,fun x hx=>?_,fun x hx y hy a e=>?_,rfl⟩
 ·rcases vg (ls:=ls) (r:=r) (n:=hs.length) (Nat.le_refl _) hx with⟨h1,_⟩ | ⟨z,h1,h2,_⟩
  ·rw[h1] at hy;cases hy
  ·rw[h1] at hy;cases hy;exact h2
 ·rcases vg (ls:=ls) (r:=r) (n:=hs.length) (Nat.le_refl _) hx with⟨h1,_⟩ | ⟨z,h1,_,_,_,h5⟩
  ·rw[h1] at hy;cases hy
  ·rw[h1] at hy;cases hy;rw[Zx];exact h5
 ·rw[(en x hx).2.1]
  exact Nat.succ_le_succ (zak hx)
 ·rw[(en x hx).2.2]
  exact zam wh.up hx
 ·rw[(en x hx).2.2,(en y hy).2.2] at e
  rw[(en x hx).2.1,(en y hy).2.1]
  exact Nat.succ_le_succ (Xf (Nat.le_refl _) hx hy a e)
noncomputable def brs (ls:LP) (r:Nat) (hs:LI):LP:=srt ((jn (lfh ls r hs) (srt ls)).map (·.2))
theorem Vd {ls:LP}{r:Nat}{hs us:LI}(wh:Hs hs) (h:∀ x,x∈us↔x∈hs):UpP us (PF ls r hs.length hs) (paO (pfh ls r hs)):=UpP.of (fun x hx y hy=>(h y).mpr ((byC (ls:=ls) (r:=r) wh).cl x ((h x).mp hx) y hy)) fun x hx=>(byC (ls:=ls) (r:=r) wh).en x ((h x).mp hx)
theorem srt_mem {ls:LP}{p:Int×Int}:p∈srt ls↔p∈ls:=(zX ls).mem_iff
theorem xM {ls:LP}:(srt ls).length=ls.length:=(zX ls).length_eq
theorem Xa {ls:LP}{r:Nat}{hs:LI}:(brs ls r hs).length≤ls.length:=by
 unfold brs
 rw[xM,List.length_map]
 have:=Zo (lf:=lfh ls r hs) (ls:=srt ls)
 rw[xM] at this
 exact this
def Uu (a:Ad):Sp:=fun vs H Q _=>∃ (p:Addr) (hs:LI) (ls:LP) (r:Nat),vs=[.ref p,.int (r:Int)]∧WbP a H p hs ls ∧
 ∀ (q dx dp ob:Addr) (us:LI) (H':Hp),H ob=none→WayAt a H' q (PF ls r hs.length hs) us (brs ls r hs) dx dp ob→(∀ x,x∈us↔x∈hs)→Same H H'→Q (.ref q) H'
theorem VH (T:Txt w K mg a):FnOk P w K mg base CX0 8 241 (dK K 241) ["web", "reach"] (Uu a):=by
 have c_parents_in_cluster:Callee P w K mg base "parents_in_cluster" 236 (dK K 236) ["web", "left", "reach"] 5 (zbG a):=⟨za5 T,(T.g 11 rfl),(T.fn 11 rfl).kp,(T.bi 11 rfl)⟩
 have c_first_joins:Callee P w K mg base "first_joins" 208 (dK K 208) ["way", "lines"] 3 (zaO a):=⟨US T,(T.g 7 rfl),(T.fn 7 rfl).kp,(T.bi 7 rfl)⟩
 have m_Way:Maker P w K mg base "Way" 162 96 (dK K 96) ["self", "parents", "bridges"] 6 (Uq a):=⟨UK T,(T.gc 0 rfl),(T.mm 0 rfl),(T.bi 40 rfl)⟩
 refine(T.fn 12 rfl).ok (scp 12 rfl) (fun vs H Q E h=>?_) (fun cdv A outer s H vs Q E hr h=>?_)
 ·obtain⟨p,hs,ls,r,rfl,_⟩:=h
  rfl
 ·obtain⟨p,hs,ls,r,rfl,WP,k⟩:=h
  obtain⟨wdx,oh,ol,d0,ad,W⟩:=WP.at_
  have wh:=WP.wh
  have wl:=WP.wl
  have hu:=yA hr
  have l12:=wh.l12
  refine zT (w_pss_cons (w_ps_set (i:=2) (scp 12 rfl).nd rfl (Or.inr rfl) xI)
   (w_pss_cons (w_ps_set (i:=3) (scp 12 rfl).nd rfl (Or.inl rfl) (zK (zh 0)))
   (w_pss_cons (yG PassesOwn.never (wR (zh 3) (fun _=>rfl))
    (w_pss_cons (zO (vH (zh 2) (zq c_parents_in_cluster hr.m (zg (zh 0) (zg (zh 3) (zg (zh 1) zd)))) ⟨rfl,rfl,rfl,rfl⟩))
    (ze (yC (i:=3) rfl (scp 12 rfl).nd rfl (Or.inl rfl) (N':=["hand", "parents"]) (t:=1) (caps:=[2]) ⟨rfl,rfl,rfl⟩ (zy (zh 3)) (fun _=>(zk (i:=0) (show(["hand", "parents"]:List Str).Nodup by decide +kernel) rfl (Or.inl rfl))) (fun _=>(yF (wc (xk hu (zh 0) (zh 1))))) (fun _=>(zh 0))))))
   (w_pss_cons (w_ps_set (i:=4) (scp 12 rfl).nd rfl (Or.inl rfl) (zq c_first_joins hr.m (zQ (uU m_Way hr.m (zg (zh 2) (zr (zM zd) zd))) (zQ (zK (zh 0)) zd))))
   (ze (zj (uU m_Way hr.m (zg (zh 2) (zQ (um rfl (by rfl) (T.n 6 rfl) zW (zh 4)) zd))))))))) ?_
  refine fun d hd=>?_
  have s1:=Same.new (o:=HO.dK []) hd
  refine mtV rfl (s1 _ _ W.p) rfl (T.cl 1 rfl) (T.mt 48 rfl) (xD (P:=P) (w:=w) T) hr.m (T.bi 48 rfl) (ag0 (y0 (W.same s1) (fun l0 hl0=>?_)))
  have nl0:d≠l0:=fun z=>by rw[← z,upd_same] at hl0;cases hl0
  have s2:=s1.trans (Same.new (o:=HO.lst (hs.map V.int)) hl0)
  refine⟨fun m σ H'=>∃ (us left:LI) (n:Nat) (l:Addr) (o4:Option V),m=left.length∧σ=[some (.ref p),some (.int (r:Int)),some (.ref d),some (.ref l),o4]∧H' d=some (.dK (tabV (fun x=>opV (PF ls r hs.length hs x)) us))∧H' l=some (.lst (left.map V.int))∧left=hs.filter (fun x=>decide (x∉us))∧us.Nodup∧(∀ x∈us,x∈hs)∧(∀ x∈left,PF ls r hs.length hs x=PF ls r n left x)∧left.length≤n∧Same H H',⟨_,[],hs,hs.length,l0,none,rfl,rfl,?_,upd_same,?_,List.nodup_nil,(fun x hx=>(nomatch hx)),(fun x _=>rfl),Nat.le_refl _,s2⟩,?_⟩
  ·rw[upd_ne nl0]
   exact upd_same
  ·rw[List.filter_eq_self.mpr fun x hx=>by simp]
  rintro m σ H3 ⟨us,left,n,l,o4,rfl,rfl,hd3,hl3,eleft,ndu,hsu,hpf,hln,s3⟩
  refine⟨_,rfl,_,.inl ⟨_,SqL.of hl3,rfl⟩,?_⟩
  have us12:us.length≤12:=Nat.le_trans (xn ndu hsu) l12
  have upl:left.Pairwise (· < ·):=by rw[eleft];exact wh.up.sublist List.filter_sublist
  have hlh:∀ x∈left,x∈hs:=fun x hx=>by rw[eleft] at hx;exact(List.mem_filter.mp hx).1
  have hlu:∀ x∈left,x∉us:=fun x hx=>by rw[eleft] at hx;exact of_decide_eq_true (List.mem_filter.mp hx).2
  cases hcl:left with
  |nil =>
   refine iteN (by rfl) ?_
   have hmem:∀ x,x∈us↔x∈hs:=fun x=>⟨hsu x,fun hx=>Classical.byContradiction fun z=>by
    have:x∈left:=by rw[eleft];exact List.mem_filter.mpr ⟨hx,by simpa using z⟩
    rw[hcl] at this
    cases this⟩
   refine⟨_,rfl,(by show 0≤sizeLine;decide),fun e0 he0=>?_⟩
   have s4:=Same.new (o:=HO.lst []) he0
   have he4:=upd_same (H:=H3) (a:=e0) (o:=HO.lst [])
   generalize upd H3 e0 (HO.lst [])=H4 at *
   refine fun x dx nx ndx nex=>?_
   have m5:Same H4 (upd (upd H4 dx (.own x)) x (.ins 162 dx [])):=(Same.new ndx).updF nx
   refine⟨x,dx,d,e0,PF ls r hs.length hs,us,[],[],rfl,upd_same,m5 _ _ (s4 _ _ hd3),ndu,us12,m5 _ _ he4,⟨rfl,fun i r p h=>by simp at h⟩,Nat.zero_le _,fun dp ob H5 fdp fob x5 W5=>⟨rfl,?_⟩⟩
   have s5:Same H4 H5:=fun b o e=>x5 b o (m5 b o e) (ne_of_none e nx)
   have s35:=s4.trans s5
   have s05:=s3.trans s35
   refine mtV rfl (s05 _ _ W.p) rfl (T.cl 1 rfl) (T.mt 49 rfl) (Yv (P:=P) (w:=w) T) hr.m (T.bi 49 rfl) (ag0 (ut (W.same s05) (fun lq zs hlq Lz=>?_)))
   have s6:=Same.new (o:=HO.lst zs) hlq
   have hl66:=wl.le
   have Bs:Bd (srt ls):=fun q hq=>(wl.bd wh) q (srt_mem.mp hq)
   refine⟨x,dx,dp,ob,lq,PF ls r hs.length hs,paO (pfh ls r hs),us,[],srt ls,zs,rfl,W5.same s6,Vd wh hmem,upd_same,Lz.same s6,Bs,by rw[xM];exact hl66,fun q hq=>?_,fun jd js H7 hjd hj7 ej ps7 s7=>?_⟩
   ·have:=wl.ok q (srt_mem.mp hq)
    exact⟨(hmem _).mpr this.1,(hmem _).mpr this.2.1⟩
   have s37:=s35.trans (s6.trans s7)
   have hd7:=s37 _ _ hd3
   have ljs:js.length≤66:=by
    have h1:=congrArg List.length ej
    unfold tlJ at h1
    rw[List.length_map] at h1
    have h2:=Zo (lf:=ldr (paO (pfh ls r hs))) (ls:=srt ls)
    rw[xM] at h2
    omega
   refine⟨_,rfl,_,rfl,jd,kvJ js,js.map (·.2),rfl,hj7,?_,by rw[List.length_map];exact ljs,ps7,fun sl qs hsl pm up=>?_⟩
   ·unfold kvJ
    rw[List.map_map,List.map_map]
    rfl
   have s8:=Same.new (o:=HO.lst (qs.map fun p=>V.ref p.1)) hsl
   have L8:=(xm ps7 pm up).same s8
   have eb:(js.map (·.2)).map (·.2)=(jn (lfh ls r hs) (srt ls)).map (·.2):=by
    rw[← ej]
    unfold tlJ
    rw[List.map_map,List.map_map]
    rfl
   rw[eb] at L8
   have hsl8:=upd_same (H:=H7) (a:=sl) (o:=HO.lst (qs.map fun p=>V.ref p.1))
   generalize qs.map (fun p=>V.ref p.1)=zs8 at *
   generalize upd H7 sl (HO.lst zs8)=H8 at *
   refine fun x2 dx2 nx2 ndx2 nex2=>?_
   have m9:Same H8 (upd (upd H8 dx2 (.own x2)) x2 (.ins 162 dx2 [])):=(Same.new ndx2).updF nx2
   refine⟨x2,dx2,d,sl,PF ls r hs.length hs,us,zs8,brs ls r hs,rfl,upd_same,m9 _ _ (s8 _ _ hd7),ndu,us12,m9 _ _ hsl8,L8.same m9,Nat.le_trans Xa (Nat.le_trans hl66 (by decide)),fun dp2 ob2 H9 fdp2 fob2 x9 W9=>⟨rfl,?_⟩⟩
   have s9:Same H8 H9:=fun b o e=>x9 b o (m9 b o e) (ne_of_none e nx2)
   exact k x2 dx2 dp2 ob2 us H9 ((s3.trans (s37.trans (s8.trans m9))).free fob2) W9 hmem (s3.trans (s37.trans (s8.trans s9)))
  |cons s0 lt =>
   refine iteB (by rfl) ?_
   refine⟨_,fun σ' H' h=>h,?_⟩
   rw[hcl] at hl3 upl hlh hlu hpf hln
   obtain⟨n',rfl⟩:∃ n',n=n'+1:=⟨n-1,by rw[List.length_cons] at hln;omega⟩
   refine⟨_,rfl,d,rfl,.inl ⟨_,.inl hd3⟩,_,rfl,_,rfl,_,rfl,p,wdx,oh,ol,d0,l,ad,hs,lt,s0,ls,r,rfl,W.same s3,wh,wl,hl3,hlh,upl,fun q cu H4 hq hq4 ndc memc s4=>?_⟩
   have hF:=stp_fp (ls:=ls) (r:=r) (s:=s0) (left:=lt)
   have hcl2:∀ x∈cu,x∈s0::lt:=fun x hx=>by
    have:=(memc x).mp hx
    cases hx0:stp ls r (s0::lt) x with
    |none=>exact absurd hx0 this
    |some e=>exact(hF.mem x e hx0).1
   have ec:tabV (fun x=>opV (par ls (s0::lt) (stp ls r (s0::lt)) x)) cu=tabV (fun x=>opV (PF ls r hs.length hs x)) cu:=yJ fun x hx=>by
    rw[hpf x (hcl2 x hx)]
    show _=opV (if stp ls r (s0::lt) x=none then _ else _)
    rw[if_neg ((memc x).mp hx)]
   rw[ec] at hq4
   have ndq:d≠q:=fun z=>by rw[← z,hd3] at hq;cases hq
   have ndx:(us++cu).Nodup:=by
    rw[List.nodup_append]
    refine⟨ndu,ndc,fun x hx y hy e=>?_⟩
    rw[← e] at hy
    exact hlu x (hcl2 x hy) hx
   have c12:cu.length≤12:=Nat.le_trans (xn ndc fun x hx=>hlh x (hcl2 x hx)) l12
   refine⟨q,_,_,rfl,ndq,s4 _ _ hd3,hq4,by rw[tabV_len,tabV_len];omega,?_⟩
   rw[xL ndx]
   have s5:Same H (upd H4 d (HO.dK (tabV (fun x=>opV (PF ls r hs.length hs x)) (us++cu)))):=Same.updF (s3.trans s4) hd
   have hd5:=upd_same (H:=H4) (a:=d) (o:=HO.dK (tabV (fun x=>opV (PF ls r hs.length hs x)) (us++cu)))
   have ndl:l≠d:=fun z=>by rw[z,hd3] at hl3;cases hl3
   have hl5:(upd H4 d (HO.dK (tabV (fun x=>opV (PF ls r hs.length hs x)) (us++cu)))) l=some (.lst ((s0::lt).map V.int)):=by rw[upd_ne ndl];exact s4 _ _ hl3
   generalize upd H4 d (HO.dK (tabV (fun x=>opV (PF ls r hs.length hs x)) (us++cu)))=H5 at *
   refine⟨_,rfl,l,rfl,⟨_,SqL.of hl5⟩,fun D hD _=>?_⟩
   have nDd:D≠d:=fun z=>by rw[z,hd5] at hD;cases hD
   refine ya (K:=K) (a:=l) (xs:=(s0::lt).map V.int) (fun i zs τ H'=>∃ (o:Option V),τ=[o,some (.ref d)]∧zs=(((s0::lt).take i).filter fun x=>decide (x∉us++cu)).map V.int∧H'=upd H5 D (.lst zs)) ?_ ?_ ?_ ?_
   ·exact⟨none,rfl,rfl,rfl⟩
   ·rintro i zs τ H' ⟨o,_,_,rfl⟩
    exact SqL.of (by rw[upd_ne (ne_of_none hl5 hD)];exact hl5)
   ·rintro i v zs τ H' hi ⟨o,rfl,rfl,rfl⟩
    rw[List.getElem?_map] at hi
    obtain⟨x,hx,rfl⟩:=Option.map_eq_some_iff.mp hi
    have etk:(s0::lt).take (i+1)=(s0::lt).take i++[x]:=by rw[List.take_add_one,hx];rfl
    have hd6:(upd H5 D (HO.lst ((((s0::lt).take i).filter fun x=>decide (x∉us++cu)).map V.int))) d=some (.dK (tabV (fun x=>opV (PF ls r hs.length hs x)) (us++cu))):=by rw[upd_ne nDd.symm];exact hd5
    have hlen:((((s0::lt).take i).filter fun x=>decide (x∉us++cu)).map V.int).length<sizeLine:=by
     rw[List.length_map]
     have h1:=List.length_filter_le (fun x=>decide (x∉us++cu)) ((s0::lt).take i)
     rw[List.length_take] at h1
     have h2:=xn (List.nodup_iff_pairwise_ne.mpr (upl.imp fun {a b} h=>by omega)) hlh
     exact zu (by omega)
    by_cases c:x∈us++cu
    ·refine⟨_,rfl,_,rfl,d,_,rfl,yN hd6 c,_,rfl,iteN rfl ?_⟩
     refine⟨_,rfl,?_,rfl⟩
     rw[etk,List.filter_append,List.filter_cons_of_neg (by simp[c]),List.filter_nil,List.append_nil]
    ·refine⟨_,rfl,_,rfl,d,none,rfl,Z0 hd6 c,_,rfl,wa ?_⟩
     refine⟨_,rfl,upd_same,hlen,_,rfl,?_,?_⟩
     ·rw[etk,List.filter_append,List.filter_cons_of_pos (by simpa using c),List.filter_nil,List.map_append]
      rfl
     ·rw[xJ]
   ·rintro zs τ H' ⟨o,rfl,rfl,rfl⟩
    rw[List.length_map,List.take_length]
    have enx:(s0::lt).filter (fun x=>decide (x∉us++cu))=nxl ls r (s0::lt):=by
     unfold nxl
     refine List.filter_congr fun x hx=>decide_eq_decide.mpr ?_
     rw[List.mem_append]
     constructor
     ·intro h1
      exact Classical.byContradiction fun z=>h1 (.inr ((memc x).mpr z))
     ·intro h1 h2
      rcases h2 with h2 | h2
      ·exact hlu x hx h2
      ·exact(memc x).mp h2 h1
    have nl:=uE (ls:=ls) (r:=r) (s:=s0) (left:=lt)
    rw[enx]
    refine⟨(nxl ls r (s0::lt)).length,?_,us++cu,nxl ls r (s0::lt),n',D,_,rfl,rfl,?_,upd_same,?_,ndx,fun x hx=>?_,fun x hx=>?_,?_,s5.trans (Same.new hD)⟩
    ·rw[List.length_cons];omega
    ·rw[upd_ne nDd.symm];exact hd5
    ·rw[← enx,← hcl,eleft,List.filter_filter]
     refine List.filter_congr fun x hx=>?_
     rw[← Bool.decide_and]
     refine decide_eq_decide.mpr ?_
     rw[List.mem_append]
     constructor
     ·rintro⟨h1,_⟩;exact h1
     ·intro h1
      exact⟨h1,fun z=>h1 (.inl z)⟩
    ·rcases List.mem_append.mp hx with z | z
     ·exact hsu x z
     ·exact hlh x (hcl2 x z)
    ·have hx2:=List.mem_filter.mp hx
     rw[hpf x hx2.1]
     show(if stp ls r (s0::lt) x=none then _ else _)=_
     rw[if_pos (of_decide_eq_true hx2.2)]
    ·rw[List.length_cons] at hln;omega
def Uv (a:Ad) (f:LI→Nat):Sp:=fun vs H Q _=>∃ (p:Addr) (hs:LI) (ls:LP),vs=[.ref p]∧WbP a H p hs ls ∧
 ∀ (q dx dp ob:Addr) (us:LI) (H':Hp),H ob=none→WayAt a H' q (PF ls (f hs) hs.length hs) us (brs ls (f hs) hs) dx dp ob→(∀ x,x∈us↔x∈hs)→Same H H'→Q (.ref q) H'
theorem zbg (T:Txt w K mg a):FnOk P w K mg base CX0 9 248 (dK K 248) ["web"] (Uv a fun _=>0):=by
 have c_by_clusters:Callee P w K mg base "by_clusters" 241 (dK K 241) ["web", "reach"] 8 (Uu a):=⟨VH T,(T.g 12 rfl),(T.fn 12 rfl).kp,(T.bi 12 rfl)⟩
 refine(T.fn 13 rfl).ok (scp 13 rfl) (fun vs H Q E h=>?_) (fun cdv A outer s H vs Q E hr h=>?_)
 ·obtain⟨p,hs,ls,rfl,_⟩:=h
  rfl
 ·obtain⟨p,hs,ls,rfl,W,k⟩:=h
  refine zT (ze (zj (zq c_by_clusters hr.m (zg (zh 0) (yx zi zd))))) ?_
  exact⟨_,rfl,p,hs,ls,0,rfl,W,k⟩
theorem zbf (T:Txt w K mg a):FnOk P w K mg base CX0 9 255 (dK K 255) ["web"] (Uv a List.length):=by
 have c_by_clusters:Callee P w K mg base "by_clusters" 241 (dK K 241) ["web", "reach"] 8 (Uu a):=⟨VH T,(T.g 12 rfl),(T.fn 12 rfl).kp,(T.bi 12 rfl)⟩
 refine(T.fn 14 rfl).ok (scp 14 rfl) (fun vs H Q E h=>?_) (fun cdv A outer s H vs Q E hr h=>?_)
 ·obtain⟨p,hs,ls,rfl,_⟩:=h
  rfl
 ·obtain⟨p,hs,ls,rfl,WP,k⟩:=h
  obtain⟨wdx,oh,ol,d0,ad,W⟩:=WP.at_
  refine zT (ze (zj (zq c_by_clusters hr.m (zg (zh 0) (zQ (zm zF (by rfl) (T.n 0 rfl) yj (zQ (zK (zh 0)) zd)) zd))))) ?_
  refine⟨_,rfl,mtV rfl W.p rfl (T.cl 1 rfl) (T.mt 48 rfl) (xD (P:=P) (w:=w) T) hr.m (T.bi 48 rfl) (ag0 (y0 W (fun l hl=>?_)))⟩
  have s1:=Same.new (o:=HO.lst (hs.map V.int)) hl
  refine⟨l,_,rfl,.inl (SqL.of upd_same),?_⟩
  refine⟨p,hs,ls,hs.length,by rw[List.length_map];rfl,WP.same s1,fun q dx dp ob us H' f' W' hm s'=>k q dx dp ob us H' (s1.free f') W' hm (s1.trans s')⟩
open L2.Sco (PT PsAt)
theorem al {H H':Hp}{p:Addr}{o:HO}(e:L2.upd H p o=H') (hp:H p=none):H' p=some o∧Same H H':=by
 subst e
 exact⟨upd_same,Same.new hp⟩
def zbM (a:Ad):Sp:=fun vs H Q _=>∃ (p dx dp ob:Addr) (pf:Int→Option Int) (pa:Int→LI) (us:LI) (x:Int),vs=[.ref p,.int x]∧WayR a H p pf us dx dp ob∧UpP us pf pa∧x∈us∧∀ (H':Hp),Same H H'→Q (.int (((pa x).length:Int)-1)) H'
theorem u9 {p dx dp ob:Addr}{pf:Int→Option Int}{pa:Int→LI}{us:LI}{x:Int}{H:Hp}{Q:VK}{E:XK}(W:WayR a H p pf us dx dp ob) (U:UpP us pf pa) (hx:x∈us) (k:∀ (H':Hp),Same H H'→Q (.int (((pa x).length:Int)-1)) H'):zbM a [.ref p,.int x] H Q E:=⟨p,dx,dp,ob,pf,pa,us,x,rfl,W,U,hx,k⟩
theorem XI (T:Txt w K mg a):FnOk P w K mg base CX0 2 138 (dK K 138) ["self", "hand"] (zbM a):=by
 refine(T.fn 46 rfl).ok (scp 46 rfl) (fun vs H Q E h=>?_) (fun cdv A outer s H vs Q E hr h=>?_)
 ·obtain⟨p,dx,dp,ob,pf,pa,us,x,rfl,_⟩:=h
  rfl
 ·obtain⟨p,dx,dp,ob,pf,pa,us,x,rfl,W,U,hx,k⟩:=h
  refine zT (ze (zj (zD xA (zm zF (by rfl) (T.n 0 rfl) yj (zQ (zx (zh 0) (zg (zh 1) zd)) zd)) zi))) ?_
  refine mtV rfl W.p rfl (T.cl 0 rfl) (T.mt 44 rfl) (VB (P:=P) (w:=w) T) hr.m (T.bi 44 rfl) ⟨_,rfl,p,dx,dp,ob,pf,us,x,rfl,W,U.cl,hx,fun l ys z hl hz hor=>?_⟩
  refine⟨l,_,rfl,.inl (SqL.of upd_same),_,_,rfl,rfl,?_⟩
  rcases hor with⟨_,h⟩ | ⟨_,h⟩
  ·rw[List.length_map,← (U.en hx).fn h]
   exact k _ (Same.new hl)
  ·exact absurd ⟨_,U.en hx⟩ h
theorem Z8 {d:Addr}{pf:Int→Option Int}{pa:Int→LI}{us:LI}{x:Int}{H:Hp}{Q:VK}{E:XK}(hd:H d=some (.dK (tabV (fun x=>opV (pf x)) us))) (l12:us.length≤12) (U:UpP us pf pa) (hx:x∈us) (k:∀ (l:Addr),H l=none→Q (.ref l) (upd H l (.lst ((pa x).map V.int)))):zan [.ref d,.int x] H Q E:=⟨d,pf,pa,us,x,rfl,hd,l12,U,hx,k⟩
theorem Wv {q:Addr}{x:Int}{rs:List V}{hs:LI}{ls:LP}{H:Hp}{Q:VK}{E:XK}(hq:H q=some (.lst rs)) (L:LnAt H rs ls) (wh:Hs hs) (wl:Ls hs ls) (k:∀ (p:Addr) (H':Hp),H p=none→Same H H'→H' p=some (.lst ((hs.filter (adB ls x)).map V.int))→Q (.ref p) H'):Ut [.ref q,.int x] H Q E:=⟨q,x,rs,hs,ls,rfl,hq,L,wh,wl,k⟩
structure Le (hs:LI) (ls:LP) (pf:Int→Option Int) (pa:Int→LI) (bs:LP):Prop where
 ad:∀ x∈hs,∀ y,pf x=some y→adB ls x y=true
 br:∀ b∈bs,b∈ls∧ldr pa b.1≠ldr pa b.2
 cov:∀ p∈ls,ldr pa p.1≠ldr pa p.2→∃ b∈bs,jk (ldr pa) b=jk (ldr pa) p
def zbJ:Sp:=fun vs H Q _=>∃ (h q d l:Addr) (rs rb:List V) (hs us:LI) (ls bs:LP) (pf:Int→Option Int) (pa:Int→LI),vs=[.ref h,.ref q,.ref d,.ref l]∧H h=some (.lst (hs.map V.int))∧H q=some (.lst rs)∧LnAt H rs ls∧Hs hs∧Ls hs ls∧H d=some (.dK (tabV (fun x=>opV (pf x)) us))∧(∀ x,x∈us↔x∈hs)∧us.length≤12∧UpP us pf pa∧H l=some (.lst rb)∧LnAt H rb bs∧BrL hs bs∧bs.length≤66 ∧
 ∀ (b:Bool) (H':Hp),(b=true↔Le hs ls pf pa bs)→Same H H'→Q (.bl b) H'
theorem zba (T:Txt w K mg a):FnOk P w K mg base CX0 3 464 (dK K 464) ["_law_hands_here", "_law_lines_here", "_law_parents", "_law_bridges"] zbJ:=by
 have c__law_near:Callee P w K mg base "_law_near" 452 (dK K 452) ["_law_lines_here", "_law_hand"] 1 Ut:=⟨VE T,(T.g 33 rfl),(T.fn 33 rfl).kp,(T.bi 33 rfl)⟩
 have c__law_up:Callee P w K mg base "_law_up" 459 (dK K 459) ["_law_parents", "_law_hand"] 1 zan:=⟨UM T,(T.g 34 rfl),(T.fn 34 rfl).kp,(T.bi 34 rfl)⟩
 refine(T.fn 35 rfl).ok (scp 35 rfl) (fun vs H Q E h=>?_) (fun cdv A outer s H vs Q E hr h=>?_)
 ·obtain⟨h,q,d,l,rs,rb,hs,us,ls,bs,pf,pa,rfl,_⟩:=h
  rfl
 ·obtain⟨h,q,d,l,rs,rb,hs,us,ls,bs,pf,pa,rfl,hh,hq,L,wh,wl,hd,hm,l12,U,hl,Lb,BL,lb66,k⟩:=h
  have hu:=yA hr
  have un:∀ n:Nat,n≤8→(A.deeper (PyProof.Rows.envOfC "_law_lets" (defScope (top 50)) s.heap.objs.size 464 cdv)).units+n+2<cLine:=fun n hn=>by
   have:=hr.units
   omega
  have un70:=un70 hr
  refine zT (w_pss_cons (w_ps_set (i:=4) (scp 35 rfl).nd rfl (Or.inr rfl) xI)
   (w_pss_cons (zG PassesOwn.never rfl (zy (zh 0)) (zk (i:=5) (scp 35 rfl).nd rfl (Or.inl rfl))
    (ze (zB (we (yB (zn wz (zH hu (zh 2) (zh 5) (fun _ _=>rfl)) yD (zC _)) (yr (zn xW (zH hu (zh 2) (zh 5) (fun _ _=>rfl)) (zq c__law_near hr.m (zg (zh 1) (zg (zh 5) zd))) (by with_unfolding_all rfl)))))
     (ze (zj zE))
     zo)))
   (w_pss_cons (zG PassesOwn.never rfl (zy (zh 0)) (zk (i:=5) (scp 35 rfl).nd rfl (Or.inl rfl))
    (ze (wk hu (zh 4) (zh 5) (zL ye (zq c__law_up hr.m (zg (zh 2) (zg (zh 5) zd))) (xj xU zi) (fun _ _=>rfl)) rfl)))
   (w_pss_cons (zG PassesOwn.never rfl (zy (zh 3)) (zZ rfl (zp (zk (i:=6) (scp 35 rfl).nd rfl (Or.inl rfl)) (zp (zk (i:=7) (scp 35 rfl).nd rfl (Or.inl rfl)) zP)))
    (ze (zB (we (yc (zn vY (zR (zg (zh 6) (zg (zh 7) zd))) (zh 1) (by with_unfolding_all rfl)) (z6 (zn xR (zH hu (zh 4) (zh 6) (fun _ _=>rfl)) (zH hu (zh 4) (zh 7) (fun _ _=>rfl)) (zC _)))))
     (ze (zj zE))
     zo)))
   (w_pss_cons (yC (i:=8) rfl (scp 35 rfl).nd rfl (Or.inl rfl) (N':=["_law_one", "_law_other", "_law_leads"]) (t:=2) (caps:=[4]) ⟨rfl,rfl,rfl⟩ (zy (zh 3)) (fun _=>(zZ rfl (zp (zk (i:=0) (show(["_law_one", "_law_other", "_law_leads"]:List Str).Nodup by decide +kernel) rfl (Or.inl rfl)) (zp (zk (i:=1) (show(["_law_one", "_law_other", "_law_leads"]:List Str).Nodup by decide +kernel) rfl (Or.inl rfl)) zP)))) (fun _=>yk) (fun _=>(zm yo (by rfl) (T.n 6 rfl) zW (zr (zM (zr (zH hu (zh 2) (zh 0) (fun _ _=>rfl)) (zr (zH hu (zh 2) (zh 1) (fun _ _=>rfl)) zd))) zd))))
   (w_pss_cons (zG PassesOwn.never rfl (zy (zh 1)) (zZ rfl (zp (zk (i:=6) (scp 35 rfl).nd rfl (Or.inl rfl)) (zp (zk (i:=7) (scp 35 rfl).nd rfl (Or.inl rfl)) zP)))
    (ze (zB (we (yB (zn x6 (zH hu (zh 4) (zh 6) (fun _ _=>rfl)) (zH hu (zh 4) (zh 7) (fun _ _=>rfl)) (zC _)) (yr (zn wA (zm yo (by rfl) (T.n 6 rfl) zW (zr (zM (zr (zH hu (zh 4) (zh 6) (fun _ _=>rfl)) (zr (zH hu (zh 4) (zh 7) (fun _ _=>rfl)) zd))) zd)) (zh 8) (by with_unfolding_all rfl)))))
     (ze (zj zE))
     zo)))
   (ze (zj zE)))))))) ?_
  refine fun e he=>?_
  generalize hE:L2.upd H e _=H1
  obtain⟨e1,y1⟩:=al hE he
  clear hE
  have hh1:=y1 _ _ hh
  refine⟨_,rfl,h,rfl,⟨_,SqL.of hh1⟩,?_⟩
  refine for_list (K:=K) (a:=h) (xs:=hs.map V.int) (fun i σ G=>∃ o5:Option V,σ=[some (.ref h),some (.ref q),some (.ref d),some (.ref l),some (.ref e),o5,none,none,none]∧Same H1 G∧∀ x∈hs.take i,∀ y,pf x=some y→adB ls x y=true) ?_ ?_ ?_ ?_
  ·exact⟨none,rfl,Same.refl _,fun x hx=>by simp at hx⟩
  ·rintro i σ G _ ⟨o5,_,sm,_⟩
   exact SqL.of (sm _ _ hh1)
  ·rintro i v σ G hi ⟨o5,rfl,sm,gd⟩
   rw[List.getElem?_map] at hi
   obtain⟨x,hx,rfl⟩:=Option.map_eq_some_iff.mp hi
   have hxh:=List.mem_of_getElem? hx
   have hxu:=(hm x).mpr hxh
   have etk:hs.take (i+1)=hs.take i++[x]:=by rw[List.take_add_one,hx];rfl
   have gd2:(∀ y,pf x=some y→adB ls x y=true)→∀ u∈hs.take (i+1),∀ y,pf u=some y→adB ls u y=true:=fun h u hu=>by
    rw[etk] at hu
    rcases List.mem_append.mp hu with e | e
    ·exact gd u e
    ·rw[List.mem_singleton.mp e];exact h
   have sm0:=y1.trans sm
   have tg:=yN (sm0 _ _ hd) hxu
   refine⟨_,rfl,_,rfl,d,_,rfl,tg,?_⟩
   cases hpx:pf x with
   |none=>exact⟨rfl,_,rfl,iteN rfl ⟨_,rfl,sm,gd2 fun y h=>by rw[hpx] at h;cases h⟩⟩
   |some y =>
    rw[hpx] at tg
    refine⟨rfl,_,rfl,wa ?_⟩
    refine⟨_,rfl,_,rfl,d,_,rfl,tg,cl2 rfl rfl (Wv (sm0 _ _ hq) (L.same sm0) wh wl (fun ln G2 hln s2 hln2=>?_))⟩
    have hin:inV (.int y) ((hs.filter (adB ls x)).map V.int)=adB ls x y:=by
     rw[yP,Bool.eq_iff_iff,decide_eq_true_eq,List.mem_filter]
     exact⟨fun h=>h.2,fun h=>⟨(hm y).mp (U.cl x hxu y hpx),h⟩⟩
    refine⟨ln,_,rfl,.inl (SqL.of hln2),rfl,yu _,_,rfl,?_⟩
    cases hb:adB ls x y with
    |true=>exact iteN (by show(!inV (.int y) _)=false;rw[hin,hb];rfl) ⟨_,rfl,sm.trans s2,gd2 fun y' h=>by rw[hpx] at h;cases h;exact hb⟩
    |false =>
     refine iteB (by show(!inV (.int y) _)=true;rw[hin,hb];rfl) ?_
     refine k false _ ⟨fun z=>(nomatch z),fun h=>?_⟩ (sm0.trans s2)
     rw[h.ad x hxh y hpx] at hb
     cases hb
  rintro σ G ⟨o5,rfl,sm,gad⟩
  rw[List.length_map,List.take_length] at gad
  refine⟨_,rfl,h,rfl,⟨_,SqL.of (sm _ _ hh1)⟩,?_⟩
  refine for_list (K:=K) (a:=h) (xs:=hs.map V.int) (fun i σ G=>∃ o5:Option V,σ=[some (.ref h),some (.ref q),some (.ref d),some (.ref l),some (.ref e),o5,none,none,none]∧G e=some (.dK (tabV (fun x=>.int (ldr pa x)) (hs.take i)))∧Same H G) ?_ ?_ ?_ ?_
  ·exact⟨_,rfl,sm _ _ e1,y1.trans sm⟩
  ·rintro i σ G _ ⟨o5,_,_,sm⟩
   exact SqL.of (sm _ _ hh)
  ·rintro i v σ G hi ⟨o5,rfl,ge,sm⟩
   rw[List.getElem?_map] at hi
   obtain⟨x,hx,rfl⟩:=Option.map_eq_some_iff.mp hi
   have hxu:=(hm x).mpr (List.mem_of_getElem? hx)
   have hil:i<hs.length:=(List.getElem?_eq_some_iff.mp hx).1
   have h12:=wh.l12
   have etk:hs.take (i+1)=hs.take i++[x]:=by rw[List.take_add_one,hx];rfl
   have hnew:x∉hs.take i:=by
    have nd:hs.Nodup:=wh.up.imp fun h=>by omega
    rw[← List.take_append_drop (i+1) hs,etk,List.append_assoc,List.nodup_append] at nd
    exact fun z=>nd.2.2 x z x (by simp) rfl
   obtain⟨⟨ys,ey⟩,_⟩:=U.ld hxu
   refine cl2 rfl rfl (Z8 (sm _ _ hd) l12 U hxu (fun lu hlu=>?_))
   have n1:=Same.new (o:=HO.lst ((pa x).map V.int)) hlu
   refine⟨_,rfl,lu,_,-1,_,rfl,rfl,SqL.of upd_same,by rw[ey,List.map_append];exact at_last,_,rfl,_,rfl,e,_,rfl,DPut.k (k:=.inl x) (n1 _ _ ge) (by rw[tabV_len,List.length_take];exact zu (by omega)),?_⟩
   refine⟨_,rfl,?_,(sm.trans n1).updF he⟩
   rw[upd_same,u4 hnew,etk]
   refine congrArg (fun z=>some (HO.dK z)) (yJ fun y _=>?_)
   by_cases z:y=x
   ·rw[if_pos z,z]
   ·rw[if_neg z]
  rintro σ G ⟨o5,rfl,ge,sm⟩
  rw[List.length_map,List.take_length] at ge
  have dg:∀ {F:Hp}{x:Int},F e=some (.dK (tabV (fun x=>.int (ldr pa x)) hs))→x∈hs→DGet F e (V.int x) (some (V.int (ldr pa x))):=fun g hx=>yN g hx
  have hl0:=sm _ _ hl
  have Lb0:=Lb.same sm
  refine⟨_,rfl,l,rfl,⟨_,SqL.of hl0⟩,?_⟩
  refine for_list (K:=K) (a:=l) (xs:=rb) (fun i σ F=>∃ o6 o7:Option V,σ=[some (.ref h),some (.ref q),some (.ref d),some (.ref l),some (.ref e),o5,o6,o7,none]∧Same G F∧∀ b∈bs.take i,b∈ls∧ldr pa b.1≠ldr pa b.2) ?_ ?_ ?_ ?_
  ·exact⟨_,_,rfl,Same.refl _,fun x hx=>by simp at hx⟩
  ·rintro i σ F _ ⟨o6,o7,_,s1,_⟩
   exact SqL.of (s1 _ _ hl0)
  ·rintro i v σ F hi ⟨o6,o7,rfl,s1,gd⟩
   obtain⟨b,t,hp,rfl,ht⟩:=(Lb0.same s1).get hi
   have hbm:=List.mem_of_getElem? hp
   have etk:bs.take (i+1)=bs.take i++[b]:=by rw[List.take_add_one,hp];rfl
   obtain⟨b1,b2⟩:=BL b hbm
   obtain⟨ps,f1,f2,f3⟩:=(L.same (sm.trans s1)).prs
   have hq1:F q=some (.lst (ps.map fun p=>V.ref p.1)):=by rw[f1];exact s1 _ _ (sm _ _ hq)
   refine⟨t,_,rfl,SqT.of ht,rfl,_,_,rfl,_,_,rfl,rfl,?_⟩
   refine⟨_,rfl,_,rfl,(by show 2≤sizeLine;decide),fun t2 ht2=>?_⟩
   have n1:=Same.new (o:=HO.tup [V.int b.1,V.int b.2]) ht2
   refine⟨_,rfl,q,t2,ps,b.1,b.2,rfl,rfl,SqL.of (n1 _ _ hq1),fun p hp=>n1 _ _ (f3 p hp),upd_same,un 3 (by omega),_,rfl,?_⟩
   rw[f2]
   generalize L2.upd F t2 _=F1 at *
   by_cases c1:b∈ls
   ·refine iteN (by show(!decide (b∈ls))=false;simp[c1]) ?_
    have ge1:=n1 _ _ (s1 _ _ ge)
    refine⟨_,rfl,_,rfl,e,_,rfl,dg ge1 b1,_,rfl,_,rfl,e,_,rfl,dg ge1 b2,rfl,_,rfl,?_⟩
    by_cases c2:ldr pa b.1=ldr pa b.2
    ·refine iteB (by rw[c2];simp) (k false _ ⟨fun z=>(nomatch z),fun h=>absurd c2 (h.br b hbm).2⟩ (sm.trans (s1.trans n1)))
    ·refine iteN (decide_eq_false fun z=>c2 (by injection z)) ⟨_,_,rfl,s1.trans n1,fun u hu=>?_⟩
     rw[etk] at hu
     rcases List.mem_append.mp hu with z | z
     ·exact gd u z
     ·rw[List.mem_singleton.mp z];exact⟨c1,c2⟩
   ·exact iteB (by show(!decide (b∈ls))=true;simp[c1]) (k false _ ⟨fun z=>(nomatch z),fun h=>absurd (h.br b hbm).1 c1⟩ (sm.trans (s1.trans n1)))
  rintro σ G1 ⟨o6,o7,rfl,s1,gbr⟩
  rw[Lb.1,List.take_length] at gbr
  have sm1:=sm.trans s1
  have ge1:=s1 _ _ ge
  have Lb1:=Lb.same sm1
  have hl1:=sm1 _ _ hl
  refine⟨_,rfl,l,rfl,⟨_,SqL.of hl1⟩,fun D hD _=>?_⟩
  refine ya (K:=K) (a:=l) (xs:=rb) (fun i zs τ F=>∃ (o1 o2:Option V) (ps:List (Addr×LI)),τ=[o1,o2,some (.ref e)]∧zs=ps.map (fun p=>V.ref p.1)∧ps.map (·.2)=(bs.take i).map (fun b=>[min (ldr pa b.1) (ldr pa b.2),max (ldr pa b.1) (ldr pa b.2)])∧(∀ p∈ps,F p.1=some (.lst (p.2.map V.int))∧p.1≠D)∧F D=some (.lst zs)∧Same G1 F) ?_ ?_ ?_ ?_
  ·exact⟨none,none,[],rfl,rfl,by simp,fun p hp=>(nomatch hp),upd_same,Same.new hD⟩
  ·rintro i zs τ F ⟨o1,o2,ps,_,_,_,_,_,s2⟩
   exact SqL.of (s2 _ _ hl1)
  ·rintro i v zs τ F hi ⟨o1,o2,ps,rfl,rfl,e2,hps,hDF,s2⟩
   obtain⟨b,t,hp,rfl,ht⟩:=(Lb1.same s2).get hi
   have hbm:=List.mem_of_getElem? hp
   have etk:bs.take (i+1)=bs.take i++[b]:=by rw[List.take_add_one,hp];rfl
   have hil:i<bs.length:=(List.getElem?_eq_some_iff.mp hp).1
   have lps:=congrArg List.length e2
   rw[List.length_map,List.length_map,List.length_take] at lps
   obtain⟨b1,b2⟩:=BL b hbm
   have ge2:=s2 _ _ ge1
   refine⟨t,_,rfl,SqT.of ht,rfl,_,_,rfl,_,_,rfl,rfl,?_⟩
   refine vE ?_
   refine⟨_,rfl,_,rfl,e,_,rfl,dg ge2 b1,_,rfl,_,rfl,e,_,rfl,dg ge2 b2,(by show 2≤sizeLine;decide),fun p1 hp1=>?_⟩
   have n1:=Same.new (o:=HO.lst [V.int (ldr pa b.1),V.int (ldr pa b.2)]) hp1
   refine⟨p1,[ldr pa b.1,ldr pa b.2],rfl,SqL.of upd_same,(by show 2<64;decide),fun p2 ms hp2 pm up=>?_⟩
   rw[yH pm up]
   have n2:=n1.trans (Same.new (o:=HO.lst ([min (ldr pa b.1) (ldr pa b.2),max (ldr pa b.1) (ldr pa b.2)].map V.int)) hp2)
   have nD:p2≠D:=fun z=>by rw[z,n1 _ _ hDF] at hp2;cases hp2
   refine⟨n2 _ _ hDF,by rw[List.length_map];exact zu (by omega),_,_,ps++[(p2,[min (ldr pa b.1) (ldr pa b.2),max (ldr pa b.1) (ldr pa b.2)])],rfl,by simp,by rw[etk,List.map_append,List.map_append,e2];rfl,fun p hp=>?_,upd_same,(s2.trans n2).updF hD⟩
   rcases List.mem_append.mp hp with z | z
   ·obtain⟨z1,z2⟩:=hps p z
    exact⟨by rw[upd_ne z2];exact n2 _ _ z1,z2⟩
   ·rw[List.mem_singleton.mp z]
    exact⟨by rw[upd_ne nD];exact upd_same,nD⟩
  rintro zs τ G2 ⟨o1,o2,ps,rfl,rfl,e2,hps,hDF,s2⟩
  rw[Lb.1,List.take_length] at e2
  have sm2:=sm1.trans s2
  have ge2:=s2 _ _ ge1
  have hq2:=sm2 _ _ hq
  refine⟨_,rfl,q,rfl,⟨_,SqL.of hq2⟩,?_⟩
  refine for_list (K:=K) (a:=q) (xs:=rs) (fun i σ F=>∃ o6 o7:Option V,σ=[some (.ref h),some (.ref q),some (.ref d),some (.ref l),some (.ref e),o5,o6,o7,some (.ref D)]∧Same G2 F∧∀ p∈ls.take i,ldr pa p.1≠ldr pa p.2→∃ b∈bs,jk (ldr pa) b=jk (ldr pa) p) ?_ ?_ ?_ ?_
  ·exact⟨_,_,rfl,Same.refl _,fun x hx=>by simp at hx⟩
  ·rintro i σ F _ ⟨o6,o7,_,s3,_⟩
   exact SqL.of (s3 _ _ hq2)
  ·rintro i v σ F hi ⟨o6,o7,rfl,s3,gd⟩
   obtain⟨b,t,hp,rfl,ht⟩:=(L.same (sm2.trans s3)).get hi
   have hbm:=List.mem_of_getElem? hp
   have etk:ls.take (i+1)=ls.take i++[b]:=by rw[List.take_add_one,hp];rfl
   obtain⟨b1,b2,_⟩:=wl.ok b hbm
   have ge3:=s3 _ _ ge2
   have gd2:(ldr pa b.1≠ldr pa b.2→∃ c∈bs,jk (ldr pa) c=jk (ldr pa) b)→∀ p∈ls.take (i+1),ldr pa p.1≠ldr pa p.2→∃ b∈bs,jk (ldr pa) b=jk (ldr pa) p:=fun h u hu=>by
    rw[etk] at hu
    rcases List.mem_append.mp hu with z | z
    ·exact gd u z
    ·rw[List.mem_singleton.mp z];exact h
   refine⟨t,_,rfl,SqT.of ht,rfl,_,_,rfl,_,_,rfl,rfl,?_⟩
   refine⟨_,rfl,_,rfl,e,_,rfl,dg ge3 b1,_,rfl,_,rfl,e,_,rfl,dg ge3 b2,rfl,_,rfl,?_⟩
   by_cases c2:ldr pa b.1=ldr pa b.2
   ·exact iteN (by rw[c2];simp) ⟨_,_,rfl,s3,gd2 fun z=>absurd c2 z⟩
   refine iteB (by have:decide (V.int (ldr pa b.1)=V.int (ldr pa b.2))=false:=decide_eq_false fun z=>c2 (by injection z);rw[this];rfl) ?_
   refine⟨_,rfl,_,rfl,e,_,rfl,dg ge3 b1,_,rfl,_,rfl,e,_,rfl,dg ge3 b2,(by show 2≤sizeLine;decide),fun p1 hp1=>?_⟩
   have n1:=Same.new (o:=HO.lst [V.int (ldr pa b.1),V.int (ldr pa b.2)]) hp1
   refine⟨p1,[ldr pa b.1,ldr pa b.2],rfl,SqL.of upd_same,(by show 2<64;decide),fun p2 ms hp2 pm up=>?_⟩
   rw[yH pm up]
   have n2:=n1.trans (Same.new (o:=HO.lst ([min (ldr pa b.1) (ldr pa b.2),max (ldr pa b.1) (ldr pa b.2)].map V.int)) hp2)
   have s4:=s3.trans n2
   refine⟨_,rfl,D,p2,ps,[min (ldr pa b.1) (ldr pa b.2),max (ldr pa b.1) (ldr pa b.2)],rfl,rfl,SqL.of (s4 _ _ hDF),fun p hp=>s4 _ _ (hps p hp).1,upd_same,un70,_,rfl,?_⟩
   rw[e2]
   have jb:[min (ldr pa b.1) (ldr pa b.2),max (ldr pa b.1) (ldr pa b.2)]∈bs.map (fun b=>[min (ldr pa b.1) (ldr pa b.2),max (ldr pa b.1) (ldr pa b.2)])↔∃ c∈bs,jk (ldr pa) c=jk (ldr pa) b:=by
    rw[List.mem_map]
    constructor
    ·rintro⟨c,h1,h2⟩
     simp only[List.cons.injEq,and_true] at h2
     exact⟨c,h1,Prod.ext h2.1 h2.2⟩
    ·rintro⟨c,h1,h2⟩
     exact⟨c,h1,by rw[show min (ldr pa c.1) (ldr pa c.2)=(jk (ldr pa) c).1 from rfl,show max (ldr pa c.1) (ldr pa c.2)=(jk (ldr pa) c).2 from rfl,h2];rfl⟩
   by_cases c3:∃ c∈bs,jk (ldr pa) c=jk (ldr pa) b
   ·exact iteN (by show(!decide _)=false;rw[decide_eq_true (jb.mpr c3)];rfl) ⟨_,_,rfl,s4,gd2 fun _=>c3⟩
   ·exact iteB (by show(!decide _)=true;rw[decide_eq_false fun z=>c3 (jb.mp z)];rfl) (k false _ ⟨fun z=>(nomatch z),fun h=>absurd (h.cov b hbm c2) c3⟩ (sm2.trans s4))
  rintro σ F ⟨o6,o7,rfl,s3,gcv⟩
  rw[L.1,List.take_length] at gcv
  exact k true _ ⟨fun _=>⟨gad,gbr,gcv⟩,fun _=>rfl⟩ (sm2.trans s3)
end
end K04
namespace HT
open PySem PySem.Spec PyProof.Rows
theorem Xy (A:Around) (s:Shared) (a:Int) (t:Tok) (c:Int) (u:Tok) (prog:Program) (w:World) (E:Value→Shared→Prop) (Q:Value→Shared→Prop) (h:Q (.bool (decide (c<a))) s) :
  wpAny (model prog w) A (richCompare .Gt (.int a t) (.int c u)) Q E s :=
 (PyProof.Rows.gt_int h:wpAny (model prog w) A (compareOp .Gt (.int a t) (.int c u)) Q E s)
section
open PySem.SeqAt
open PySem.AutoSeq1 (wpAny_loadPart')
open PySem.MeetsSeq PySem.MeetsSeq2 PySem.MeetsSeq3
theorem vh (l b:Addr) (items items2:Array Value) (n n2:Nat) (dd dd2:Option Addr) (sl sl2:Array (Option Value)) (ns ms:LI) (hi:IntsAre items.toList ns) (hj:IntsAre items2.toList ms) :
  Meets (Builtin.«tuple.__gt__» ⟨[.ref l,.ref b],[]⟩)
   (fun _ R s=>s.heap.get? l=some { cls:=.type "tuple",dict:=dd,data:=.seq items n,slots:=sl }∧s.heap.get? b=some { cls:=.type "tuple",dict:=dd2,data:=.seq items2 n2,slots:=sl2 } ∧
    R (.ok (.ret (.bool (lexLt ms ns)))) s) :=
 .of_wp fun prog w A R s h=>by
  obtain⟨hp,g,d,tk,os⟩:=s;obtain⟨hl,hb,h⟩:=h
  have f2:=AutoSeq1.sub_tuple_tuple
  have z1:items.size=ns.length:=by rw[← hi.length];simp
  have z2:items2.size=ms.length:=by rw[← hj.length];simp
  wp_walk using wpAny_loadPart' hl,wpAny_loadPart' hb,wpAny_forIn_list _ (fun rest b s'=>b.1=none∧s'=⟨hp,g,d,tk,os⟩∧∃ (vs ws:List Value) (ns' ms':LI),rest=vs.zip ws ∧
   IntsAre vs ns'∧IntsAre ws ms'∧ns'.length+items2.size=ms'.length+items.size∧R (.ok (.ret (.bool (lexLt ms' ns')))) ⟨hp,g,d,tk,os⟩) _
  case turn =>
   rintro⟨y,x⟩ rest b s' ⟨hb',rfl,vs,ws,ns',ms',hz,hvi,hwi,hlen,hR⟩
   cases hvi with
   |nil=>rw[List.zip_nil_left] at hz;cases hz
   |cons a t hvi' =>
    cases hwi with
    |nil=>rw[List.zip_nil_right] at hz;cases hz
    |cons c u hwi' =>
     rw[List.zip_cons_cons] at hz
     injection hz with hyx hrest
     injection hyx with hy hx
     subst hy hx
     rw[lexLt_cons] at hR
     simp only[List.length_cons] at hlen
     obtain⟨e,he,hiff⟩:=Wf A.in1 ⟨hp,g,d,tk,os⟩ a t c u
     refine wpAny_bind (he prog w _ _ ?_)
     cases e with
     |true =>
      rw[if_pos (hiff.mp rfl).symm] at hR
      wp_walk
      exact⟨rfl,rfl,_,_,_,_,hrest,hvi',hwi',by omega,hR⟩
     |false =>
      rw[if_neg (fun q=>absurd (hiff.mpr q.symm) Bool.false_ne_true)] at hR
      have hri:=Xy A.in1 ⟨hp,g,d,tk,os⟩ a t c u prog w
      wp_walk using hri
      exact⟨_,rfl,by simpa using hR⟩
  case fin =>
   rintro⟨b1,b2⟩ s' ⟨hb',rfl,vs,ws,ns',ms',hz,hvi,hwi,hlen,hR⟩
   simp only at hb'
   subst hb'
   have hv:lexLt ms' ns'=decide (items2.size<items.size):=by
    cases hvi with
    |nil =>
     cases hwi with
     |nil =>
      simp only[List.length_nil] at hlen
      rw[lexLt_nil_nil]
      exact(decide_eq_false (by omega)).symm
     |cons c u hw =>
      simp only[List.length_nil,List.length_cons] at hlen
      rw[wO]
      exact(decide_eq_false (by omega)).symm
    |cons a t hv =>
     cases hwi with
     |nil =>
      simp only[List.length_nil,List.length_cons] at hlen
      rw[wN]
      exact(decide_eq_true (by omega)).symm
     |cons c u hw =>
      rw[List.zip_cons_cons] at hz
      cases hz
   rw[hv] at hR
   wp_walk
   exact⟨_,rfl,by simpa[Builtin.Tuple.tupleCompareSizes] using hR⟩
  case h =>
   exact⟨rfl,rfl,items.toList,items2.toList,ns,ms,rfl,hi,hj,by omega,h⟩
end
section
variable {prog:Program}{w:World}{A:Around}{E:Value→Shared→Prop}{s:Shared}
theorem gt_tupInts {l b:Addr}{items items2:Array Value}{ns ms:LI}{Q:Value→Shared→Prop}(hl:IsTup s.heap l items) (hb:IsTup s.heap b items2) (hi:IntsAre items.toList ns) (hj:IntsAre items2.toList ms)
  (hu:A.units<cLine) (h:Q (.bool (lexLt ms ns)) s):wpAny (model prog w) A (compareOp .Gt (.ref l) (.ref b)) Q E s:=by
 obtain⟨⟨cls,dd,data,sl⟩,ho,hc,n,hd⟩:=id hl
 obtain⟨⟨cls2,dd2,data2,sl2⟩,ho2,hc2,n2,hd2⟩:=id hb
 simp only at hc hd hc2 hd2
 subst hc hd hc2 hd2
 exact richCompare_meets_room (op:=.Gt) ⟨_,ho,rfl⟩ ⟨_,ho2,rfl⟩ PySem.F.slot_tuple_gt PySem.F.entry_tuple_gt (PySem.F.args_tuple_gt_2 _ _) (vh l b items items2 n n2 dd dd2 sl sl2 ns ms hi hj)
  ⟨ho,ho2,show Value.bool (lexLt ms ns)≠Value.notImplemented∧Q (.bool (lexLt ms ns)) s from⟨(fun x=>nomatch x),h⟩⟩ hu
end
end HT
namespace L2
open PySem PySem.Spec PyProof.Rows
section
variable {X:Cx}
def zcl (K:PySem.W.Frag) (A:Around):R2:=fun x y H Q=>∃ a b ns ms,x=.ref a∧y=.ref b∧SqT K H a (ns.map V.int)∧SqT K H b (ms.map V.int)∧A.units<cLine∧Q (.bl (HT.lexLt ms ns)) H
theorem UI:OpR X (compareOp .Gt) (zcl X.K X.A):=by
 intro pins s σ H x y v u Q I rx ry h
 obtain⟨a,b,ns,ms,rfl,rfl,ha,hb,hu,q⟩:=h
 cases rx
 cases ry
 obtain⟨its,r1,p1,_⟩:=I.tuple ha
 obtain⟨its2,r2,p2,_⟩:=I.tuple hb
 exact HT.gt_tupInts p1 p2 (intsAre_of r1:IntsAre its.toArray.toList ns) (intsAre_of r2:IntsAre its2.toArray.toList ms) hu ⟨.bl (HT.lexLt ms ns),H,I,rfl,q⟩
def LL (X:Cx) (x:V) (vs:List V) (H:Hp) (R:List (LI)→LI→Prop):Prop:=∃ (l t:Addr) (ps:List (Addr×LI)) (ns:LI),x=.ref l∧vs=[.ref t]∧H l=some (.lst (ps.map fun p=>V.ref p.1))∧(∀ p∈ps,H p.1=some (.lst (p.2.map V.int)))∧H t=some (.lst (ns.map V.int))∧X.A.units+70<cLine∧R (ps.map (·.2)) ns
theorem V1 {H:Hp}{ps qs:List (Addr×LI)}{ns:LI}(hps:∀ p∈ps,H p.1=some (.lst (p.2.map V.int))) (hq:∀ p∈qs,p∈ps):(qs.map fun p=>Value.ref p.1).countP (fun v=>decide (lsO ps v=ns))=(qs.map (·.2)).count ns:=by
 induction qs with
 |nil=>rfl
 |cons p qs ih =>
  rw[List.map_cons,List.map_cons,List.countP_cons,List.count_cons,ih fun p hp=>hq p (List.mem_cons_of_mem _ hp),xY hps (hq p List.mem_cons_self)]
  congr 1
  by_cases z:p.2=ns
  ·simp[z]
  ·simp[z]
theorem YB:MtM X "list.count" (fun x vs H Q=>LL X x vs H fun ls ns=>Q (.int ((ls.count ns:Nat):Int)) H):=by
 intro pins s σ H x vs v us Q I rx rv h
 obtain⟨l,t,ps,ns,rfl,rfl,hH,hps,ht,hu,q⟩:=h
 cases rx
 obtain⟨u,rfl,ru⟩:=rv.one
 cases ru
 obtain⟨z,its,n,r,hl,e⟩:=I.lstM hH
 obtain rfl:=wf r
 obtain⟨it2,r2,pl2,_⟩:=I.list (SqL.of ht)
 refine call_meets F.slot_list_count ⟨_,e,rfl⟩ F.entry_list_count (F.args_list_count_2 _ _) (SeqAt.list_countAt l _ n _ _ (.ref t) (fun v=>decide (lsO ps v=ns))) ⟨e,fun y hy=>?_,?_⟩
 ·obtain⟨p,hp,rfl⟩:=List.mem_map.mp (List.mem_toArray.mp hy)
  rw[xY hps hp]
  obtain⟨it3,r3,pl3,_⟩:=I.list (SqL.of (hps p hp))
  exact PySem.W.keq_ints pl3.isList (yW r3) pl2.isList (yW r2) (by simp only[yg];omega)
 ·refine⟨.int _,H,I.tok _,⟨s.toks,rfl⟩,?_⟩
  rw[show((ps.map fun p=>Value.ref p.1).toArray.toList)=(ps.map fun p=>Value.ref p.1) by simp,V1 hps fun p hp=>hp]
  exact q
theorem YA:MtM X "list.index" (fun x vs H Q=>LL X x vs H fun ls ns=>∃ j:Nat,ls[j]?=some ns∧(∀ m,m<j→ls[m]?≠some ns)∧Q (.int (j:Int)) H):=by
 intro pins s σ H x vs v us Q I rx rv h
 obtain⟨l,t,ps,ns,rfl,rfl,hH,hps,ht,hu,j,hj,hno,q⟩:=h
 cases rx
 obtain⟨u,rfl,ru⟩:=rv.one
 cases ru
 obtain⟨z,its,n,r,hl,e⟩:=I.lstM hH
 obtain rfl:=wf r
 obtain⟨it2,r2,pl2,_⟩:=I.list (SqL.of ht)
 rw[List.getElem?_map] at hj
 obtain⟨pj,hpj,ej⟩:=Option.map_eq_some_iff.mp hj
 have hjl:j<ps.length:=(List.getElem?_eq_some_iff.mp hpj).1
 rw[List.length_map] at z
 have hsm:(j:Int)<2 ^ 63-1:=by
  have:sizeLine<2 ^ 62:=by decide
  omega
 refine call_meets PySem.F.slot_list_index ⟨_,e,rfl⟩ PySem.F.entry_list_index (PySem.F.args_list_index_2 _ _) (SeqAt.list_indexAt l _ n _ _ (.ref t) (fun v=>decide (lsO ps v=ns)) j (by simpa using hjl) hsm ?_ fun m hm hlt=>?_) ⟨e,fun y hy=>?_,?_⟩
 ·have:=(List.getElem?_eq_some_iff.mp hpj).2
  simp only[List.getElem_toArray,List.getElem_map,this]
  rw[xY hps (List.mem_of_getElem? hpj)]
  exact decide_eq_true ej
 ·have hm2:m<ps.length:=by simpa using hm
  simp only[List.getElem_toArray,List.getElem_map]
  rw[xY hps (List.getElem_mem hm2)]
  refine decide_eq_false fun z=>hno m hlt ?_
  rw[List.getElem?_map,List.getElem?_eq_getElem hm2]
  exact congrArg some z
 ·obtain⟨p,hp,rfl⟩:=List.mem_map.mp (List.mem_toArray.mp hy)
  rw[xY hps hp]
  obtain⟨it3,r3,pl3,_⟩:=I.list (SqL.of (hps p hp))
  exact PySem.W.keq_ints pl3.isList (yW r3) pl2.isList (yW r2) (by simp only[yg];omega)
 ·exact⟨.int _,H,I.tok _,⟨s.toks,rfl⟩,q⟩
end
end L2
namespace K04
open PySem L2 L2.Sco
theorem WT {lf:Int→Int}:∀ {ls:LP}{acc:List ((Int×Int)×(Int×Int))}{j:(Int×Int)×(Int×Int)},j∈ls.foldl (jst lf) acc→j∈acc∨(j.2∈ls∧lf j.2.1≠lf j.2.2∧j.1=jk lf j.2)
 |[],acc,j,h=>.inl h
 |p::ls,acc,j,h=>by
  rw[List.foldl_cons] at h
  rcases WT (ls:=ls) h with h | ⟨h1,h2⟩
  ·unfold jst at h
   split at h
   ·exact .inl h
   ·split at h
    ·exact .inl h
    ·rcases List.mem_append.mp h with h | h
     ·exact .inl h
     ·rw[List.mem_singleton.mp h]
      exact .inr ⟨List.mem_cons_self,by assumption,rfl⟩
  ·exact .inr ⟨List.mem_cons_of_mem _ h1,h2⟩
theorem U6 {lf:Int→Int}:∀ {ls:LP}{acc:List ((Int×Int)×(Int×Int))},(acc.map (·.1)).Nodup→((ls.foldl (jst lf) acc).map (·.1)).Nodup
 |[],acc,h=>h
 |p::ls,acc,h=>by
  rw[List.foldl_cons]
  refine U6 (ls:=ls) ?_
  unfold jst
  split
  ·exact h
  ·split
   ·exact h
   ·rename_i c
    rw[List.map_append,List.nodup_append]
    exact⟨h,by simp,fun u hu v hv e=>c (by rw[List.map_cons,List.map_nil] at hv;have hv:=List.mem_singleton.mp hv;have e:u=jk lf p:=e.trans hv;rw[← e];exact hu)⟩
theorem YK {lf:Int→Int}{acc:List ((Int×Int)×(Int×Int))}{p:Int×Int}{j:(Int×Int)×(Int×Int)}(h:j∈acc):j∈jst lf acc p:=by
 unfold jst
 split
 ·exact h
 ·split
  ·exact h
  ·exact List.mem_append_left _ h
theorem YM {lf:Int→Int}:∀ {ls:LP}{acc:List ((Int×Int)×(Int×Int))}{j:(Int×Int)×(Int×Int)},j∈acc→j∈ls.foldl (jst lf) acc
 |[],acc,j,h=>h
 |p::ls,acc,j,h=>by rw[List.foldl_cons];exact YM (ls:=ls) (YK h)
theorem WS {lf:Int→Int}:∀ {ls:LP}{acc:List ((Int×Int)×(Int×Int))},ls.Pairwise (fun p q=>rkP p≤rkP q)→(∀ j∈acc,∀ p∈ls,rkP j.2≤rkP p)→∀ p∈ls,lf p.1≠lf p.2→∃ j∈ls.foldl (jst lf) acc,j.1=jk lf p∧rkP j.2≤rkP p
 |[],acc,_,_,p,hp,_=>nomatch hp
 |q::ls,acc,hu,ha,p,hp,hn=>by
  rw[List.foldl_cons]
  rw[List.pairwise_cons] at hu
  rcases List.mem_cons.mp hp with e | e
  ·subst e
   by_cases c:jk lf p∈acc.map (·.1)
   ·obtain⟨j,hj,e⟩:=List.mem_map.mp c
    exact⟨j,YM (YK hj),e,ha j hj p List.mem_cons_self⟩
   ·refine⟨(jk lf p,p),YM ?_,rfl,Int.le_refl _⟩
    unfold jst
    rw[if_neg hn,if_neg c]
    exact List.mem_append_right _ (List.mem_singleton.mpr rfl)
  ·refine WS hu.2 (fun j hj x hx=>?_) p e hn
   unfold jst at hj
   split at hj
   ·exact ha j hj x (List.mem_cons_of_mem _ hx)
   ·split at hj
    ·exact ha j hj x (List.mem_cons_of_mem _ hx)
    ·rcases List.mem_append.mp hj with h | h
     ·exact ha j h x (List.mem_cons_of_mem _ hx)
     ·rw[List.mem_singleton.mp h]
      exact hu.1 x hx
structure Bri (ls:LP) (lf:Int→Int) (bs:LP):Prop where
 mem:∀ b∈bs,b∈ls∧lf b.1≠lf b.2
 nd:(bs.map (jk lf)).Nodup
 mn:∀ p∈ls,lf p.1≠lf p.2→∃ b∈bs,jk lf b=jk lf p∧rkP b≤rkP p
theorem bri {ls:LP}{lf:Int→Int}:Bri ls lf (srt ((jn lf (srt ls)).map (·.2))):=by
 have bm:∀ {b},b∈srt ((jn lf (srt ls)).map (·.2))↔∃ j∈jn lf (srt ls),j.2=b:=fun {b}=>by rw[(zX _).mem_iff,List.mem_map]
 have jm:∀ j∈jn lf (srt ls),j.2∈ls∧lf j.2.1≠lf j.2.2∧j.1=jk lf j.2:=fun j hj=>by
  rcases WT hj with h | ⟨h1,h2⟩
  ·cases h
  ·exact⟨srt_mem.mp h1,h2⟩
 refine⟨fun b hb=>?_,?_,fun p hp hn=>?_⟩
 ·obtain⟨j,hj,rfl⟩:=bm.mp hb
  exact⟨(jm j hj).1,(jm j hj).2.1⟩
 ·refine(((zX _).map (jk lf)).nodup_iff).mpr ?_
  rw[List.map_map]
  have:(jn lf (srt ls)).map (jk lf∘(·.2))=(jn lf (srt ls)).map (·.1):=List.map_congr_left fun j hj=>(jm j hj).2.2.symm
  rw[this]
  exact U6 List.nodup_nil
 ·obtain⟨j,hj,e1,e2⟩:=WS (lf:=lf) (acc:=[]) (Z6 ls) (fun j hj=>nomatch hj) p (srt_mem.mpr hp) hn
  exact⟨j.2,bm.mpr ⟨j,hj,rfl⟩,by rw[← e1];exact(jm j hj).2.2.symm,e2⟩
theorem UY {b p:Int×Int}(hb:0≤b.2∧b.2<1000) (hp:0≤p.2∧p.2<1000) (h:rkP b≤rkP p):HT.lexLt [p.1,p.2] [b.1,b.2]=false:=by
 unfold rkP at h
 rw[HT.lexLt_cons,HT.lexLt_cons,HT.lexLt_nil_nil]
 split
 ·split
  ·rfl
  ·exact decide_eq_false (by omega)
 ·exact decide_eq_false (by omega)
noncomputable def jl (lf:Int→Int) (b:Int×Int):LI:=[min (lf b.1) (lf b.2),max (lf b.1) (lf b.2)]
theorem jl_eq {lf:Int→Int}{b c:Int×Int}:jl lf b=jl lf c↔jk lf b=jk lf c:=by
 unfold jl jk
 constructor
 ·intro h
  simp only[List.cons.injEq,and_true] at h
  exact Prod.ext h.1 h.2
 ·intro h
  rw[(Prod.mk.inj h).1,(Prod.mk.inj h).2]
theorem U7 {lf:Int→Int}{bs:LP}(h:(bs.map (jk lf)).Nodup):(bs.map (jl lf)).Nodup:=by
 rw[List.nodup_iff_pairwise_ne,List.pairwise_map] at *
 exact h.imp fun n z=>n (jl_eq.mp z)
end K04
namespace K04
open PySem L2
open L2.Sco (PT PsAt)
section
variable {P:Program}{w:World}{K:PySem.W.Frag}{mg:Str→Option Value}{base:Heap}{a:Ad}
def zbE (a:Ad):Sp:=fun vs H Q _=>∃ (h q p dx dp ob:Addr) (rs:List V) (hs us:LI) (ls bs:LP) (pf:Int→Option Int) (r:Nat) (R:Int),vs=[.ref h,.ref q,.ref p,.int R]∧H h=some (.lst (hs.map V.int))∧H q=some (.lst rs)∧LnAt H rs ls∧Hs hs∧Ls hs ls∧WayAt a H p pf us bs dx dp ob∧(∀ x,x∈us↔x∈hs)∧ByC hs ls r pf bs∧(r:Int)≤R∧∀ (H':Hp),Same H H'→Q (.bl true) H'
theorem za0 (T:Txt w K mg a):FnOk P w K mg base CX0 7 469 (dK K 469) ["_law_hands_here", "_law_lines_here", "_law_way", "_law_reach"] (zbE a):=by
 have c__law_near:Callee P w K mg base "_law_near" 452 (dK K 452) ["_law_lines_here", "_law_hand"] 1 Ut:=⟨VE T,(T.g 33 rfl),(T.fn 33 rfl).kp,(T.bi 33 rfl)⟩
 have c__law_up:Callee P w K mg base "_law_up" 459 (dK K 459) ["_law_parents", "_law_hand"] 1 zan:=⟨UM T,(T.g 34 rfl),(T.fn 34 rfl).kp,(T.bi 34 rfl)⟩
 refine(T.fn 36 rfl).ok (scp 36 rfl) (fun vs H Q E h=>?_) (fun cdv A outer s H vs Q E hr h=>?_)
 ·obtain⟨h,q,p,dx,dp,ob,rs,hs,us,ls,bs,pf,r,R,rfl,_⟩:=h
  rfl
 ·obtain⟨h,q,p,dx,dp,ob,rs,hs,us,ls,bs,pf,r,R,rfl,hh,hq,L,wh,wl,W,hm,B,hR,k⟩:=h
  have hu:=yA hr
  have un:∀ n:Nat,n≤8→(A.deeper (PyProof.Rows.envOfC "_law_right" (defScope (top 51)) s.heap.objs.size 469 cdv)).units+n+2<cLine:=fun n hn=>by
   have:=hr.units
   omega
  have un70:=un70 hr
  have U:UpP us pf (paO pf):=UpP.of (fun x hx y hy=>(hm y).mpr (B.cl x ((hm x).mp hx) y hy)) fun x hx=>B.en x ((hm x).mp hx)
  have Br:Bri ls (ldr (paO pf)) bs:=by rw[B.bs];exact bri
  have l12:=W.l12
  have h12:=wh.l12
  have lb66:bs.length≤66:=by
   rw[B.bs,xM,List.length_map]
   have:=Zo (lf:=ldr (paO pf)) (ls:=srt ls)
   rw[xM] at this
   exact Nat.le_trans this wl.le
  have ndh:hs.Nodup:=wh.up.imp fun h=>by omega
  refine zT (w_pss_cons (w_ps_set (i:=4) (scp 36 rfl).nd rfl (Or.inr rfl) (zK (zh 2)))
   (w_pss_cons (w_ps_set (i:=5) (scp 36 rfl).nd rfl (Or.inr rfl) (yn (ve rfl) (by rfl) (T.n 5 rfl) wI (zr (yd rfl (N':=["_law_hand", "_law_parents"]) (t:=1) (caps:=[4]) ⟨rfl,rfl,rfl⟩ (zy (zh 0)) (fun _=>(zk (i:=0) (show(["_law_hand", "_law_parents"]:List Str).Nodup by decide +kernel) rfl (Or.inl rfl))) (fun _=>yk) (fun _=>(zR (zg (zh 0) (zr (zL ye (zq c__law_up hr.m (zg (zh 1) (zg (zh 0) zd))) (xj xU zi) (fun _ _=>rfl)) zd))))) zd)))
   (yS (zG PassesOwn.never rfl (zy (zh 0)) (zk (i:=6) (scp 36 rfl).nd rfl (Or.inr rfl))
    (w_pss_cons (zB (we (yc (zn x6 (zx (zh 2) (zg (zh 6) zd)) (zH hu (zh 5) (zh 6) (fun _ _=>rfl)) (zC _)) (z6 (zn x6 (zx (zh 2) (zg (zh 6) zd)) (zD xA (zm zF (by rfl) (T.n 0 rfl) yj (zQ (zq c__law_up hr.m (zg (zh 4) (zg (zh 6) zd))) zd)) zi) (zC _)))))
     (ze (zj zE))
     zo)
    (w_pss_cons (zB (we (yc (zn v0 (zx (zh 2) (zg (zh 6) zd)) (zh 3) (zC _)) (z6 (zn v0 (zH hu (zh 5) (zh 6) (fun _ _=>rfl)) (zh 6) (zC _)))))
     (ze (zj zE))
     zo)
    (w_pss_cons (yC (i:=7) rfl (scp 36 rfl).nd rfl (Or.inl rfl) (N':=["_law_other", "_law_leads", "_law_hand"]) (t:=1) (caps:=[5,6]) ⟨rfl,rfl,rfl⟩ (zy (zq c__law_near hr.m (zg (zh 1) (zg (zh 6) zd)))) (fun _=>(zk (i:=0) (show(["_law_other", "_law_leads", "_law_hand"]:List Str).Nodup by decide +kernel) rfl (Or.inl rfl))) (fun _=>(yF (zn xR (zH hu (zh 1) (zh 0) (fun _ _=>rfl)) (zH hu (zh 1) (zh 2) (fun _ _=>rfl)) (zC _)))) (fun _=>(zh 0)))
    (ze (zB (zn WH (yd rfl (N':=["_law_other", "_law_way", "_law_hand"]) (t:=1) (caps:=[2,6]) ⟨rfl,rfl,rfl⟩ (zy (zh 7)) (fun _=>(zk (i:=0) (show(["_law_other", "_law_way", "_law_hand"]:List Str).Nodup by decide +kernel) rfl (Or.inl rfl))) (fun _=>(yF (zn vt (zx (zh 1) (zg (zh 0) zd)) (zD xA (zx (zh 1) (zg (zh 2) zd)) zi) (zC _)))) (fun _=>(zh 0))) (zM zd) (zC _))
     (ze (zj zE))
     zo))))))
   (w_pss_cons (w_ps_set (i:=8) (scp 36 rfl).nd rfl (Or.inr rfl) (yd rfl (N':=["_law_one", "_law_other", "_law_leads"]) (t:=2) (caps:=[5]) ⟨rfl,rfl,rfl⟩ (zy (zK (zh 2))) (fun _=>(zZ rfl (zp (zk (i:=0) (show(["_law_one", "_law_other", "_law_leads"]:List Str).Nodup by decide +kernel) rfl (Or.inl rfl)) (zp (zk (i:=1) (show(["_law_one", "_law_other", "_law_leads"]:List Str).Nodup by decide +kernel) rfl (Or.inl rfl)) zP)))) (fun _=>yk) (fun _=>(zm yo (by rfl) (T.n 6 rfl) zW (zr (zM (zr (zH hu (zh 2) (zh 0) (fun _ _=>rfl)) (zr (zH hu (zh 2) (zh 1) (fun _ _=>rfl)) zd))) zd)))))
   (w_pss_cons (zB (zn WH (yd rfl (N':=["_law_both", "_law_joined"]) (t:=1) (caps:=[8]) ⟨rfl,rfl,rfl⟩ (zy (zh 8)) (fun _=>(zk (i:=0) (show(["_law_both", "_law_joined"]:List Str).Nodup by decide +kernel) rfl (Or.inl rfl))) (fun _=>(yF (zn x6 (yi PySem.F.plainAttrs_list PySem.F.slot_list_count PySem.F.type_list_count YB (zh 1) (zg (zh 0) zd)) zi (zC _)))) (fun _=>(zh 0))) (zM zd) (zC _))
    (ze (zj zE))
    zo)
   (yS (zG PassesOwn.never rfl (zy (zh 1)) (zZ rfl (zp (zk (i:=9) (scp 36 rfl).nd rfl (Or.inl rfl)) (zp (zk (i:=10) (scp 36 rfl).nd rfl (Or.inl rfl)) zP)))
    (w_pss_cons (w_ps_set (i:=11) (scp 36 rfl).nd rfl (Or.inl rfl) (zm yo (by rfl) (T.n 6 rfl) zW (zr (zM (zr (zH hu (zh 5) (zh 9) (fun _ _=>rfl)) (zr (zH hu (zh 5) (zh 10) (fun _ _=>rfl)) zd))) zd)))
    (ze (zB (zn x6 (zL ye (zh 11) zi (fun _ _=>rfl)) (zL ye (zh 11) zi (fun _ _=>rfl)) (zC _))
     (ze (zB (we (yc (zn wA (zh 11) (zh 8) (by with_unfolding_all rfl)) (z6 (zn UI (zL ye (zK (zh 2)) (yi PySem.F.plainAttrs_list PySem.F.slot_list_index PySem.F.type_list_index YA (zh 8) (zg (zh 11) zd)) (fun _ _=>rfl)) (zR (zg (zh 9) (zg (zh 10) zd))) (zC _)))))
      (ze (zj zE))
      zo))
     zo))))
   (ze (zj zE)))))))) ?_
  refine mtV rfl W.p rfl (T.cl 0 rfl) (T.mt 42 rfl) (VI (P:=P) (w:=w) T) hr.m (T.bi 42 rfl) (ag0 (Yf W (fun d H1 _ hd1 y1=>?_)))
  have hh1:=y1 _ _ hh
  refine⟨_,rfl,h,rfl,⟨_,SqL.of hh1⟩,fun D hD _=>?_⟩
  refine ya (K:=K) (a:=h) (xs:=hs.map V.int) (fun i zs τ G'=>∃ (o1:Option V) (qs:List Addr),τ=[o1,some (.ref d)]∧zs=qs.map V.ref∧qs.length=i∧(∀ (j:Nat) (p:Addr) (x:Int),qs[j]?=some p→hs[j]?=some x→G' p=some (.tup [.int x,.int (ldr (paO pf) x)]))∧G' D=some (.lst zs)∧Same H1 G') ?_ ?_ ?_ ?_
  ·exact⟨none,[],rfl,rfl,rfl,fun j q x h=>by simp at h,upd_same,Same.new hD⟩
  ·rintro i zs τ G' ⟨o1,qs,_,_,_,_,_,sm⟩
   exact SqL.of (sm _ _ hh1)
  ·rintro i v zs τ G' hv ⟨o1,qs,rfl,rfl,lq,hqs,hD',sm⟩
   rw[List.getElem?_map] at hv
   obtain⟨x,hx,rfl⟩:=Option.map_eq_some_iff.mp hv
   have hil:i<hs.length:=(List.getElem?_eq_some_iff.mp hx).1
   have hxu:=(hm x).mpr (List.mem_of_getElem? hx)
   obtain⟨⟨ys,ey⟩,_⟩:=U.ld hxu
   unfold v9
   refine vE ?_
   refine⟨_,rfl,cl2 rfl rfl (Z8 (sm _ _ hd1) l12 U hxu (fun lu hlu=>?_))⟩
   refine⟨_,rfl,lu,_,-1,_,rfl,rfl,SqL.of upd_same,by rw[ey,List.map_append];exact at_last,(by show 2≤sizeLine;decide),fun pt hpt=>?_⟩
   have n2:=(Same.new (o:=HO.lst ((paO pf x).map V.int)) hlu).trans (Same.new (o:=HO.tup [V.int x,.int (ldr (paO pf) x)]) hpt)
   have npt:pt≠D:=fun z=>by rw[z,Same.new hlu _ _ hD'] at hpt;cases hpt
   have hDF:=n2 _ _ hD'
   refine⟨hDF,by rw[List.length_map,lq];exact zu (by omega),some (.int x),qs++[pt],rfl,by simp,by simp[lq],fun j p y hj hy'=>?_,upd_same,Same.updF (sm.trans n2) hD⟩
   by_cases hji:j<i
   ·rw[List.getElem?_append_left (by omega)] at hj
    have h1:=n2 _ _ (hqs j p y hj hy')
    rw[upd_ne (fun z=>by rw[z,hDF] at h1;cases h1)]
    exact h1
   ·rw[List.getElem?_append_right (by omega)] at hj
    have:j=i:=by
     have:=(List.getElem?_eq_some_iff.mp hj).1
     simp at this
     omega
    subst this
    rw[lq,Nat.sub_self] at hj
    cases hj
    rw[hx] at hy'
    cases hy'
    rw[upd_ne npt]
    exact upd_same
  rintro zs τ G1 ⟨o1,qs,rfl,rfl,lq,hqs,hD2,y2⟩
  rw[List.length_map] at lq
  refine⟨D,qs,tabV (fun x=>.int (ldr (paO pf) x)) hs,rfl,hD2,by rw[tabV_len];exact lq,by rw[tabV_len];omega,fun i q kv h1 h2=>?_,fun e he=>?_⟩
  ·unfold tabV at h2
   rw[List.getElem?_map] at h2
   obtain⟨x,h3,rfl⟩:=Option.map_eq_some_iff.mp h2
   exact hqs i q x h1 h3
  rw[show mergeK [] (tabV (fun x=>.int (ldr (paO pf) x)) hs)=tabV (fun x=>.int (ldr (paO pf) x)) hs from xL (us:=[]) (vs:=hs) (by simpa using ndh)]
  generalize hE:L2.upd G1 e _=G
  obtain⟨ge,y3⟩:=al hE he
  clear hE
  have sm:=y1.trans (y2.trans y3)
  have hd:=(y2.trans y3) _ _ hd1
  have dg:∀ {F:Hp}{x:Int},F e=some (.dK (tabV (fun x=>.int (ldr (paO pf) x)) hs))→x∈hs→DGet F e (V.int x) (some (V.int (ldr (paO pf) x))):=fun g hx=>yN g hx
  have hh0:=sm _ _ hh
  clear y1 y2 y3 hqs hD2 he hD hh1 hd1
  refine⟨fun σ F=>∃ o6 o7:Option V,σ=[some (.ref h),some (.ref q),some (.ref p),some (.int R),some (.ref d),some (.ref e),o6,o7,none,none,none,none]∧Same G F,?_,?_⟩
  refine⟨_,rfl,h,rfl,⟨_,SqL.of hh0⟩,?_⟩
  refine for_list (K:=K) (a:=h) (xs:=hs.map V.int) (fun i σ F=>∃ o6 o7:Option V,σ=[some (.ref h),some (.ref q),some (.ref p),some (.int R),some (.ref d),some (.ref e),o6,o7,none,none,none,none]∧Same G F) ?_ ?_ ?_ ?_
  ·exact⟨none,none,rfl,Same.refl _⟩
  ·rintro i σ F _ ⟨o6,o7,_,s1⟩
   exact SqL.of (s1 _ _ hh0)
  ·rintro i v σ F hi ⟨o6,o7,rfl,s1⟩
   rw[List.getElem?_map] at hi
   obtain⟨x,hx,rfl⟩:=Option.map_eq_some_iff.mp hi
   have hxh:=List.mem_of_getElem? hx
   have hxu:=(hm x).mpr hxh
   have W1:=W.same (sm.trans s1)
   have ge1:=s1 _ _ ge
   refine mtV rfl W1.p rfl (T.cl 0 rfl) (T.mt 45 rfl) (wB (P:=P) (w:=w) T) hr.m (T.bi 45 rfl) (ag1 rfl (xy W1.r U hxu (fun F2 s2=>?_)))
   refine⟨_,rfl,_,rfl,e,_,rfl,dg (s2 _ _ ge1) hxh,rfl,_,rfl,iteN (by simp) ?_⟩
   have W2:=W1.same s2
   refine mtV rfl W2.p rfl (T.cl 0 rfl) (T.mt 46 rfl) (XI (P:=P) (w:=w) T) hr.m (T.bi 46 rfl) (ag1 rfl (u9 W2.r U hxu (fun F3 s3=>?_)))
   have s13:=s1.trans (s2.trans s3)
   refine cl2 rfl rfl (Z8 (s13 _ _ hd) l12 U hxu (fun lu hlu=>?_))
   generalize hE:L2.upd F3 lu _=F4
   obtain⟨g4,s4⟩:=al hE hlu
   clear hE
   refine⟨lu,_,rfl,.inl (SqL.of g4),_,_,rfl,rfl,rfl,_,rfl,iteN (by simp) ?_⟩
   have s14:=s13.trans s4
   have W4:=W.same (sm.trans s14)
   refine mtV rfl W4.p rfl (T.cl 0 rfl) (T.mt 46 rfl) (XI (P:=P) (w:=w) T) hr.m (T.bi 46 rfl) (ag1 rfl (u9 W4.r U hxu (fun F5 s5=>?_)))
   have dr:=B.dr x hxh
   refine⟨_,rfl,_,_,rfl,rfl,_,rfl,iteN (decide_eq_false (by omega)) ?_⟩
   have s15:=s14.trans s5
   have ge5:=s15 _ _ ge
   refine⟨_,rfl,_,rfl,e,_,rfl,dg ge5 hxh,_,rfl,_,_,rfl,rfl,_,rfl,iteN (decide_eq_false (by have:=B.le x hxh;omega)) ?_⟩
   refine cl2 rfl rfl (Wv ((sm.trans s15) _ _ hq) (L.same (sm.trans s15)) wh wl (fun ln F6 _ s6 hln=>?_))
   refine⟨ln,rfl,⟨_,SqL.of hln⟩,fun D1 hD1 _=>?_⟩
   refine ya (K:=K) (a:=ln) (xs:=(hs.filter (adB ls x)).map V.int) (fun i zs τ F=>∃ (o1:Option V) (ys:LI),τ=[o1,some (.ref e),some (.int x)]∧zs=ys.map V.int∧ys.length≤i∧(∀ y∈ys,y∈hs∧adB ls x y=true∧ldr (paO pf) y=ldr (paO pf) x)∧F D1=some (.lst zs)∧Same F6 F) ?_ ?_ ?_ ?_
   ·exact⟨none,[],rfl,rfl,Nat.le_refl _,fun y hy=>(nomatch hy),upd_same,Same.new hD1⟩
   ·rintro i zs τ F ⟨o1,ys,_,_,_,_,_,s7⟩
    exact SqL.of (s7 _ _ hln)
   ·rintro i v zs τ F hv ⟨o1,ys,rfl,rfl,ly,hys,hDF,s7⟩
    rw[List.getElem?_map] at hv
    obtain⟨y,hy,rfl⟩:=Option.map_eq_some_iff.mp hv
    have hyf:=List.mem_filter.mp (List.mem_of_getElem? hy)
    have hil:i<hs.length:=Nat.lt_of_lt_of_le (List.getElem?_eq_some_iff.mp hy).1 (List.length_filter_le _ _)
    have ge7:=s7 _ _ (s6 _ _ ge5)
    refine⟨_,rfl,_,rfl,e,_,rfl,dg ge7 hyf.1,_,rfl,_,rfl,e,_,rfl,dg ge7 hxh,rfl,_,rfl,?_⟩
    refine ite2 (fun z=>?_) (fun z=>?_)
    ·have z:ldr (paO pf) y=ldr (paO pf) x:=by
      have:=of_decide_eq_true z
      injection this
     refine⟨_,rfl,hDF,by rw[List.length_map];exact zu (by omega),_,ys++[y],rfl,by simp,by simp;omega,fun u hu=>?_,upd_same,Same.updF s7 hD1⟩
     rcases List.mem_append.mp hu with c | c
     ·exact hys u c
     ·rw[List.mem_singleton.mp c];exact⟨hyf.1,hyf.2,z⟩
    ·exact⟨_,ys,rfl,rfl,by omega,hys,hDF,s7⟩
   rintro zs τ F7 ⟨o1,ys,rfl,rfl,ly,hys,hD1F,s7⟩
   have s17:=s15.trans (s6.trans s7)
   refine⟨_,rfl,D1,rfl,⟨_,SqL.of hD1F⟩,fun D2 hD2 _=>?_⟩
   refine ya (K:=K) (a:=D1) (xs:=ys.map V.int) (fun i zs τ F=>∃ (o1:Option V),τ=[o1,some (.ref p),some (.int x)]∧zs=[]∧F D2=some (.lst zs)∧Same F7 F) ?_ ?_ ?_ ?_
   ·exact⟨none,rfl,rfl,upd_same,Same.new hD2⟩
   ·rintro i zs τ F ⟨o1,_,_,_,s8⟩
    exact SqL.of (s8 _ _ hD1F)
   ·rintro i v zs τ F hv ⟨o1,rfl,rfl,hDF,s8⟩
    rw[List.getElem?_map] at hv
    obtain⟨y,hy,rfl⟩:=Option.map_eq_some_iff.mp hv
    obtain⟨y1,y2,y3⟩:=hys y (List.mem_of_getElem? hy)
    have W8:=W.same (sm.trans (s17.trans s8))
    refine mtV rfl W8.p rfl (T.cl 0 rfl) (T.mt 46 rfl) (XI (P:=P) (w:=w) T) hr.m (T.bi 46 rfl) (ag1 rfl (u9 W8.r U ((hm y).mpr y1) (fun F9 s9=>?_)))
    have W9:=W8.same s9
    refine mtV rfl W9.p rfl (T.cl 0 rfl) (T.mt 46 rfl) (XI (P:=P) (w:=w) T) hr.m (T.bi 46 rfl) (ag1 rfl (u9 W9.r U hxu (fun Fa sa=>?_)))
    have nr:=B.nr x hxh y y1 (by rw[Zx];exact y2) y3.symm
    refine⟨_,_,rfl,rfl,_,_,rfl,rfl,_,rfl,iteN (decide_eq_false (by omega)) ?_⟩
    exact⟨_,rfl,rfl,(s9.trans sa) _ _ hDF,s8.trans (s9.trans sa)⟩
   rintro zs τ F8 ⟨o1,rfl,rfl,hD2F,s8⟩
   refine⟨(by show 0≤sizeLine;decide),fun pe hpe=>?_⟩
   generalize hE:L2.upd F8 pe _=F9
   obtain⟨g9,s9⟩:=al hE hpe
   clear hE
   refine⟨D2,pe,[],[],fun _=>true,0,rfl,rfl,.inl ⟨SqL.of (s9 _ _ hD2F),SqL.of g9⟩,rfl,un 0 (by omega),fun j u v hu=>by simp at hu,_,rfl,iteN rfl ?_⟩
   exact⟨_,_,rfl,s17.trans (s8.trans s9)⟩
  exact fun σ F h=>h
  rintro σ F ⟨o6,o7,rfl,s1⟩
  have ss:=sm.trans s1
  have W1:=W.same ss
  have ge1:=s1 _ _ ge
  refine mtV rfl W1.p rfl (T.cl 0 rfl) (T.mt 43 rfl) (ok_ab (P:=P) (w:=w) T) hr.m (T.bi 43 rfl) (ag0 (wU W1 (fun l rb F1 _ hl1 Lb1 s2=>?_)))
  refine⟨l,rfl,⟨_,SqL.of hl1⟩,fun D hD _=>?_⟩
  have ge2:=s2 _ _ ge1
  refine ya (K:=K) (a:=l) (xs:=rb) (fun i zs τ F=>∃ (o1 o2:Option V) (ps:List (Addr×LI)),τ=[o1,o2,some (.ref e)]∧zs=ps.map (fun p=>V.ref p.1)∧ps.map (·.2)=(bs.take i).map (jl (ldr (paO pf)))∧(∀ p∈ps,F p.1=some (.lst (p.2.map V.int))∧p.1≠D)∧F D=some (.lst zs)∧Same F1 F) ?_ ?_ ?_ ?_
  ·exact⟨none,none,[],rfl,rfl,by simp,fun p hp=>(nomatch hp),upd_same,Same.new hD⟩
  ·rintro i zs τ F ⟨o1,o2,ps,_,_,_,_,_,s3⟩
   exact SqL.of (s3 _ _ hl1)
  ·rintro i v zs τ F hi ⟨o1,o2,ps,rfl,rfl,e2,hps,hDF,s3⟩
   obtain⟨b,t,hp,rfl,ht⟩:=(Lb1.same s3).get hi
   have hbm:=List.mem_of_getElem? hp
   have etk:bs.take (i+1)=bs.take i++[b]:=by rw[List.take_add_one,hp];rfl
   have hil:i<bs.length:=(List.getElem?_eq_some_iff.mp hp).1
   have lps:=congrArg List.length e2
   rw[List.length_map,List.length_map,List.length_take] at lps
   obtain⟨b1,b2,_⟩:=wl.ok b (Br.mem b hbm).1
   have ge3:=s3 _ _ ge2
   refine⟨t,_,rfl,SqT.of ht,rfl,_,_,rfl,_,_,rfl,rfl,?_⟩
   refine vE ?_
   refine⟨_,rfl,_,rfl,e,_,rfl,dg ge3 b1,_,rfl,_,rfl,e,_,rfl,dg ge3 b2,(by show 2≤sizeLine;decide),fun p1 hp1=>?_⟩
   have n1:=Same.new (o:=HO.lst [V.int (ldr (paO pf) b.1),V.int (ldr (paO pf) b.2)]) hp1
   refine⟨p1,[ldr (paO pf) b.1,ldr (paO pf) b.2],rfl,SqL.of upd_same,(by show 2<64;decide),fun p2 ms hp2 pm up=>?_⟩
   rw[yH pm up]
   have n2:=n1.trans (Same.new (o:=HO.lst ((jl (ldr (paO pf)) b).map V.int)) hp2)
   have nD:p2≠D:=fun z=>by rw[z,n1 _ _ hDF] at hp2;cases hp2
   refine⟨n2 _ _ hDF,by rw[List.length_map];exact zu (by omega),_,_,ps++[(p2,jl (ldr (paO pf)) b)],rfl,by simp,by rw[etk,List.map_append,List.map_append,e2];rfl,fun p hp=>?_,upd_same,(s3.trans n2).updF hD⟩
   rcases List.mem_append.mp hp with z | z
   ·obtain⟨z1,z2⟩:=hps p z
    exact⟨by rw[upd_ne z2];exact n2 _ _ z1,z2⟩
   ·rw[List.mem_singleton.mp z]
    exact⟨by rw[upd_ne nD];exact upd_same,nD⟩
  rintro zs τ F2 ⟨o1,o2,ps,rfl,rfl,e2,hps,hDF,s3⟩
  rw[Lb1.1,List.take_length] at e2
  refine⟨_,rfl,D,rfl,⟨_,SqL.of hDF⟩,fun D2 hD2 _=>?_⟩
  refine ya (K:=K) (a:=D) (xs:=ps.map fun p=>V.ref p.1) (fun i zs τ F=>∃ (o1:Option V),τ=[o1,some (.ref D)]∧zs=[]∧F D2=some (.lst zs)∧Same F2 F) ?_ ?_ ?_ ?_
  ·exact⟨none,rfl,rfl,upd_same,Same.new hD2⟩
  ·rintro i zs τ F ⟨o1,_,_,_,s4⟩
   exact SqL.of (s4 _ _ hDF)
  ·rintro i v zs τ F hv ⟨o1,rfl,rfl,hDF2,s4⟩
   rw[List.getElem?_map] at hv
   obtain⟨pp,hpp,rfl⟩:=Option.map_eq_some_iff.mp hv
   have hpm:=List.mem_of_getElem? hpp
   have c1:(ps.map (·.2)).count pp.2=1:=by
    rw[e2]
    refine((U7 Br.nd).count).trans (if_pos ?_)
    rw[← e2]
    exact List.mem_map.mpr ⟨pp,hpm,rfl⟩
   refine⟨_,rfl,.inl ⟨rfl,_,SqL.of (s4 _ _ hDF)⟩,_,rfl,D,pp.1,ps,pp.2,rfl,rfl,s4 _ _ hDF,fun p hp=>s4 _ _ (hps p hp).1,s4 _ _ (hps pp hpm).1,un70,rfl,_,rfl,?_⟩
   rw[c1]
   exact iteN (by simp) ⟨_,rfl,rfl,hDF2,s4⟩
  rintro zs τ F3 ⟨o1,rfl,rfl,hD2F,s4⟩
  refine⟨(by show 0≤sizeLine;decide),fun pe hpe=>?_⟩
  generalize hE:L2.upd F3 pe _=F4
  obtain⟨g4,s5⟩:=al hE hpe
  clear hE
  refine⟨D2,pe,[],[],fun _=>true,0,rfl,rfl,.inl ⟨SqL.of (s5 _ _ hD2F),SqL.of g4⟩,rfl,un 0 (by omega),fun j u v hu=>by simp at hu,_,rfl,iteN rfl ?_⟩
  have s25:=s4.trans s5
  have s05:=ss.trans (s2.trans (s3.trans s25))
  have ge5:=s25 _ _ (s3 _ _ ge2)
  have hD5:=s25 _ _ hDF
  have hps5:∀ p∈ps,F4 p.1=some (.lst (p.2.map V.int)):=fun p hp=>s25 _ _ (hps p hp).1
  have hq5:=s05 _ _ hq
  refine⟨fun σ F=>Same F4 F,?_,fun σ F5 s6=>k _ (s05.trans s6)⟩
  refine⟨_,rfl,q,rfl,⟨_,SqL.of hq5⟩,?_⟩
  refine for_list (K:=K) (a:=q) (xs:=rs) (fun i σ F=>∃ o9 oa ob:Option V,σ=[some (.ref h),some (.ref q),some (.ref p),some (.int R),some (.ref d),some (.ref e),o6,o7,some (.ref D),o9,oa,ob]∧Same F4 F) ?_ ?_ ?_ ?_
  ·exact⟨_,_,_,rfl,Same.refl _⟩
  ·rintro i σ F _ ⟨o9,oa,ob,_,s6⟩
   exact SqL.of (s6 _ _ hq5)
  ·rintro i v σ F hi ⟨o9,oa,ob',rfl,s6⟩
   obtain⟨b,t,hp,rfl,ht⟩:=(L.same (s05.trans s6)).get hi
   have hbm:=List.mem_of_getElem? hp
   obtain⟨b1,b2,_⟩:=wl.ok b hbm
   have ge6:=s6 _ _ ge5
   refine⟨t,_,rfl,SqT.of ht,rfl,_,_,rfl,_,_,rfl,rfl,?_⟩
   refine⟨_,rfl,_,rfl,e,_,rfl,dg ge6 b1,_,rfl,_,rfl,e,_,rfl,dg ge6 b2,(by show 2≤sizeLine;decide),fun p1 hp1=>?_⟩
   have n1:=Same.new (o:=HO.lst [V.int (ldr (paO pf) b.1),V.int (ldr (paO pf) b.2)]) hp1
   refine⟨p1,[ldr (paO pf) b.1,ldr (paO pf) b.2],rfl,SqL.of upd_same,(by show 2<64;decide),fun p2 ms hp2 pm up=>?_⟩
   rw[yH pm up]
   generalize hE:L2.upd (L2.upd F p1 _) p2 _=F6
   obtain⟨g6,n2⟩:=al hE hp2
   clear hE
   have s7:=s6.trans (n1.trans n2)
   refine⟨_,rfl,p2,_,0,_,rfl,rfl,SqL.of g6,rfl,_,rfl,p2,_,1,_,rfl,rfl,SqL.of g6,rfl,rfl,_,rfl,?_⟩
   by_cases c2:ldr (paO pf) b.1=ldr (paO pf) b.2
   ·exact iteN (by rw[c2];simp) ⟨_,_,_,rfl,s7⟩
   refine iteB (by
    have:decide (V.int (min (ldr (paO pf) b.1) (ldr (paO pf) b.2))=V.int (max (ldr (paO pf) b.1) (ldr (paO pf) b.2)))=false:=decide_eq_false fun z=>c2 (by injection z;omega)
    rw[this];rfl) ?_
   obtain⟨c,hc,ec,rc⟩:=Br.mn b hbm c2
   have hcj:jl (ldr (paO pf)) c=jl (ldr (paO pf)) b:=jl_eq.mpr ec
   refine⟨_,rfl,_,rfl,D,p2,ps,jl (ldr (paO pf)) b,rfl,rfl,SqL.of (s7 _ _ hD5),fun p hp=>s7 _ _ (hps5 p hp),g6,un70,_,rfl,?_⟩
   rw[e2]
   refine iteN (by show(!decide _)=false;rw[decide_eq_true (List.mem_map.mpr ⟨c,hc,hcj⟩)];rfl) ?_
   have W7:=W.same (s05.trans s7)
   refine mtV rfl W7.p rfl (T.cl 0 rfl) (T.mt 43 rfl) (ok_ab (P:=P) (w:=w) T) hr.m (T.bi 43 rfl) (ag0 (wU W7 (fun l2 rb2 F8 _ hl8 Lb8 s8=>?_)))
   have s08:=s7.trans s8
   obtain⟨j,hj⟩:=List.mem_iff_getElem?.mp hc
   have hj2:(ps.map (·.2))[j]?=some (jl (ldr (paO pf)) b):=by rw[e2,List.getElem?_map,hj];exact congrArg some hcj
   refine⟨_,rfl,.inl ⟨rfl,_,SqL.of (s08 _ _ hD5)⟩,_,rfl,D,p2,ps,jl (ldr (paO pf)) b,rfl,rfl,s08 _ _ hD5,fun p hp=>s08 _ _ (hps5 p hp),s8 _ _ g6,un70,j,hj2,fun m hm z=>?_,?_⟩
   ·have nd:=U7 Br.nd
    rw[← e2] at nd
    have i1:=(List.getElem?_eq_some_iff.mp z)
    obtain⟨l1,v1⟩:=i1
    obtain⟨l2,v2⟩:=List.getElem?_eq_some_iff.mp hj2
    exact List.pairwise_iff_getElem.mp (List.nodup_iff_pairwise_ne.mp nd) m j l1 l2 hm (v1.trans v2.symm)
   obtain⟨rj,hrj⟩:∃ rj,rb2[j]?=some rj:=by
    have:=(List.getElem?_eq_some_iff.mp hj).1
    rw[← Lb8.1] at this
    exact⟨_,List.getElem?_eq_getElem this⟩
   obtain⟨t2,rfl,ht2⟩:=Lb8.2 j rj c hrj hj
   refine⟨l2,_,(j:Int),_,rfl,rfl,SqL.of hl8,wJ hrj,_,rfl,_,rfl,(by show 2≤sizeLine;decide),fun t3 ht3=>?_⟩
   generalize hE:L2.upd F8 t3 _=F9
   obtain⟨g9,s9⟩:=al hE ht3
   clear hE
   have Bd1:=wl.bd wh
   refine⟨t2,t3,[c.1,c.2],[b.1,b.2],rfl,rfl,SqT.of (s9 _ _ ht2),SqT.of g9,Nat.lt_of_le_of_lt (Nat.le_add_right _ 2) (un 0 (by omega)),_,rfl,?_⟩
   exact iteN (UY (Bd1 c (Br.mem c hc).1) (Bd1 b hbm) rc) ⟨_,_,_,rfl,s08.trans s9⟩
  exact fun σ F5 ⟨o9,oa,ob',_,s6⟩=>s6
end
end K04
namespace L2
open PySem PySem.Spec PyProof.Rows
section
variable {prog:Program}{w:World}{A:Around}{E:Value→Shared→Prop}{s:Shared}
theorem Xq (hh:A.handled=none) (it d:Addr) (es:Array DictEntry) (ep:Nat) (hne:it≠d):Walks prog w A it [it,d] [it] es.size (fun i v=>∃ e,es[i]?=some e∧v=e.key) (fun i h=>KIt h it d i es.size ep∧vD h d es ep) where
 sub:=fun b hb=>by simp at hb;simp[hb]
 frame:=fun i h h' ⟨a1,o,ho,r⟩ k=>⟨k it (by simp) _ a1,o,k d (by simp) _ ho,r⟩
 item:=fun i s Q E hi ⟨a1,hd⟩ q=>by
  have hd':=hd
  obtain⟨o,ho,r⟩:=hd
  refine vJ a1 hd' (e:=es[i]) (by simp[hi]) fun h' b1 sb=>?_
  exact q _ h' s.toks ⟨es[i],by simp[hi],rfl⟩ ⟨b1,o,(sb.2 d hne.symm).trans ho,r⟩ fun b o hb e=>(sb.2 b (by simpa using hb)).trans e
 done:=fun s Q E ⟨a1,hd⟩ q=>uW hh a1 (Nat.le_refl _) hd fun h' k=>q h' s.toks fun b o hb e=>k b o (by simpa using hb) e
 self:=fun i s Q E ⟨a1,_⟩ q=>wpAny_pyIter_keyiter (it:=it) (d:=d) (i:=i) (n:=es.size) (ep:=ep) ⟨_,a1,rfl,rfl⟩ q
theorem U1 {d:Addr}(es:Array DictEntry) (ep:Nat) (hm:(d == sysModules)=false):PySem.W.KdlSrc prog w "dict" d d es.size (fun i v=>∃ e,es[i]?=some e∧v=e.key) (fun h=>vD h d es ep) where
 type:=fun s ⟨o,h1,h2,_⟩=>⟨o,h1,h2.1⟩
 there:=fun h ⟨o,h1,_⟩=>⟨Heap.lt_size h1,Heap.lt_size h1⟩
 keep:=fun h h' ⟨o,h1,h2⟩ k=>⟨o,k d (.inl rfl) _ h1,h2⟩
 notList:=by decide
 notTuple:=by decide
 hint:=fun A E s Q ⟨o,h1,h2,_⟩ q=>PySem.W.kdl_hint_dict ⟨o,h1,h2.1⟩ q
 iter:=fun A s hh hd=>by
  have hd':=hd
  obtain⟨o,ho,hr⟩:=hd
  refine⟨_,_,fun E Q q=>uq hd' hm q,Xq hh s.heap.objs.size d es ep (Nat.ne_of_gt (Heap.lt_size ho)),Heap.get?_push_size _ rfl,o,Heap.get?_push_of_some _ ho,hr⟩
open Sco PySem.W in
theorem Yh {d:Addr}{es:Array DictEntry}{ep:Nat}{Q:Value→Shared→Prop}(hh:A.handled=none) (hm:(d == sysModules)=false) (hd:vD s.heap d es ep){val:Value→Int×Int}
  (hp:∀ v∈es.toList.map (·.key),PrV s.heap v (val v)) (hb:∀ v∈es.toList.map (·.key),0≤(val v).2∧(val v).2<1000) (h66:es.size≤66)
  (h:∀ (D:Addr) (h':Heap) (tk:Nat) (o:Array Value),(∀ b u,s.heap.get? b=some u→h'.get? b=some u)→s.heap.get? D=none→o.toList.Perm (es.toList.map (·.key))→o.toList.Pairwise (fun x y=>rkP (val x)≤rkP (val y))→(∃ c,h'.get? D=some (seqObj "list" o c))→Q (.ref D) { s with heap:=h',toks:=tk }) :
  wpAny (model prog w) A (call (.builtin "sorted") [.ref d]) Q E s:=by
 have big:66≤sizeLine:=by decide
 refine Calls.call_function_entry kind_sorted plain_sorted entry_sorted (args_sorted1 _) ?_
 unfold Builtin.«sorted»
 refine wpAny_bind (m:=checkCount "sorted" 1 1 _) (wpAny_pure ?_)
 refine wpAny_bind (PySem.W.kdu_collect (A:=A.in1) (U1 es ep hm) hh hd (by omega) fun h' tk acc hk' hacc=>?_)
 have ev:acc.toList=es.toList.map (·.key):=by
  apply List.ext_getElem?
  intro i
  by_cases hi:i<es.size
  ·have hi':i<acc.size:=by rw[hacc.1];exact hi
   obtain⟨e,e1,e2⟩:=hacc.2 i acc[i] (by simp[hi'])
   rw[List.getElem?_map,Array.getElem?_toList,Array.getElem?_toList,e1,Array.getElem?_eq_getElem hi',e2]
   rfl
  ·rw[List.getElem?_eq_none (by rw[Array.length_toList,hacc.1];omega),List.getElem?_eq_none (by rw[List.length_map,Array.length_toList];omega)]
 have hl:acc.toList.length=es.size:=by rw[Array.length_toList];exact hacc.1
 refine wpAny_bind (wpAny_newList ?_ (by omega))
 have hoL:(h'.push (seqObj "list" acc.toList.toArray 0)).get? h'.objs.size=some (seqObj "list" acc.toList.toArray 0):=Heap.get?_push_size _ rfl
 refine(show wpAny _ _ _ _ _ { s with heap:=h'.push (seqObj "list" acc.toList.toArray 0),toks:=tk } from ?_)
 refine wpAny_bind (wpAny_holding (wpAny_call_entry slot_list_sort ⟨_,hoL,rfl⟩ entry_list_sort ?_ (args_list_sort _)))
 refine xN (val:=val) hoL (fun v hv=>?_) (fun v hv=>hb v (by rw[← ev];exact hv)) (by omega) fun o z m=>⟨_,rfl,?_⟩
 ·exact(hp v (by rw[← ev];exact hv)).keeps fun b o e _=>Heap.get?_push_of_some _ (hk' b o e)
 rw[ev] at z
 refine wpAny_pure ⟨_,rfl,h h'.objs.size _ tk o (fun b o e=>?_) ?_ z m (sortedHeap_at hoL)⟩
 ·have e1:=hk' b o e
  have lt:=Heap.lt_size e1
  rw[sortedHeap_old (Nat.ne_of_lt lt) (by rw[size_push'];exact Nat.lt_succ_of_lt lt)]
  exact Heap.get?_push_of_some _ e1
 ·cases z:s.heap.get? h'.objs.size with
  |none=>rfl
  |some o=>exact absurd (Heap.lt_size (hk' _ _ z)) (Nat.lt_irrefl _)
end
section
variable {X:Cx}
open Sco
theorem KT.pts {H:Hp}:∀ {kvs:List (List Key×V)}{xs:List (List Key×Addr×Value)}{ks:LP},KT H kvs xs→kvs.map (·.1)=ks.map (fun k=>[Sum.inl k.1,Sum.inl k.2])→∃ ps:List Sco.PT,ps.map (·.2)=ks∧xs.map (fun x=>Value.ref x.2.1)=ps.map (fun p=>Value.ref p.1)∧∀ p∈ps,H p.1=some (.tup [.int p.2.1,.int p.2.2])
 |_,_,ks,.nil,e=>by
  have:ks=[]:=List.map_eq_nil_iff.mp e.symm
  exact⟨[],this.symm,rfl,fun p hp=>nomatch hp⟩
 |_,_,[],.cons _ _,e=>nomatch e
 |_,_,k::ks,.cons (b:=x) h t,e=>by
  rw[List.map_cons,List.map_cons] at e
  injection e with e1 e2
  obtain⟨ps,h1,h2,h3⟩:=KT.pts t e2
  refine⟨(x.2.1,k)::ps,by rw[List.map_cons,h1],by rw[List.map_cons,List.map_cons,h2],fun p hp=>?_⟩
  rcases List.mem_cons.mp hp with z | z
  ·have:=h.2.1
   rw[e1] at this
   rw[z]
   exact this
  ·exact h3 p z
def Vq:List V→Hp→VK→Prop:=fun xs H Q=>∃ (d:Addr) (kvs:List (List Key×V)) (ks:LP),xs=[V.ref d]∧H d=some (.dT kvs)∧kvs.map (·.1)=ks.map (fun k=>[Sum.inl k.1,Sum.inl k.2])∧ks.length≤66∧(∀ k∈ks,0≤k.2∧k.2<1000) ∧
 ∀ (l:Addr) (ps qs:List Sco.PT),H l=none→ps.map (·.2)=ks→PsAt H ps→qs.Perm ps→qs.Pairwise (fun x y=>rkP x.2≤rkP y.2)→Q (.ref l) (upd H l (.lst (qs.map fun p=>V.ref p.1)))
theorem wH (hc:X.calm=true):xr X (.builtin "sorted") Vq:=by
 intro pins s σ H xs us Q I r h
 obtain⟨d,kvs,ks,rfl,e,ek,h66,hb,q⟩:=h
 obtain⟨u,rfl,ru⟩:=r.one
 cases ru
 obtain⟨z,hd,xs,rel,dd⟩:=uJ I.hok e
 obtain⟨od,es,ep,q1,q2,q3,q4,q5,q6⟩:=dd
 obtain⟨ps,e1,e2,e3⟩:=KT.pts rel ek
 have hps:PsAt H ps:=fun p hp=>⟨e3 p hp,hb p.2 (by rw[← e1];exact List.mem_map.mpr ⟨p,hp,rfl⟩)⟩
 have ev:es.toList.map (·.key)=ps.map (fun p=>Value.ref p.1):=by
  rw[q4,← e2,List.map_map]
  rfl
 have lps:ps.length=ks.length:=by rw[← e1,List.length_map]
 refine Yh (val:=vlH H) (I.ok.hd hc) hd ⟨od,q1,q2,q3⟩ ?_ ?_ ?_ fun D h' tk o k1 k2 z m hD=>?_
 ·rw[ev]
  exact hps.prv I
 ·rw[ev]
  intro v hv
  obtain⟨p,hp,rfl⟩:=List.mem_map.mp hv
  rw[hps.vl hp]
  exact(hps p hp).2
 ·have:=congrArg List.length ev
  rw[List.length_map,List.length_map,Array.length_toList] at this
  omega
 ·rw[ev] at z
  obtain⟨qs,h1,h2,h3⟩:=wv hps z m
  obtain⟨c,hD⟩:=hD
  exact⟨.ref D,_,Srt.laidF (o:=.lst (qs.map fun p=>V.ref p.1)) I k1 k2 ⟨by rw[List.length_map,h1.length_eq,lps];exact Nat.le_trans h66 (by decide),o.toList,c,by rw[h3];exact xz qs,by rw[Array.toArray_toList];exact hD⟩,rfl,q D ps qs (I.hok.untr k2) e1 hps h1 h2⟩
end
section
variable {prog:Program}{w:World}{KK:Type} [DecidableEq KK]{knd:HeapKind prog w KK}{A:Around}{E:Value→Shared→Prop}{s:Shared}
theorem VY {a b:Addr}{xs ys:List (KK×Addr×Value)}{Q:Value→Shared→Prop}(hr:knd.room A.in1) (ha:(a == sysModules)=false) (hb:(b == sysModules)=false)
  (da:s.heap.DictOfH knd a xs) (db:s.heap.DictOfH knd b ys) (hu:A.units<cLine) (hl:xs.length=ys.length) (hits:∀ x∈xs,∃ p,(x.1,p)∈ys∧SeqAt.EqAt A.in1 s x.2.2 p.2 true) (h:Q (.bool true) s) :
  wpAny (model prog w) A (compareOp .Eq (.ref a) (.ref b)) Q E s:=by
 refine wpAny_richCompare_same_room (op:=.Eq) da.typeIs db.typeIs PySem.F.slot_dict_eq (wpAny_call_entry PySem.F.slot_dict_eq da.typeIs PySem.F.entry_dict_eq ?_ (PySem.F.args_dict_eq_2 _ _)) hu
 show wpAny _ _ (Builtin.Dict.dictSlotArgs "__eq__" ⟨[.ref a,.ref b],[]⟩ >>= _) _ _ s
 refine wpAny_bind ?_
 unfold Builtin.Dict.dictSlotArgs
 refine wpAny_bind (wpAny_notOrdered_dict da.typeIs ?_)
 show wpAny _ _ (pure (Value.ref a,Value.ref b)) _ _ s
 refine wpAny_pure ?_
 refine wpAny_bind (wpAny_isInstance (T := "dict") db.typeIs PySem.F.sub_dict_dict ?_)
 simp only[Bool.not_true,Bool.false_eq_true,if_false]
 refine wpAny_bind (wpAny_pure (wpAny_bind (wpAny_pure ?_)))
 refine wpAny_bind (Yk hr ha hb da db hl hits ?_)
 refine wpAny_pure ⟨_,rfl,?_,?_⟩
 ·exact fun x=>nomatch x
 ·simpa using h
end
section
variable {X:Cx}
def zaS (X:Cx):R2:=fun x y H Q=>∃ (a b:Addr) (kva kvb:List (List Key×V)) (n:Nat),x=.ref a∧y=.ref b∧H a=some (.dT kva)∧H b=some (.dT kvb)∧kva.length=kvb.length∧X.A.units+n+2<cLine ∧
 (∀ p∈kva,∃ y,(p.1,y)∈kvb∧EqP X H p.2 y true n)∧Q (.bl true) H
theorem VA:OpR X (compareOp .Eq) (zaS X):=by
 intro pins s σ H x y v u Q I rx ry h
 obtain⟨a,b,kva,kvb,n,rfl,rfl,ha,hb,hl,hu,hi,q⟩:=h
 cases rx;cases ry
 obtain⟨z1,d1,xs,r1,o1⟩:=wQ I.hok (.inl ha)
 obtain⟨z2,d2,ys,r2,o2⟩:=wQ I.hok (.inl hb)
 refine VY (tupleKind_room_in1 (by omega)) d1 d2 o1 o2 (by omega) (by rw[← r1.length,← r2.length,hl]) (fun x hx=>?_) ⟨.bl true,H,I,rfl,q⟩
 obtain⟨p,hp,e1,rv⟩:=r1.get1 hx
 obtain⟨y,hy,he⟩:=hi p hp
 obtain⟨x',hx',e2,rv2⟩:=r2.get2 hy
 refine⟨x'.2,?_,he pins σ s I _ _ _ (by rw[yg];omega) rv rv2⟩
 have:(x.1,x'.2)=x':=by rw[← e1,e2]
 rw[this]
 exact hx'
end
end L2
namespace K04
open PySem L2
open L2.Sco (PT PsAt rkP)
def prL (hs:LI) (ls:LP) (xs:LI):LP:=xs.flatMap fun x=>(hs.filter (adB ls x)).map fun y=>(x,y)
theorem Ze {hs:LI}{ls:LP}{xs:LI}{x:Int}:prL hs ls (xs++[x])=prL hs ls xs++(hs.filter (adB ls x)).map fun y=>(x,y):=by
 unfold prL
 rw[List.flatMap_append]
 simp
theorem mem_prL {hs:LI}{ls:LP}{xs:LI}{q:Int×Int}:q∈prL hs ls xs↔q.1∈xs∧q.2∈hs∧adB ls q.1 q.2=true:=by
 unfold prL
 rw[List.mem_flatMap]
 constructor
 ·rintro⟨x,hx,h⟩
  obtain⟨y,hy,rfl⟩:=List.mem_map.mp h
  exact⟨hx,List.mem_filter.mp hy⟩
 ·rintro⟨h1,h2⟩
  exact⟨q.1,h1,List.mem_map.mpr ⟨q.2,List.mem_filter.mpr h2,rfl⟩⟩
theorem fm_len {xs:LI}{f:Int→LP}{k:Nat}(h:∀ x∈xs,(f x).length≤k):(xs.flatMap f).length≤xs.length*k:=by
 induction xs with
 |nil=>simp
 |cons x xs ih =>
  rw[List.flatMap_cons,List.length_append,List.length_cons,Nat.succ_mul]
  have h1:=h x List.mem_cons_self
  have h2:=ih fun y hy=>h y (List.mem_cons_of_mem _ hy)
  omega
theorem prL_eq {hs:LI}{ls:LP}(wh:Hs hs) (wl:Ls hs ls):prL hs ls hs=srt (dbl (srt ls)):=by
 have bh:∀ y∈hs,0≤y∧y<1000:=fun y hy=>by
  have a1:=wh.lo y hy
  have a2:=wh.hi y hy
  omega
 have md:∀ q:Int×Int,q∈prL hs ls hs↔q∈dbl (srt ls):=fun q=>by
  rw[mem_prL,mem_ds,mem_dbl]
  unfold adB
  rw[Bool.or_eq_true,decide_eq_true_eq,decide_eq_true_eq]
  refine⟨fun h=>h.2.2,fun h=>⟨?_,?_,h⟩⟩
  ·rcases h with z | z
   ·exact(wl.ok _ z).1
   ·exact(wl.ok _ z).2.1
  ·rcases h with z | z
   ·exact(wl.ok _ z).2.1
   ·exact(wl.ok _ z).1
 have lt:(prL hs ls hs).Pairwise fun p q=>rkP p<rkP q:=by
  unfold prL
  rw[List.pairwise_flatMap]
  refine⟨fun x hx=>?_,wh.up.imp_of_mem fun {x1 x2} h1 h2 h p hp q hq=>?_⟩
  ·rw[List.pairwise_map]
   refine(wh.up.filter _).imp fun {u v} h=>?_
   unfold rkP
   show x*1000+u<x*1000+v
   omega
  ·obtain⟨y,hy,rfl⟩:=List.mem_map.mp hp
   obtain⟨z,hz,rfl⟩:=List.mem_map.mp hq
   have b1:=bh y (List.mem_filter.mp hy).1
   have b2:=bh z (List.mem_filter.mp hz).1
   unfold rkP
   show x1*1000+y<x2*1000+z
   omega
 have nd:(prL hs ls hs).Nodup:=List.nodup_iff_pairwise_ne.mpr (lt.imp fun {u v} h z=>by rw[z] at h;omega)
 refine Z7 (fun q hq=>?_) ?_ (lt.imp fun h=>Int.le_of_lt h)
 ·exact bh _ (mem_prL.mp ((md q).mpr hq)).2.1
 ·rw[List.perm_iff_count]
  intro q
  rw[nd.count,wl.dnd.count]
  simp only[md q]
theorem dbl_56 {hs:LI}{ls:LP}(h8:hs.length≤8) (wl:Ls hs ls):(dbl (srt ls)).length≤66:=by
 have h1:=wY (bs:=hs.flatMap fun x=>(hs.filter fun y=>decide (y≠x)).map fun y=>(x,y)) wl.dnd fun q hq=>by
  refine List.mem_flatMap.mpr ⟨q.1,?_,List.mem_map.mpr ⟨q.2,List.mem_filter.mpr ⟨?_,decide_eq_true ?_⟩,rfl⟩⟩
  all_goals
   rcases mem_dbl.mp (mem_ds.mp hq) with z | z
   all_goals
    have:=wl.ok _ z
    first | exact this.1 | exact this.2.1 | omega | (dsimp only at this;omega)
 have h2:=fm_len (xs:=hs) (f:=fun x=>(hs.filter fun y=>decide (y≠x)).map fun y=>(x,y)) (k:=7) fun x hx=>by
  rw[List.length_map]
  have:(hs.filter fun y=>decide (y≠x)).length<hs.length:=List.length_filter_lt_length_iff_exists.mpr ⟨x,hx,by simp⟩
  omega
 omega
theorem Vj {hs:LI}{ls ms:LP}(wh:Hs hs) (wl:Ls hs ls) (wm:Ls hs ms) (h:∀ q,q∈dbl (srt ls)↔q∈dbl (srt ms)):srt ls=srt ms:=by
 refine Z7 (wm.bd wh) ((zX ls).trans ?_) (Z6 ls)
 rw[List.perm_iff_count]
 intro q
 rw[wl.nd.count,wm.nd.count]
 have:q∈ls↔q∈ms:=by
  have h:=h q
  rw[mem_ds,mem_ds,mem_dbl,mem_dbl] at h
  constructor
  ·intro z
   rcases h.mp (.inl z) with y | y
   ·exact y
   ·have a:=(wl.ok _ z).2.2
    have b:=(wm.ok _ y).2.2
    dsimp only at b
    omega
  ·intro z
   rcases h.mpr (.inl z) with y | y
   ·exact y
   ·have a:=(wm.ok _ z).2.2
    have b:=(wl.ok _ y).2.2
    dsimp only at b
    omega
 simp only[this]
theorem RdB.ho {us:LI}{ls:LP}{pf:Int→Option Int}{bs:LP}{js:List ((Int×Int)×Addr×LI)}(B:RdB us ls pf bs js) (g:GrB us ls pf bs):HoB us ls pf bs js :=
 ⟨g,fun j hj=>by rw[← B.ks];exact List.mem_map.mpr ⟨j,hj,rfl⟩,by rw[← B.ks,List.length_map],fun j hj=>List.mem_of_head? (B.hd j hj)⟩
theorem RdB.two {hs us:LI}{ls ms:LP}{pf:Int→Option Int}{bs:LP}{js:List ((Int×Int)×Addr×LI)}(wh:Hs hs) (wl:Ls hs ls) (wm:Ls hs ms) (B:RdB us ms pf bs js) (g:GrB us ls pf bs):HoB us ls pf bs js↔srt ls=srt ms:=by
 constructor
 ·intro h
  have k1:∀ q∈dbl (srt ms),q∈dbl (srt ls):=fun q hq=>by
   rw[← B.ks] at hq
   obtain⟨j,hj,rfl⟩:=List.mem_map.mp hq
   exact h.kk j hj
  have k2:(dbl (srt ms)).length=(dbl (srt ls)).length:=by rw[← B.ks,List.length_map];exact h.ln
  exact Vj wh wl wm fun q=>⟨Ws wm.dnd wl.dnd k1 k2 q,k1 q⟩
 ·intro h
  exact⟨g,fun j hj=>by rw[h,← B.ks];exact List.mem_map.mpr ⟨j,hj,rfl⟩,by rw[h,← B.ks,List.length_map],fun j hj=>List.mem_of_head? (B.hd j hj)⟩
section
variable {X:Cx}
theorem YW {H:Hp}{i:Int}:EqP X H (.int i) (.int i) true 0:=by
 have:=EqP.of (X:=X) (H:=H) (n:=0) (EqD.flat (K:=X.K) (H:=H) (x:=.int i) (y:=.int i) rfl rfl)
 have e:eqV (.int i) (.int i)=true:=by simp[eqV]
 rw[e] at this
 exact this
theorem VZ {H:Hp}{a b:Addr}{ns:LI}(ha:H a=some (.lst (ns.map V.int))) (hb:H b=some (.lst (ns.map V.int))):EqP X H (.ref a) (.ref b) true 2:=EqP.lst (n:=0) (SqL.of ha) (SqL.of hb) rfl fun j x y e1 e2=>by
 rw[e1] at e2
 cases e2
 rw[List.getElem?_map] at e1
 obtain⟨i,_,rfl⟩:=Option.map_eq_some_iff.mp e1
 exact YW
theorem WW {H:Hp}{rs rs':List V}{bs:LP}(L:LnAt H rs bs) (L':LnAt H rs' bs):∀ (j:Nat) x y,rs[j]?=some x→rs'[j]?=some y→EqP X H x y true 2:=fun j x y e1 e2=>by
 obtain⟨p,q,hp,rfl,hq⟩:=L.get e1
 obtain⟨p',q',hp',rfl,hq'⟩:=L'.get e2
 rw[hp] at hp'
 cases hp'
 refine EqP.tup (n:=0) (SqT.of hq) (SqT.of hq') rfl fun i u v e3 e4=>?_
 match i,e3,e4 with
 |0,e3,e4=>cases e3;cases e4;exact YW
 |1,e3,e4=>cases e3;cases e4;exact YW
 |i+2,e3,e4=>simp at e3
end
section
variable {K:PySem.W.Frag}{A:Around}{H:Hp}{Q:VK}
theorem We {a b:Addr}{p q:Int×Int}(ha:H a=some (.tup [.int p.1,.int p.2])) (hb:H b=some (.tup [.int q.1,.int q.2])):EqD K H (.ref a) (.ref b) (decide (p=q)) 1:=by
 by_cases z:a=b
 ·subst z
  rw[ha] at hb
  have e:p=q:=by
   injection hb with hb
   injection hb with hb
   injection hb with h1 h2
   injection h1 with h1
   injection h2 with h2
   injection h2 with h2
   exact Prod.ext h1 h2
  rw[decide_eq_true e]
  exact .same
 ·have h:=EqD.tup (K:=K) (n:=0) (e:=fun i=>if i=0 then eqV (.int p.1) (.int q.1) else eqV (.int p.2) (.int q.2)) z (SqT.of ha) (SqT.of hb) rfl fun j x y e1 e2=>by
   match j,e1,e2 with
   |0,e1,e2=>cases e1;cases e2;exact .flat rfl rfl
   |1,e1,e2=>cases e1;cases e2;exact .flat rfl rfl
   |j+2,e1,e2=>simp at e1
  have e:(List.range ([V.int p.1,V.int p.2].length)).all (fun i=>if i=0 then eqV (.int p.1) (.int q.1) else eqV (.int p.2) (.int q.2))=decide (p=q):=by
   rw[Bool.eq_iff_iff,decide_eq_true_eq,Prod.ext_iff]
   simp[List.range,List.range.loop,eqV]
  rw[e] at h
  exact h
theorem zad {a b:Addr}{rs rs':List V}{ls ls':LP}(ha:H a=some (.lst rs)) (hb:H b=some (.lst rs')) (L:LnAt H rs ls) (L':LnAt H rs' ls') (hu:A.units+1+2<cLine) (q:Q (.bl (decide (ls=ls'))) H) :
  zaR K A false (.ref a) (.ref b) H Q∨zbW K A (.ref a) (.ref b) H Q:=by
 by_cases z:rs.length=rs'.length
 ·refine .inl ⟨a,b,rs,rs',fun j=>decide (ls[j]?=ls'[j]?),1,rfl,rfl,.inl ⟨SqL.of ha,SqL.of hb⟩,z,hu,fun j x y e1 e2=>?_,?_⟩
  ·obtain⟨p,t,hp,rfl,ht⟩:=L.get e1
   obtain⟨p',t',hp',rfl,ht'⟩:=L'.get e2
   have:decide (ls[j]?=ls'[j]?)=decide (p=p'):=by rw[hp,hp'];simp
   dsimp only
   rw[this]
   exact We ht ht'
  ·have:(List.range rs.length).all (fun j=>decide (ls[j]?=ls'[j]?))=decide (ls=ls'):=by
    rw[Bool.eq_iff_iff,decide_eq_true_eq,List.all_eq_true]
    constructor
    ·intro h
     apply List.ext_getElem?
     intro i
     by_cases hi:i<rs.length
     ·exact of_decide_eq_true (h i (List.mem_range.mpr hi))
     ·have e1:=L.1
      have e2:=L'.1
      rw[List.getElem?_eq_none (by omega),List.getElem?_eq_none (by omega)]
    ·intro h i _
     rw[h]
     exact decide_eq_true rfl
   rw[this]
   exact q
 ·refine .inr ⟨a,b,rs,rs',rfl,rfl,SqL.of ha,SqL.of hb,z,by omega,?_⟩
  have:decide (ls=ls')=false:=decide_eq_false fun e=>z (by rw[L.1,L'.1,e])
  rw[← this]
  exact q
end
section
variable {P:Program}{w:World}{K:PySem.W.Frag}{mg:Str→Option Value}{base:Heap}{a:Ad}
def zaH:Sp:=fun vs H Q _=>∃ (h q:Addr) (rs:List V) (hs:LI) (ls:LP),vs=[.ref h,.ref q]∧H h=some (.lst (hs.map V.int))∧H q=some (.lst rs)∧LnAt H rs ls∧Hs hs∧Ls hs ls ∧
 ∀ (l:Addr) (zs:List V) (H':Hp),H' l=some (.lst zs)→LnAt H' zs (srt (dbl (srt ls)))→Same H H'→Q (.ref l) H'
theorem za3 (T:Txt w K mg a):FnOk P w K mg base CX0 2 474 (dK K 474) ["_law_hands_here", "_law_lines_here"] zaH:=by
 have c__law_near:Callee P w K mg base "_law_near" 452 (dK K 452) ["_law_lines_here", "_law_hand"] 1 Ut:=⟨VE T,(T.g 33 rfl),(T.fn 33 rfl).kp,(T.bi 33 rfl)⟩
 refine(T.fn 37 rfl).ok (scp 37 rfl) (fun vs H Q E h=>?_) (fun cdv A outer s H vs Q E hr h=>?_)
 ·obtain⟨h,q,rs,hs,ls,rfl,_⟩:=h
  rfl
 ·obtain⟨h,q,rs,hs,ls,rfl,hh,hq,L,wh,wl,k⟩:=h
  have hu:=yA hr
  have h12:=wh.l12
  have l66:=wl.le
  have cap:∀ i,(prL hs ls (hs.take i)).length≤144:=fun i=>by
   have h1:=fm_len (xs:=hs.take i) (f:=fun x=>(hs.filter (adB ls x)).map fun y=>(x,y)) (k:=12) fun x _=>by
    rw[List.length_map]
    exact Nat.le_trans (List.length_filter_le _ _) h12
   have h2:(hs.take i).length≤12:=by rw[List.length_take];omega
   unfold prL
   omega
  refine zT (w_pss_cons (w_ps_set (i:=2) (scp 37 rfl).nd rfl (Or.inl rfl) (zM zd))
   (w_pss_cons (zG PassesOwn.never rfl (zy (zh 0)) (zk (i:=3) (scp 37 rfl).nd rfl (Or.inr rfl))
    (ze (w_ps_set (i:=2) (scp 37 rfl).nd rfl (Or.inl rfl) (zD v4 (zh 2) (yd rfl (N':=["_law_other", "_law_hand"]) (t:=1) (caps:=[3]) ⟨rfl,rfl,rfl⟩ (zy (zq c__law_near hr.m (zg (zh 1) (zg (zh 3) zd)))) (fun _=>(zk (i:=0) (show(["_law_other", "_law_hand"]:List Str).Nodup by decide +kernel) rfl (Or.inl rfl))) (fun _=>yk) (fun _=>(zR (zg (zh 1) (zg (zh 0) zd)))))))))
   (ze (zj (zh 2))))) ?_
  refine⟨(by show 0≤sizeLine;decide),fun f0 hf0=>?_⟩
  have s1:=Same.new (o:=HO.lst []) hf0
  have hh1:=s1 _ _ hh
  refine⟨_,rfl,h,rfl,⟨_,SqL.of hh1⟩,?_⟩
  refine for_list (K:=K) (a:=h) (xs:=hs.map V.int) (fun i σ G=>∃ (f:Addr) (zs:List V) (o3:Option V),σ=[some (.ref h),some (.ref q),some (.ref f),o3]∧G f=some (.lst zs)∧LnAt G zs (prL hs ls (hs.take i))∧Same H G) ?_ ?_ ?_ ?_
  ·exact⟨f0,[],none,rfl,upd_same,⟨by simp[prL],fun i r p h=>by simp at h⟩,s1⟩
  ·rintro i σ G _ ⟨f,zs,o3,_,_,_,sm⟩
   exact SqL.of (sm _ _ hh)
  ·rintro i v σ G hi ⟨f,zs,o3,rfl,gf,Lz,sm⟩
   rw[List.getElem?_map] at hi
   obtain⟨x,hx,rfl⟩:=Option.map_eq_some_iff.mp hi
   have etk:hs.take (i+1)=hs.take i++[x]:=by rw[List.take_add_one,hx];rfl
   refine⟨_,rfl,_,rfl,_,rfl,q,x,rs,hs,ls,rfl,sm _ _ hq,L.same sm,wh,wl,fun ln G2 hln s2 hln2=>?_⟩
   refine⟨ln,rfl,⟨_,SqL.of hln2⟩,fun D hD _=>?_⟩
   have gf2:=s2 _ _ gf
   refine ya (K:=K) (a:=ln) (xs:=(hs.filter (adB ls x)).map V.int) (fun i zs τ F=>∃ (o1:Option V) (ps:List (Addr×Int×Int)),τ=[o1,some (.int x)]∧zs=ps.map (fun p=>V.ref p.1)∧ps.map (·.2)=((hs.filter (adB ls x)).take i).map (fun y=>(x,y))∧(∀ p∈ps,F p.1=some (.tup [.int p.2.1,.int p.2.2])∧p.1≠D)∧F D=some (.lst zs)∧Same G2 F) ?_ ?_ ?_ ?_
   ·exact⟨none,[],rfl,rfl,by simp,fun p hp=>(nomatch hp),upd_same,Same.new hD⟩
   ·rintro i zs τ F ⟨o1,ps,_,_,_,_,_,s3⟩
    exact SqL.of (s3 _ _ hln2)
   ·rintro i v zs τ F hv ⟨o1,ps,rfl,rfl,e2,hps,hDF,s3⟩
    rw[List.getElem?_map] at hv
    obtain⟨y,hy,rfl⟩:=Option.map_eq_some_iff.mp hv
    have etk:(hs.filter (adB ls x)).take (i+1)=(hs.filter (adB ls x)).take i++[y]:=by rw[List.take_add_one,hy];rfl
    have lps:=congrArg List.length e2
    rw[List.length_map,List.length_map,List.length_take] at lps
    have hf12:(hs.filter (adB ls x)).length≤12:=Nat.le_trans (List.length_filter_le _ _) h12
    unfold v9
    refine vE ?_
    refine⟨_,rfl,_,rfl,(by show 2≤sizeLine;decide),fun pt hpt=>?_⟩
    have n2:=Same.new (o:=HO.tup [V.int x,V.int y]) hpt
    have nD:pt≠D:=fun z=>by rw[z,hDF] at hpt;cases hpt
    refine⟨n2 _ _ hDF,by rw[List.length_map];exact zu (by omega),_,ps++[(pt,x,y)],rfl,by simp,by rw[etk,List.map_append,List.map_append,e2];rfl,fun p hp=>?_,upd_same,(s3.trans n2).updF hD⟩
    rcases List.mem_append.mp hp with z | z
    ·obtain⟨z1,z2⟩:=hps p z
     exact⟨by rw[upd_ne z2];exact n2 _ _ z1,z2⟩
    ·rw[List.mem_singleton.mp z]
     exact⟨by rw[upd_ne nD];exact upd_same,nD⟩
   rintro zs2 τ F ⟨o1,ps,rfl,rfl,e2,hps,hDF,s3⟩
   rw[List.length_map,List.take_length] at e2
   have gf3:=s3 _ _ gf2
   have c1:=cap i
   have c2:=cap (i+1)
   rw[etk,Ze,List.length_append,← e2,List.length_map] at c2
   refine⟨f,D,_,_,rfl,rfl,gf3,hDF,by rw[Lz.1,List.length_map];exact Nat.le_trans c2 (by decide),fun f2 hf2=>?_⟩
   have n3:=Same.new (o:=HO.lst (zs++ps.map fun p=>V.ref p.1)) hf2
   refine⟨f2,_,_,rfl,upd_same,?_,sm.trans (s2.trans (s3.trans n3))⟩
   have La:=Lz.same (s2.trans (s3.trans n3))
   rw[etk,Ze,← e2]
   refine⟨by rw[List.length_append,List.length_append,La.1,List.length_map,List.length_map],fun j r p h1 h2=>?_⟩
   by_cases hj:j<zs.length
   ·rw[List.getElem?_append_left hj] at h1
    rw[List.getElem?_append_left (by rw[← La.1];exact hj)] at h2
    exact La.2 j r p h1 h2
   ·rw[List.getElem?_append_right (by omega)] at h1
    rw[List.getElem?_append_right (by rw[← La.1];omega),← La.1] at h2
    rw[List.getElem?_map] at h1 h2
    obtain⟨p1,g1,rfl⟩:=Option.map_eq_some_iff.mp h1
    rw[g1] at h2
    cases h2
    exact⟨p1.1,rfl,n3 _ _ (hps p1 (List.mem_of_getElem? g1)).1⟩
  rintro σ G ⟨f,zs,o3,rfl,gf,Lz,sm⟩
  rw[List.length_map,List.take_length,prL_eq wh wl] at Lz
  exact⟨_,rfl,k f zs G gf Lz sm⟩
open L2.Sco (PT PsAt rkP)
theorem Ya {p q dx dp ob:Addr}{hs us:LI}{ls bs:LP}{pf:Int→Option Int}{H:Hp}{Q:VK}{E:XK}(w:WbP a H p hs ls) (y:WayAt a H q pf us bs dx dp ob) (m:∀ x,x∈us↔x∈hs) (c:Cl us pf) (b:BrL hs bs) (k:∀ (b:Bool) (H':Hp),(b=true↔GG us ls pf bs)→Same H H'→Q (.bl b) H'):Ur a [.ref p,.ref q] H Q E:=⟨p,q,dx,dp,ob,hs,us,ls,bs,pf,rfl,w,y,m,c,b,k⟩
theorem Z9 {p q dx dp ob:Addr}{hs us:LI}{ls bs:LP}{pf:Int→Option Int}{H:Hp}{Q:VK}{E:XK}(w:WbP a H p hs ls) (y:WayAt a H q pf us bs dx dp ob) (m:∀ x,x∈us↔x∈hs) (c:Cl us pf) (b:BrL hs bs) (g:GG us ls pf bs) (k:∀ (d:Addr) (js:List ((Int×Int)×Addr×LI)) (H':Hp),H d=none→Pp H' d js→RdB us ls pf bs js→Same H H'→Q (.ref d) H'):zaE a [.ref p,.ref q] H Q E:=⟨p,q,dx,dp,ob,hs,us,ls,bs,pf,rfl,w,y,m,c,b,g,k⟩
theorem Yc {d:Addr}{js:List ((Int×Int)×Addr×LI)}{p q dx dp ob:Addr}{hs us:LI}{ls bs:LP}{pf:Int→Option Int}{H:Hp}{Q:VK}{E:XK}(w:WbP a H p hs ls) (y:WayAt a H q pf us bs dx dp ob) (m:∀ x,x∈us↔x∈hs) (c:Cl us pf) (b:BrL hs bs) (g:Pp H d js) (k:∀ (b:Bool) (H':Hp),(b=true↔HoB us ls pf bs js)→Same H H'→Q (.bl b) H'):zaM a [.ref p,.ref q,.ref d] H Q E:=⟨p,q,d,dx,dp,ob,hs,us,ls,bs,pf,js,rfl,w,y,m,c,b,g,k⟩
theorem Wt {h q:Addr}{rs:List V}{hs:LI}{ls:LP}{H:Hp}{Q:VK}{E:XK}(hh:H h=some (.lst (hs.map V.int))) (hq:H q=some (.lst rs)) (L:LnAt H rs ls) (wh:Hs hs) (wl:Ls hs ls) (k:∀ (l:Addr) (zs:List V) (H':Hp),H' l=some (.lst zs)→LnAt H' zs (srt (dbl (srt ls)))→Same H H'→Q (.ref l) H'):zaH [.ref h,.ref q] H Q E:=⟨h,q,rs,hs,ls,rfl,hh,hq,L,wh,wl,k⟩
def zbC (a:Ad):Sp:=fun vs H Q _=>∃ (p o q h l m dx dp ob:Addr) (hs us:LI) (ls ms bs:LP) (rl rm:List V) (pf:Int→Option Int),vs=[.ref p,.ref o,.ref q,.ref h,.ref l,.ref m]∧hs.length≤8∧WbP a H p hs ls∧WbP a H o hs ms∧WayAt a H q pf us bs dx dp ob∧(∀ x,x∈us↔x∈hs)∧Cl us pf∧BrL hs bs∧GG us ls pf bs∧H h=some (.lst (hs.map V.int))∧H l=some (.lst rl)∧LnAt H rl ls∧H m=some (.lst rm)∧LnAt H rm ms ∧
 ∀ (H':Hp),Same H H'→Q (.bl true) H'
theorem YG {js:List ((Int×Int)×Addr×LI)}{qs:LP}(e:js.map (·.1)=qs):(kvP js).map (·.1)=qs.map (fun k=>[Sum.inl k.1,Sum.inl k.2]):=by
 rw[vy,e]
theorem zaY (T:Txt w K mg a):FnOk P w K mg base CX0 12 481 (dK K 481) ["_law_web", "_law_other", "_law_way", "_law_hands_here", "_law_lines_here", "_law_more"] (zbC a):=by
 have c_roads:Callee P w K mg base "roads" 295 (dK K 295) ["web", "way"] 11 (zaE a):=⟨za1 T,(T.g 20 rfl),(T.fn 20 rfl).kp,(T.bi 20 rfl)⟩
 have c_holds:Callee P w K mg base "holds" 316 (dK K 316) ["web", "way", "paper"] 9 (zaM a):=⟨zbc T,(T.g 23 rfl),(T.fn 23 rfl).kp,(T.bi 23 rfl)⟩
 have c_lets:Callee P w K mg base "lets" 215 (dK K 215) ["web", "way"] 9 (Ur a):=⟨VD T,(T.g 8 rfl),(T.fn 8 rfl).kp,(T.bi 8 rfl)⟩
 have c__law_pairs:Callee P w K mg base "_law_pairs" 474 (dK K 474) ["_law_hands_here", "_law_lines_here"] 2 zaH:=⟨za3 T,(T.g 37 rfl),(T.fn 37 rfl).kp,(T.bi 37 rfl)⟩
 refine(T.fn 38 rfl).ok (scp 38 rfl) (fun vs H Q E h=>?_) (fun cdv A outer s H vs Q E hr h=>?_)
 ·obtain⟨p,o,q,h,l,m,dx,dp,ob,hs,us,ls,ms,bs,rl,rm,pf,rfl,_⟩:=h
  rfl
 ·obtain⟨p,o,q,h,l,m,dx,dp,ob,hs,us,ls,ms,bs,rl,rm,pf,rfl,h8,WP,WO,Y,hm,C,BL,gg,hh,hl,Ll,hmo,Lm,k⟩:=h
  have hu:=yA hr
  have un:∀ n:Nat,n≤8→(A.deeper (PyProof.Rows.envOfC "_law_two_webs" (defScope (top 53)) s.heap.objs.size 481 cdv)).units+n+2<cLine:=fun n hn=>by
   have:=hr.units
   omega
  have wh:=WP.wh
  have bd2:∀ {ls:LP},Ls hs ls→∀ k∈dbl (srt ls),0≤k.2∧k.2<1000:=fun {ls} wl k hk=>by
   have hk2:k.2∈hs:=by
    rcases mem_dbl.mp (mem_ds.mp hk) with z | z
    ·exact(wl.ok _ z).2.1
    ·exact(wl.ok _ z).1
   have a1:=wh.lo _ hk2
   have a2:=wh.hi _ hk2
   omega
  refine zT (w_pss_cons (w_ps_set (i:=6) (scp 38 rfl).nd rfl (Or.inl rfl) (zq c_roads hr.m (zg (zh 0) (zg (zh 2) zd))))
   (w_pss_cons (zB (we (yc (zn WI (zm (wH rfl) (by rfl) (T.n 6 rfl) zW (zg (zh 6) zd)) (zq c__law_pairs hr.m (zg (zh 3) (zg (zh 4) zd))) (zC _)) (z6 (zn uB (zq c_holds hr.m (zg (zh 0) (zg (zh 2) (zg (zh 6) zd)))) zE (zC _)))))
    (ze (zj zE))
    zo)
   (yS (zB (zJ (zq c_lets hr.m (zg (zh 1) (zg (zh 2) zd))))
    (w_pss_cons (w_ps_set (i:=7) (scp 38 rfl).nd rfl (Or.inl rfl) (zq c_roads hr.m (zg (zh 1) (zg (zh 2) zd))))
    (w_pss_cons (zB (we (yc (zn WI (zm (wH rfl) (by rfl) (T.n 6 rfl) zW (zg (zh 7) zd)) (zq c__law_pairs hr.m (zg (zh 3) (zg (zh 5) zd))) (zC _)) (z6 (zn uB (zq c_holds hr.m (zg (zh 1) (zg (zh 2) (zg (zh 7) zd)))) zE (zC _)))))
     (ze (zj zE))
     zo)
    (ze (zB (zn x6 (zq c_holds hr.m (zg (zh 0) (zg (zh 2) (zg (zh 7) zd)))) (z7 (WL WJ WK) (zm Sco.call_sortX (by rfl) (T.n 6 rfl) zW (zg (zh 4) zd)) (zm Sco.call_sortX (by rfl) (T.n 6 rfl) zW (zg (zh 5) zd)) (zC _)) (zC _))
     (ze (zj zE))
     zo))))
    zo)
   (ze (zj (z7 VA (zq c_roads hr.m (zg (zh 0) (zg (zh 2) zd))) (zh 6) (zC _))))))) ?_
  refine cl2 rfl rfl (Z9 WP Y hm C BL gg (fun d js H1 hd pp rd s1=>?_))
  refine⟨_,rfl,d,kvP js,dbl (srt ls),rfl,pp.dd,YG rd.ks,dbl_56 h8 WP.wl,bd2 WP.wl,fun l1 ps qs hl1 eps hps pm up=>?_⟩
  have So:=xm hps pm up
  rw[eps] at So
  generalize hE:L2.upd H1 l1 _=H2
  obtain⟨g2,s2⟩:=al hE hl1
  clear hE
  have s02:=s1.trans s2
  refine cl2 rfl rfl (Wt (s02 _ _ hh) (s02 _ _ hl) (Ll.same s02) wh WP.wl (fun l2 z2 H3 g3 L3 s3=>?_))
  have So3:=(So.same s2).same s3
  refine⟨l1,l2,_,_,2,rfl,rfl,.inl ⟨SqL.of (s3 _ _ g2),SqL.of g3⟩,So3.1.trans L3.1.symm,un 2 (by omega),WW So3 L3,_,rfl,iteN rfl ?_⟩
  have s03:=s02.trans s3
  have s13:=s2.trans s3
  refine cl3 rfl rfl rfl (Yc (WP.same s03) (Y.same s03) hm C BL (pp.same s13) (fun b4 H4 hb4 s4=>?_))
  rw[hb4.mpr (rd.ho gg.g)]
  refine⟨_,rfl,rfl,_,rfl,iteN rfl ?_⟩
  have s04:=s03.trans s4
  have pp4:=pp.same (s13.trans s4)
  refine⟨fun σ G=>∃ o7:Option V,σ=[some (.ref p),some (.ref o),some (.ref q),some (.ref h),some (.ref l),some (.ref m),some (.ref d),o7]∧Same H4 G,?_,?_⟩
  ·refine cl2 rfl rfl (Ya (WO.same s04) (Y.same s04) hm C BL (fun b5 H5 hb5 s5=>?_))
   have s05:=s04.trans s5
   refine⟨_,rfl,?_⟩
   cases b5 with
   |false=>exact zb1 ⟨none,rfl,s5⟩
   |true =>
    refine wa ?_
    have g2g:=hb5.mp rfl
    refine cl2 rfl rfl (Z9 (WO.same s05) (Y.same s05) hm C BL g2g (fun d2 jt H6 hd2 pt rt s6=>?_))
    refine⟨_,rfl,d2,kvP jt,dbl (srt ms),rfl,pt.dd,YG rt.ks,dbl_56 h8 WO.wl,bd2 WO.wl,fun l6 ps6 qs6 hl6 eps6 hps6 pm6 up6=>?_⟩
    have S6:=xm hps6 pm6 up6
    rw[eps6] at S6
    generalize hE:L2.upd H6 l6 _=H7
    obtain⟨g7,s7⟩:=al hE hl6
    clear hE
    have s07:=s05.trans (s6.trans s7)
    refine cl2 rfl rfl (Wt (s07 _ _ hh) (s07 _ _ hmo) (Lm.same s07) wh WO.wl (fun l8 z8 H8 g8 L8 s8=>?_))
    have S8:=(S6.same s7).same s8
    refine⟨l6,l8,_,_,2,rfl,rfl,.inl ⟨SqL.of (s8 _ _ g7),SqL.of g8⟩,S8.1.trans L8.1.symm,un 2 (by omega),WW S8 L8,_,rfl,iteN rfl ?_⟩
    have s08:=s07.trans s8
    have s68:=s7.trans s8
    refine cl3 rfl rfl rfl (Yc (WO.same s08) (Y.same s08) hm C BL (pt.same s68) (fun b9 H9 hb9 s9=>?_))
    rw[hb9.mpr (rt.ho g2g.g)]
    refine⟨_,rfl,rfl,_,rfl,iteN rfl ?_⟩
    have s09:=s08.trans s9
    refine cl3 rfl rfl rfl (Yc (WP.same s09) (Y.same s09) hm C BL (pt.same (s68.trans s9)) (fun ba Ha hba sa=>?_))
    have s0a:=s09.trans sa
    obtain⟨pl,e1,e2,e3⟩:=(Ll.same s0a).prs
    have hpl:PsAt Ha pl:=fun x hx=>⟨e3 x hx,(WP.wl.bd wh) _ (by rw[← e2];exact List.mem_map.mpr ⟨x,hx,rfl⟩)⟩
    refine⟨_,rfl,l,pl,rfl,SqL.of (by rw[e1];exact s0a _ _ hl),?_,hpl,fun lb qb hlb pmb upb=>?_⟩
    ·have:=congrArg List.length e2
     rw[List.length_map] at this
     rw[this]
     exact WP.wl.le
    have Sb:=xm hpl pmb upb
    rw[e2] at Sb
    generalize hE:L2.upd Ha lb _=Hb
    obtain⟨gb,sb⟩:=al hE hlb
    clear hE
    have s0b:=s0a.trans sb
    obtain⟨pm',f1,f2,f3⟩:=(Lm.same s0b).prs
    have hpm:PsAt Hb pm':=fun x hx=>⟨f3 x hx,(WO.wl.bd wh) _ (by rw[← f2];exact List.mem_map.mpr ⟨x,hx,rfl⟩)⟩
    refine⟨_,rfl,m,pm',rfl,SqL.of (by rw[f1];exact s0b _ _ hmo),?_,hpm,fun lc qc hlc pmc upc=>?_⟩
    ·have:=congrArg List.length f2
     rw[List.length_map] at this
     rw[this]
     exact WO.wl.le
    have Sc:=xm hpm pmc upc
    rw[f2] at Sc
    generalize hE:L2.upd Hb lc _=Hc
    obtain⟨gc,sc⟩:=al hE hlc
    clear hE
    refine zad (sc _ _ gb) gc ((Sb.same sb).same sc) (Sc.same sc) (un 1 (by omega)) ?_
    refine⟨rfl,_,rfl,iteN ?_ ?_⟩
    ·have e:ba=decide (srt ls=srt ms):=by
      rw[Bool.eq_iff_iff,decide_eq_true_eq,hba]
      exact rt.two wh WP.wl WO.wl gg.g
     rw[e]
     simp
    ·exact⟨_,rfl,s5.trans (s6.trans (s68.trans (s9.trans (sa.trans (sb.trans sc)))))⟩
  ·rintro σ G ⟨o7,rfl,sg⟩
   have s0g:=s04.trans sg
   refine cl2 rfl rfl (Z9 (WP.same s0g) (Y.same s0g) hm C BL gg (fun d3 jf H9 hd3 pf3 rf s9=>?_))
   have pp9:=pp4.same (sg.trans s9)
   have lk:jf.map (·.1)=js.map (·.1):=rf.ks.trans rd.ks.symm
   refine⟨_,rfl,d3,d,kvP jf,kvP js,2,rfl,rfl,pf3.dd,pp9.dd,?_,un 2 (by omega),fun x hx=>?_,k _ (s0g.trans s9)⟩
   ·have:=congrArg List.length lk
    rw[List.length_map,List.length_map] at this
    unfold kvP
    rw[List.length_map,List.length_map,this]
   ·unfold kvP at hx
    obtain⟨j,hj,rfl⟩:=List.mem_map.mp hx
    have:j.1∈js.map (·.1):=by rw[← lk];exact List.mem_map.mpr ⟨j,hj,rfl⟩
    obtain⟨j',hj',e⟩:=List.mem_map.mp this
    refine⟨.ref j'.2.1,?_,?_⟩
    ·rw[← e]
     exact List.mem_map.mpr ⟨j',hj',rfl⟩
    ·have h1:=rf.hd j hj
     have h2:=rd.hd j' hj'
     rw[e,h1] at h2
     have h3:j.2.2=j'.2.2:=by injection h2
     have h4:=pf3.row j hj
     have h5:=pp9.row j' hj'
     rw[← h3] at h5
     exact VZ h4 h5
open L2.Sco (PT PsAt rkP)
theorem Le.iff {hs us:LI}{ls bs:LP}{pf:Int→Option Int}(wl:Ls hs ls) (hm:∀ x,x∈us↔x∈hs) (en:∀ x∈us,∃ l,En pf x l) (nd:bs.Nodup) (lt:∀ b∈bs,b.1≤b.2):GG us ls pf bs↔Le hs ls pf (paO pf) bs:=by
 constructor
 ·intro g
  exact⟨fun x hx=>g.g.ad x ((hm x).mpr hx),fun b hb=>⟨adLn wl (g.g.gd.1 b hb).1 (g.g.gd.1 b hb).2.1,(g.g.gd.1 b hb).2.2⟩,g.cov⟩
 ·intro l
  refine⟨⟨fun x hx=>l.ad x ((hm x).mp hx),en,fun b hb=>⟨?_,lt b hb,(l.br b hb).2⟩,nd⟩,l.cov⟩
  unfold adB
  rw[decide_eq_true (l.br b hb).1]
  rfl
structure WyF (hs us:LI) (ls bs:LP) (r:Nat) (pf:Int→Option Int):Prop where
 B:ByC hs ls r pf bs
 m:∀ x,x∈us↔x∈hs
 cl:Cl us pf
 en:∀ x∈us,∃ l,En pf x l
 nd:bs.Nodup
 lt:∀ b∈bs,b.1≤b.2
 br:BrL hs bs
 gg:GG us ls pf bs
 le:bs.length≤66
theorem wyF {hs us:LI}{ls:LP}{r:Nat}(wh:Hs hs) (wl:Ls hs ls) (hm:∀ x,x∈us↔x∈hs):WyF hs us ls (brs ls r hs) r (pfh ls r hs):=by
 have B:ByC hs ls r (pfh ls r hs) (brs ls r hs):=byC wh
 have Br:Bri ls (ldr (paO (pfh ls r hs))) (brs ls r hs):=bri
 have en:∀ x∈us,∃ l,En (pfh ls r hs) x l:=fun x hx=>B.en x ((hm x).mp hx)
 have nd:(brs ls r hs).Nodup:=by
  have:=Br.nd
  rw[List.nodup_iff_pairwise_ne,List.pairwise_map] at this
  exact List.nodup_iff_pairwise_ne.mpr (this.imp fun n z=>n (by rw[z]))
 have lt:∀ b∈brs ls r hs,b.1≤b.2:=fun b hb=>Int.le_of_lt (wl.ok b (Br.mem b hb).1).2.2
 refine⟨B,hm,fun x hx y hy=>(hm y).mpr (B.cl x ((hm x).mp hx) y hy),en,nd,lt,fun b hb=>⟨(wl.ok b (Br.mem b hb).1).1,(wl.ok b (Br.mem b hb).1).2.1⟩,(Le.iff wl hm en nd lt).mpr ⟨B.ad,Br.mem,fun p hp hn=>?_⟩,Nat.le_trans Xa wl.le⟩
 obtain⟨b,h1,h2,_⟩:=Br.mn p hp hn
 exact⟨b,h1,h2⟩
def Kq (l W:Addr) (H H':Hp):Prop:=∀ b o,H b=some o→b≠l→b≠W→H' b=some o
structure WyL (a:Ad) (H:Hp) (l W:Addr) (hs:LI) (ls:LP) (q:Addr) (R:Int) (r:Nat) (us:LI) (dx dp ob:Addr):Prop where
 at_:WayAt a H q (PF ls r hs.length hs) us (brs ls r hs) dx dp ob
 m:∀ x,x∈us↔x∈hs
 r:(r:Int)≤R
 nl:ob≠l∧ob≠W
structure LaSt (a:Ad) (H:Hp) (l W h q p:Addr) (hs:LI) (ls:LP) (rs:List V) (ts:List (Addr×Addr×Int)):Prop where
 hh:H h=some (.lst (hs.map V.int))
 nh:h≠l∧h≠W
 hq:H q=some (.lst rs)
 L:LnAt H rs ls
 nq:q≠l∧q≠W
 wb:∃ dx oh ol d ad,WebAt a H p hs ls dx oh ol d ad∧(oh≠l∧oh≠W)∧(ol≠l∧ol≠W)∧∀ x∈hs,ad x≠l∧ad x≠W
 ty:∀ t∈ts,H t.1=some (.tup [.ref t.2.1,.int t.2.2])∧∃ r us dx dp ob,WyL a H l W hs ls t.2.1 t.2.2 r us dx dp ob
theorem LnAt.kq {H H':Hp}{l W:Addr}{zl zw rs:List V}{ls:LP}(L:LnAt H rs ls) (hl:H l=some (.lst zl)) (hW:H W=some (.lst zw)) (k:Kq l W H H'):LnAt H' rs ls:=⟨L.1,fun i r p h1 h2=>by
 obtain⟨q,e1,e2⟩:=L.2 i r p h1 h2
 exact⟨q,e1,k _ _ e2 (fun z=>by rw[z,hl] at e2;cases e2) fun z=>by rw[z,hW] at e2;cases e2⟩⟩
theorem WyL.kq {H H':Hp}{l W q dx dp ob:Addr}{zl zw:List V}{hs us:LI}{ls:LP}{R:Int}{r:Nat}(Y:WyL a H l W hs ls q R r us dx dp ob) (hl:H l=some (.lst zl)) (hW:H W=some (.lst zw)) (k:Kq l W H H'):WyL a H' l W hs ls q R r us dx dp ob:=by
 obtain⟨⟨y1,y2,⟨rs,y3,y4⟩,y5,y6,y7⟩,m,r,nl⟩:=Y
 exact⟨⟨k _ _ y1 (fun z=>by rw[z,hl] at y1;cases y1) (fun z=>by rw[z,hW] at y1;cases y1),k _ _ y2 (fun z=>by rw[z,hl] at y2;cases y2) (fun z=>by rw[z,hW] at y2;cases y2),⟨rs,k _ _ y3 nl.1 nl.2,y4.kq hl hW k⟩,y5,y6,y7⟩,m,r,nl⟩
theorem LaSt.kq {H H':Hp}{l W h q p:Addr}{zl zw:List V}{hs:LI}{ls:LP}{rs:List V}{ts:List (Addr×Addr×Int)}(S:LaSt a H l W h q p hs ls rs ts) (hl:H l=some (.lst zl)) (hW:H W=some (.lst zw)) (k:Kq l W H H'):LaSt a H' l W h q p hs ls rs ts:=by
 refine⟨k _ _ S.hh S.nh.1 S.nh.2,S.nh,k _ _ S.hq S.nq.1 S.nq.2,S.L.kq hl hW k,S.nq,?_,fun t ht=>?_⟩
 ·obtain⟨dx,oh,ol,d,ad,⟨w1,w2,⟨w3,w4⟩,⟨zs,w5,w6⟩⟩,n1,n2,n3⟩:=S.wb
  exact⟨dx,oh,ol,d,ad,⟨k _ _ w1 (fun z=>by rw[z,hl] at w1;cases w1) (fun z=>by rw[z,hW] at w1;cases w1),k _ _ w2 n1.1 n1.2,⟨k _ _ w3 (fun z=>by rw[z,hl] at w3;cases w3) (fun z=>by rw[z,hW] at w3;cases w3),fun x hx=>k _ _ (w4 x hx) (n3 x hx).1 (n3 x hx).2⟩,⟨zs,k _ _ w5 n2.1 n2.2,w6.kq hl hW k⟩⟩,n1,n2,n3⟩
 ·obtain⟨t1,r,us,dx,dp,ob,Y⟩:=S.ty t ht
  exact⟨k _ _ t1 (fun z=>by rw[z,hl] at t1;cases t1) (fun z=>by rw[z,hW] at t1;cases t1),r,us,dx,dp,ob,Y.kq hl hW k⟩
theorem LaSt.same {H H':Hp}{l W h q p:Addr}{hs:LI}{ls:LP}{rs:List V}{ts:List (Addr×Addr×Int)}(S:LaSt a H l W h q p hs ls rs ts) (k:Same H H'):LaSt a H' l W h q p hs ls rs ts:=by
 refine⟨k _ _ S.hh,S.nh,k _ _ S.hq,S.L.same k,S.nq,?_,fun t ht=>?_⟩
 ·obtain⟨dx,oh,ol,d,ad,W,n⟩:=S.wb
  exact⟨dx,oh,ol,d,ad,W.same k,n⟩
 ·obtain⟨t1,r,us,dx,dp,ob,Y⟩:=S.ty t ht
  exact⟨k _ _ t1,r,us,dx,dp,ob,Y.at_.same k,Y.m,Y.r,Y.nl⟩
theorem LaSt.wp {H:Hp}{l W h q p:Addr}{hs:LI}{ls:LP}{rs:List V}{ts:List (Addr×Addr×Int)}(S:LaSt a H l W h q p hs ls rs ts) (wh:Hs hs) (wl:Ls hs ls):WbP a H p hs ls:=⟨wh,wl,let ⟨dx,oh,ol,d,ad,W,_⟩:=S.wb;⟨dx,oh,ol,d,ad,W⟩⟩
theorem LaSt.add {H:Hp}{l W h q p t y dx dp ob:Addr}{zs:List V}{hs us:LI}{ls:LP}{rs:List V}{ts:List (Addr×Addr×Int)}{R:Int}{r:Nat}(S:LaSt a H l W h q p hs ls rs ts) (X:XsAt H l) (hW:H W=some (.lst zs)) (ht:H t=some (.tup [.ref y,.int R])) (Y:WyL a H l W hs ls y R r us dx dp ob){zs':List V} :
  LaSt a (upd H W (.lst zs')) l W h q p hs ls rs (ts++[(t,y,R)]):=by
 have S':LaSt a H l W h q p hs ls rs (ts++[(t,y,R)]):=⟨S.hh,S.nh,S.hq,S.L,S.nq,S.wb,fun x hx=>by
  rcases List.mem_append.mp hx with z | z
  ·exact S.ty x z
  ·rw[List.mem_singleton.mp z]
   exact⟨ht,r,us,dx,dp,ob,Y⟩⟩
 obtain⟨zl,hl,_⟩:=X
 exact S'.kq hl hW fun b o e n1 n2=>by rw[upd_ne n2];exact e
open L2.Sco (PT PsAt rkP)
theorem Ww {l h:Addr}{hs:LI}{H:Hp}{Q:VK}{E:XK}(x:XsAt H l) (hh:H h=some (.lst (hs.map V.int))) (n:h≠l) (wh:Hs hs) (k:∀ (q:Addr) (rs:List V) (ls:LP) (H':Hp),H q=none→H' q=some (.lst rs)→LnAt H' rs ls→Ls hs ls→XsAt H' l→Ext l H H'→Q (.ref q) H'):zaJ [.ref l,.ref h] H Q E:=⟨l,h,hs,rfl,x,hh,n,wh,k⟩
theorem Wy {f:LI→Nat}{p:Addr}{hs:LI}{ls:LP}{H:Hp}{Q:VK}{E:XK}(w:WbP a H p hs ls) (k:∀ (q dx dp ob:Addr) (us:LI) (H':Hp),H ob=none→WayAt a H' q (PF ls (f hs) hs.length hs) us (brs ls (f hs) hs) dx dp ob→(∀ x,x∈us↔x∈hs)→Same H H'→Q (.ref q) H'):Uv a f [.ref p] H Q E:=⟨p,hs,ls,rfl,w,k⟩
theorem spBc_i {p:Addr}{hs:LI}{ls:LP}{r:Nat}{i:Int}{H:Hp}{Q:VK}{E:XK}(e:i=(r:Int)) (w:WbP a H p hs ls) (k:∀ (q dx dp ob:Addr) (us:LI) (H':Hp),H ob=none→WayAt a H' q (PF ls r hs.length hs) us (brs ls r hs) dx dp ob→(∀ x,x∈us↔x∈hs)→Same H H'→Q (.ref q) H'):Uu a [.ref p,.int i] H Q E:=⟨p,hs,ls,r,by rw[e],w,k⟩
def spLaw (K:PySem.W.Frag):Sp:=fun vs H Q _=>∃ (a:Addr) (ns:LI),vs=[.ref a]∧SqL K H a (ns.map V.int)∧ns.length≤63∧∀ H',Q (.bl true) H'
theorem sp_law_of {K:PySem.W.Frag}{H:Hp}{a:Addr}{ns:LI}(hl:ns.length≤63) (hO:zal H) (hS:SqL K H a (ns.map V.int)):spLaw K [.ref a] H (fun v _=>v=.bl true) fun _ _ _=>False:=⟨a,ns,rfl,hS,hl,fun _=>rfl⟩
theorem ok_law (T:Txt w K mg a):FnOk P w K mg base CX0 26 488 (dK K 488) ["_law_script"] (spLaw K):=by
 have c__law_cell_at:Callee P w K mg base "_law_cell_at" 421 (dK K 421) ["_law_script", "_law_k"] 1 (Wx K):=⟨VG T,(T.g 28 rfl),(T.fn 28 rfl).kp,(T.bi 28 rfl)⟩
 have c__law_draws:Callee P w K mg base "_law_draws" 428 (dK K 428) ["_law_cell", "_law_many"] 1 Ye:=⟨XH T,(T.g 29 rfl),(T.fn 29 rfl).kp,(T.bi 29 rfl)⟩
 have c__law_hands:Callee P w K mg base "_law_hands" 440 (dK K 440) ["_law_xs", "_law_most"] 2 zbI:=⟨za9 T,(T.g 31 rfl),(T.fn 31 rfl).kp,(T.bi 31 rfl)⟩
 have c__law_lines:Callee P w K mg base "_law_lines" 447 (dK K 447) ["_law_xs", "_law_hands_here"] 2 zaJ:=⟨za8 T,(T.g 32 rfl),(T.fn 32 rfl).kp,(T.bi 32 rfl)⟩
 have c__law_take:Callee P w K mg base "_law_take" 435 (dK K 435) ["_law_xs", "_law_size"] 1 u7:=⟨uC T,(T.g 30 rfl),(T.fn 30 rfl).kp,(T.bi 30 rfl)⟩
 have m_Web:Maker P w K mg base "Web" 410 358 (dK K 358) ["self", "hands", "lines"] 4 (Up a):=⟨UJ T,(T.gc 1 rfl),(T.mm 1 rfl),(T.bi 47 rfl)⟩
 have c_by_neighbours:Callee P w K mg base "by_neighbours" 248 (dK K 248) ["web"] 9 (Uv a fun _=>0):=⟨zbg T,(T.g 13 rfl),(T.fn 13 rfl).kp,(T.bi 13 rfl)⟩
 have c_by_tree:Callee P w K mg base "by_tree" 255 (dK K 255) ["web"] 9 (Uv a List.length):=⟨zbf T,(T.g 14 rfl),(T.fn 14 rfl).kp,(T.bi 14 rfl)⟩
 have c_by_clusters:Callee P w K mg base "by_clusters" 241 (dK K 241) ["web", "reach"] 8 (Uu a):=⟨VH T,(T.g 12 rfl),(T.fn 12 rfl).kp,(T.bi 12 rfl)⟩
 have c_lets:Callee P w K mg base "lets" 215 (dK K 215) ["web", "way"] 9 (Ur a):=⟨VD T,(T.g 8 rfl),(T.fn 8 rfl).kp,(T.bi 8 rfl)⟩
 have c__law_right:Callee P w K mg base "_law_right" 469 (dK K 469) ["_law_hands_here", "_law_lines_here", "_law_way", "_law_reach"] 7 (zbE a):=⟨za0 T,(T.g 36 rfl),(T.fn 36 rfl).kp,(T.bi 36 rfl)⟩
 have c__law_lets:Callee P w K mg base "_law_lets" 464 (dK K 464) ["_law_hands_here", "_law_lines_here", "_law_parents", "_law_bridges"] 3 zbJ:=⟨zba T,(T.g 35 rfl),(T.fn 35 rfl).kp,(T.bi 35 rfl)⟩
 have c__law_two_webs:Callee P w K mg base "_law_two_webs" 481 (dK K 481) ["_law_web", "_law_other", "_law_way", "_law_hands_here", "_law_lines_here", "_law_more"] 12 (zbC a):=⟨zaY T,(T.g 38 rfl),(T.fn 38 rfl).kp,(T.bi 38 rfl)⟩
 refine(T.fn 39 rfl).ok (scp 39 rfl) (fun vs H Q E h=>?_) (fun cdv A outer s H vs Q E hr h=>?_)
 ·obtain⟨x,ns,rfl,_⟩:=h
  rfl
 ·obtain⟨sc,ns,rfl,hS,hlen,k⟩:=h
  refine zT (w_pss_cons (w_ps_set (i:=1) (scp 39 rfl).nd rfl (Or.inl rfl) (zq c__law_draws hr.m (zQ (zq c__law_cell_at hr.m (zg (zh 0) (yx zi zd))) (yx zi zd))))
   (w_pss_cons (w_ps_set (i:=2) (scp 39 rfl).nd rfl (Or.inl rfl) (zq c__law_hands hr.m (zg (zh 1) (yx zi zd))))
   (w_pss_cons (w_ps_set (i:=3) (scp 39 rfl).nd rfl (Or.inl rfl) (zq c__law_lines hr.m (zg (zh 1) (zg (zh 2) zd))))
   (w_pss_cons (w_ps_set (i:=4) (scp 39 rfl).nd rfl (Or.inl rfl) (uU m_Web hr.m (zg (zh 2) (zg (zh 3) zd))))
   (w_pss_cons (w_ps_set (i:=5) (scp 39 rfl).nd rfl (Or.inl rfl) (zM (xv (zR (zQ (zq c_by_neighbours hr.m (zg (zh 4) zd)) (yx zi zd))) (xv (zR (zQ (zq c_by_tree hr.m (zg (zh 4) zd)) (yx zi zd))) zd))))
   (w_pss_cons (zG PassesOwn.never rfl (yw rfl (T.n 2 rfl) (yx zi zd)) (zk (i:=6) (scp 39 rfl).nd rfl (Or.inl rfl))
    (ze (zO (yi PySem.F.plainAttrs_list PySem.F.slot_list_append PySem.F.type_list_append zU (zh 5) (xv (zR (zQ (zq c_by_clusters hr.m (zg (zh 4) (zg (zh 6) zd))) (zg (zh 6) zd))) zd)))))
   (w_pss_cons (w_ps_set (i:=6) (scp 39 rfl).nd rfl (Or.inl rfl) (zq c__law_take hr.m (zg (zh 1) (yx zi zd))))
   (w_pss_cons (zO (yi PySem.F.plainAttrs_list PySem.F.slot_list_append PySem.F.type_list_append zU (zh 5) (xv (zR (zQ (zq c_by_clusters hr.m (zg (zh 4) (zg (zh 6) zd))) (zg (zh 6) zd))) zd)))
   (w_pss_cons (zG PassesOwn.never rfl (zy (zh 5)) (zZ rfl (zp (zk (i:=7) (scp 39 rfl).nd rfl (Or.inl rfl)) (zp (zk (i:=8) (scp 39 rfl).nd rfl (Or.inl rfl)) zP)))
    (ze (zB (we (yc (zn uB (zq c_lets hr.m (zg (zh 4) (zg (zh 7) zd))) zE (zC _)) (z6 (zN (zJ (zq c__law_right hr.m (zg (zh 2) (zg (zh 3) (zg (zh 7) (zg (zh 8) zd))))))))))
     (ze (zj zE))
     zo)))
   (w_pss_cons (w_ps_set (i:=9) (scp 39 rfl).nd rfl (Or.inl rfl) (zq c__law_lines hr.m (zg (zh 1) (zg (zh 2) zd))))
   (w_pss_cons (w_ps_set (i:=10) (scp 39 rfl).nd rfl (Or.inl rfl) (uU m_Web hr.m (zg (zh 2) (zg (zh 9) zd))))
   (w_pss_cons (zG PassesOwn.never rfl (zy (zh 5)) (zZ rfl (zp (zk (i:=7) (scp 39 rfl).nd rfl (Or.inl rfl)) (zp (zk (i:=8) (scp 39 rfl).nd rfl (Or.inl rfl)) zP)))
    (w_pss_cons (w_ps_set (i:=11) (scp 39 rfl).nd rfl (Or.inl rfl) (zq c__law_lets hr.m (zg (zh 2) (zg (zh 9) (zQ (zK (zh 7)) (zQ (zK (zh 7)) zd))))))
    (w_pss_cons (w_ps_set (i:=12) (scp 39 rfl).nd rfl (Or.inl rfl) (zq c_lets hr.m (zg (zh 10) (zg (zh 7) zd))))
    (ze (zB (we (yc (zN (zJ (zm zY (by rfl) (T.n 3 rfl) zA (zg (zh 12) (zg (yh (T.n 7 rfl) uP) zd))))) (z6 (zn x6 (zh 12) (zh 11) (zC _)))))
     (ze (zj zE))
     zo)))))
   (ze (zj (uo (z7 v0 (zm zF (by rfl) (T.n 0 rfl) yj (zg (zh 2) zd)) zi (zC _)) (yL (zq c__law_two_webs hr.m (zg (zh 4) (zg (zh 10) (zr (zL ym (zL ye (zh 5) (xj xU zi) (fun _ _=>rfl)) zi (fun _ _=>rfl)) (zg (zh 2) (zg (zh 3) (zg (zh 9) zd))))))))))))))))))))))) ?_
  refine⟨_,rfl,sc,ns,0,rfl,hS,by decide,fun c0=>?_⟩
  refine⟨c0,170,rfl,by decide,fun l H1 hl0 x1 y1=>?_⟩
  refine⟨_,rfl,l,12,rfl,by decide,by decide,x1,fun h hs H2 hh0 hh wh x2 y2=>?_⟩
  have hne:=x1.ne hh0
  refine cl2 rfl rfl (Ww x2 hh hne wh fun q rs ls H3 hq0 hq L wl x3 y3=>?_)
  have hh3:=y3 _ _ hh hne
  have nq:=x2.ne hq0
  refine⟨_,rfl,_,rfl,fun x wx nx ndx nex=>?_⟩
  have m1:Same H3 (upd (upd H3 wx (.own x)) x (.ins 410 wx [])):=(Same.new ndx).updF nx
  refine⟨x,wx,h,q,rs,hs,ls,rfl,upd_same,m1 _ _ hh3,m1 _ _ hq,L.same m1,wh,wl,fun oh ol wd ad H4 foh fol fd fad x4 Wb4=>⟨rfl,?_⟩⟩
  have s4:Same H3 H4:=fun b o e=>x4 b o (m1 b o e) (ne_of_none e nx)
  have Xm:=x3.same m1
  have noh:=Xm.ne foh
  have nol:=Xm.ne fol
  have nad:∀ y∈hs,ad y≠l:=fun y hy=>Xm.ne (fad y hy)
  have X4:=x3.same s4
  have WP4:WbP a H4 x hs ls:=⟨wh,wl,wx,oh,ol,wd,ad,Wb4⟩
  have hh4:=s4 _ _ hh3
  have hq4:=s4 _ _ hq
  have L4:=L.same s4
  clear x4 m1 s4 hh3 hq L x3 y3 hh x2 y2 x1 y1 Xm foh fol fd fad
  refine cl1 rfl (Wy WP4 fun q1 dx1 dp1 ob1 us1 H5 f1 W1 m1 s5=>?_)
  have n1:=X4.ne f1
  refine⟨(by show 2≤sizeLine;decide),fun t1 ht1=>?_⟩
  generalize hE:L2.upd H5 t1 _=H6
  obtain⟨g6,s6⟩:=al hE ht1
  clear hE
  have s46:=s5.trans s6
  refine cl1 rfl (Wy (WP4.same s46) fun q2 dx2 dp2 ob2 us2 H7 f2 W2 m2 s7=>?_)
  have n2:=(X4.same s46).ne f2
  refine⟨(by show 2≤sizeLine;decide),fun t2 ht2=>?_⟩
  generalize hE:L2.upd H7 t2 _=H8
  obtain⟨g8,s8⟩:=al hE ht2
  clear hE
  refine⟨(by show 2≤sizeLine;decide),fun W hW=>?_⟩
  generalize hE:L2.upd H8 W _=H9
  obtain⟨g9,s9⟩:=al hE hW
  clear hE
  have s48:=s46.trans (s7.trans s8)
  have s49:=s48.trans s9
  have nW:∀ {b:Addr}{o:HO},H8 b=some o→b≠W:=fun {b o} e=>ne_of_none e hW
  have X9:=X4.same s49
  have nWl:W≠l:=(X4.same s48).ne hW
  have l12:=wh.l12
  have S9:LaSt a H9 l W h q x hs ls rs [(t1,q1,0),(t2,q2,12)]:=by
   have W1':=W1.same (s6.trans (s7.trans s8))
   have W2':=W2.same s8
   refine⟨s49 _ _ hh4,⟨hne,nW (s48 _ _ hh4)⟩,s49 _ _ hq4,L4.same s49,⟨nq,nW (s48 _ _ hq4)⟩,⟨wx,oh,ol,wd,ad,Wb4.same s49,⟨noh,nW (s48 _ _ Wb4.oh)⟩,⟨nol,?_⟩,fun y hy=>⟨nad y hy,nW (s48 _ _ (Wb4.nr.nb y hy))⟩⟩,fun t ht=>?_⟩
   ·obtain⟨zs,e,_⟩:=Wb4.ol
    exact nW (s48 _ _ e)
   ·rcases List.mem_cons.mp ht with z | z
    ·rw[z]
     refine⟨(s7.trans (s8.trans s9)) _ _ g6,0,us1,dx1,dp1,ob1,W1'.same s9,m1,Int.le_refl _,n1,?_⟩
     obtain⟨zs,e,_⟩:=W1'.ob
     exact nW e
    ·rw[List.mem_singleton.mp z]
     refine⟨s9 _ _ g8,hs.length,us2,dx2,dp2,ob2,W2'.same s9,m2,by show(hs.length:Int)≤12;omega,n2,?_⟩
     obtain⟨zs,e,_⟩:=W2'.ob
     exact nW e
  clear g6 g8 s46 s48 s49 s5 s6 s7 s8 s9 W1 W2 X4 WP4 hh4 hq4 L4 Wb4 nW
  refine⟨4,rfl,by decide,by decide,?_⟩
  refine for_range (lo:=0) (n:=4) (fun i σ G=>∃ (ts:List (Addr×Addr×Int)) (o6:Option V),σ=[some (.ref sc),some (.ref l),some (.ref h),some (.ref q),some (.ref x),some (.ref W),o6,none,none,none,none,none,none]∧G W=some (.lst (ts.map fun t=>V.ref t.1))∧LaSt a G l W h q x hs ls rs ts∧XsAt G l∧ts.length=2+i) ?_ ?_ ?_
  ·exact⟨[(t1,q1,0),(t2,q2,12)],none,rfl,g9,S9,X9,rfl⟩
  ·rintro i σ G hi ⟨ts,o6,rfl,gW,S,X,lt⟩
   refine⟨_,rfl,.inl ⟨rfl,_,SqL.of gW⟩,cl2 rfl rfl (spBc_i (Int.zero_add _) (S.wp wh wl) fun y dx dp ob us G2 fo Y m s2=>?_)⟩
   refine⟨_,rfl,(by show 2≤sizeLine;decide),fun t ht=>?_⟩
   generalize hE:L2.upd G2 t _=G3
   obtain⟨g3,s3⟩:=al hE ht
   clear hE
   have s23:=s2.trans s3
   refine⟨W,_,_,rfl,rfl,s23 _ _ gW,by rw[List.length_map];exact zu (by omega),?_⟩
   refine⟨ts++[(t,y,0+(i:Int))],_,rfl,by rw[upd_same,List.map_append];rfl,(S.same s23).add (X.same s23) (s23 _ _ gW) g3 (r:=i) (us:=us) (dx:=dx) (dp:=dp) (ob:=ob) ⟨Y.same s3,m,by omega,X.ne fo,fun z=>by rw[z,gW] at fo;cases fo⟩,(X.same s23).upd nWl,by simp;omega⟩
  rintro σ G ⟨ts,o6,rfl,gW,S,X,lt⟩
  refine⟨_,rfl,l,13,rfl,X,by decide,fun d G1 d0 d1 X1 y1=>?_⟩
  obtain⟨zl,hl,_⟩:=id X
  have S1:=S.kq hl gW fun b o e n1 _=>y1 b o e n1
  have gW1:=y1 _ _ gW nWl
  refine⟨_,rfl,.inl ⟨rfl,_,SqL.of gW1⟩,cl2 rfl rfl (spBc_i (Int.toNat_of_nonneg d0).symm (S1.wp wh wl) fun y dx dp ob us G2 fo Y m s2=>?_)⟩
  refine⟨_,rfl,(by show 2≤sizeLine;decide),fun t ht=>?_⟩
  generalize hE:L2.upd G2 t _=G3
  obtain⟨g3,s3⟩:=al hE ht
  clear hE
  have s23:=s2.trans s3
  refine⟨W,_,_,rfl,rfl,s23 _ _ gW1,by rw[List.length_map];exact zu (by omega),?_⟩
  have S4:=(S1.same s23).add (X1.same s23) (s23 _ _ gW1) g3 (zs':=(ts.map fun t=>V.ref t.1)++[V.ref t]) (r:=d.toNat) (us:=us) (dx:=dx) (dp:=dp) (ob:=ob) ⟨Y.same s3,m,by omega,X1.ne fo,fun z=>by rw[z,gW1] at fo;cases fo⟩
  have gW4:=upd_same (H:=G3) (a:=W) (o:=HO.lst ((ts.map fun t=>V.ref t.1)++[V.ref t]))
  have X4:=(X1.same s23).upd (o:=HO.lst ((ts.map fun t=>V.ref t.1)++[V.ref t])) nWl
  generalize L2.upd G3 W _=G4 at *
  have ew:(ts.map fun t=>V.ref t.1)++[V.ref t]=(ts++[(t,y,d)]).map fun t=>V.ref t.1:=by rw[List.map_append];rfl
  rw[ew] at gW4
  clear Y s2 s3 s23 g3 S1 X1 gW1 y1 S X gW hl S9 X9 g9
  generalize hcut:ts++[(t,y,d)]=tw at *
  refine⟨_,rfl,W,rfl,⟨_,SqL.of gW4⟩,?_⟩
  refine for_list (K:=K) (a:=W) (xs:=tw.map fun t=>V.ref t.1) (fun i σ G=>∃ (o7 o8:Option V),σ=[some (.ref sc),some (.ref l),some (.ref h),some (.ref q),some (.ref x),some (.ref W),some (.int d),o7,o8,none,none,none,none]∧Same G4 G) ?_ ?_ ?_ ?_
  ·exact⟨none,none,rfl,Same.refl _⟩
  ·rintro i σ G _ ⟨o7,o8,_,sm⟩
   exact SqL.of (sm _ _ gW4)
  ·rintro i v σ G hi ⟨o7,o8,rfl,sm⟩
   rw[List.getElem?_map] at hi
   obtain⟨tt,htt,rfl⟩:=Option.map_eq_some_iff.mp hi
   have SG:=S4.same sm
   obtain⟨e1,r,us,dx,dp,ob,Y⟩:=SG.ty tt (List.mem_of_getElem? htt)
   have F:=wyF (r:=r) wh wl Y.m
   refine⟨tt.1,_,rfl,SqT.of e1,rfl,_,_,rfl,_,_,rfl,rfl,?_⟩
   refine cl2 rfl rfl (Ya (SG.wp wh wl) Y.at_ Y.m F.cl F.br fun b G5 hb s5=>?_)
   rw[hb.mpr F.gg]
   refine⟨_,rfl,rfl,_,rfl,iteN rfl ?_⟩
   refine⟨_,rfl,_,rfl,_,rfl,_,rfl,h,q,tt.2.1,dx,dp,ob,rs,hs,us,ls,brs ls r hs,PF ls r hs.length hs,r,tt.2.2,rfl,s5 _ _ SG.hh,s5 _ _ SG.hq,SG.L.same s5,wh,wl,Y.at_.same s5,Y.m,F.B,Y.r,fun G6 s6=>?_⟩
   exact⟨_,rfl,iteN rfl ⟨_,_,rfl,sm.trans (s5.trans s6)⟩⟩
  rintro σ G5 ⟨o7,o8,rfl,s5⟩
  have S5:=S4.same s5
  have X5:=X4.same s5
  have gW5:=s5 _ _ gW4
  obtain⟨zl,hl5,_⟩:=id X5
  refine cl2 rfl rfl (Ww X5 S5.hh S5.nh.1 wh fun m rm ms G6 hm0 gm Lm wm X6 y6=>?_)
  have S6:=S5.kq hl5 gW5 fun b o e n1 _=>y6 b o e n1
  have gW6:=y6 _ _ gW5 nWl
  clear S5 X5 gW5 hl5 S4 X4 gW4 s5
  refine⟨_,rfl,_,rfl,fun x2 wx2 nx2 ndx2 nex2=>?_⟩
  have m2:Same G6 (upd (upd G6 wx2 (.own x2)) x2 (.ins 410 wx2 [])):=(Same.new ndx2).updF nx2
  refine⟨x2,wx2,h,m,rm,hs,ms,rfl,upd_same,m2 _ _ S6.hh,m2 _ _ gm,Lm.same m2,wh,wm,fun oh2 ol2 wd2 ad2 G7 _ _ _ _ x7 Wb7=>⟨rfl,?_⟩⟩
  have s7:Same G6 G7:=fun b o e=>x7 b o (m2 b o e) (ne_of_none e nx2)
  have WO:WbP a G7 x2 hs ms:=⟨wh,wm,wx2,oh2,ol2,wd2,ad2,Wb7⟩
  have S7:=S6.same s7
  have gW7:=s7 _ _ gW6
  have gm7:=s7 _ _ gm
  have Lm7:=Lm.same s7
  clear x7 m2 s7 S6 gW6 gm Lm X6 y6 Wb7
  refine⟨_,rfl,W,rfl,⟨_,SqL.of gW7⟩,?_⟩
  refine for_list (K:=K) (a:=W) (xs:=tw.map fun t=>V.ref t.1) (fun i σ G=>∃ (o7 o8 o11 o12:Option V),σ=[some (.ref sc),some (.ref l),some (.ref h),some (.ref q),some (.ref x),some (.ref W),some (.int d),o7,o8,some (.ref m),some (.ref x2),o11,o12]∧Same G7 G) ?_ ?_ ?_ ?_
  ·exact⟨_,_,none,none,rfl,Same.refl _⟩
  ·rintro i σ G _ ⟨o7,o8,o11,o12,_,sm⟩
   exact SqL.of (sm _ _ gW7)
  ·rintro i v σ G hi ⟨o7,o8,o11,o12,rfl,sm⟩
   rw[List.getElem?_map] at hi
   obtain⟨tt,htt,rfl⟩:=Option.map_eq_some_iff.mp hi
   have SG:=S7.same sm
   obtain⟨e1,r,us,dx,dp,ob,Y⟩:=SG.ty tt (List.mem_of_getElem? htt)
   have F:=wyF (r:=r) wh wl Y.m
   refine⟨tt.1,_,rfl,SqT.of e1,rfl,_,_,rfl,_,_,rfl,rfl,?_⟩
   refine⟨_,rfl,_,rfl,mtV rfl Y.at_.p rfl (T.cl 0 rfl) (T.mt 42 rfl) (VI (P:=P) (w:=w) T) hr.m (T.bi 42 rfl) (ag0 (Yf Y.at_ (fun d1 F1 _ hd1 f1=>?_)))⟩
   have Y1:=Y.at_.same f1
   refine mtV rfl Y1.p rfl (T.cl 0 rfl) (T.mt 43 rfl) (ok_ab (P:=P) (w:=w) T) hr.m (T.bi 43 rfl) (ag0 (wU Y1 (fun l2 rb F2 _ hl2 Lb2 f2=>?_)))
   have f02:=sm.trans (f1.trans f2)
   have hU:UpP us (PF ls r hs.length hs) (paO (PF ls r hs.length hs)):=UpP.of F.cl F.en
   refine⟨h,m,d1,l2,rm,rb,hs,us,ms,brs ls r hs,PF ls r hs.length hs,paO (PF ls r hs.length hs),rfl,f02 _ _ S7.hh,f02 _ _ gm7,Lm7.same f02,wh,wm,f2 _ _ hd1,Y.m,Y.at_.l12,hU,hl2,Lb2,F.br,F.le,fun b3 F3 hb3 f3=>?_⟩
   have f03:=f02.trans f3
   refine cl2 rfl rfl (Ya (WO.same f03) (Y1.same (f2.trans f3)) Y.m F.cl F.br fun b4 F4 hb4 f4=>?_)
   have eb:b4=b3:=by
    rw[Bool.eq_iff_iff,hb4,hb3]
    exact Le.iff wm Y.m F.en F.nd F.lt
   subst eb
   refine⟨_,rfl,_,_,_,_,_,rfl,rfl,.bl _,(T.k 17 rfl),_,rfl,iteN rfl ?_⟩
   refine⟨_,rfl,_,rfl,rfl,_,rfl,iteN (by simp) ?_⟩
   exact⟨_,_,_,_,rfl,f03.trans f4⟩
  rintro σ G8 ⟨o7,o8,o11,o12,rfl,s8⟩
  have S8:=S7.same s8
  refine⟨_,rfl,h,_,rfl,.inl (SqL.of S8.hh),_,_,rfl,rfl,?_⟩
  refine⟨_,rfl,?_⟩
  by_cases h8:hs.length≤8
  ·refine iteN (decide_eq_false (by rw[List.length_map];omega)) ?_
   obtain⟨e1,r,us,dx,dp,ob,Y⟩:=S8.ty (t,y,d) (by rw[← hcut];simp)
   have F:=wyF (r:=r) wh wl Y.m
   refine⟨_,rfl,_,rfl,_,rfl,_,rfl,W,_,-1,V.ref t,rfl,rfl,SqL.of (s8 _ _ gW7),by rw[← hcut,List.map_append];exact at_last,t,_,0,_,rfl,rfl,SqT.of e1,rfl,_,rfl,_,rfl,_,rfl,x,x2,y,h,q,m,dx,dp,ob,hs,us,ls,ms,brs ls r hs,rs,rm,PF ls r hs.length hs,rfl,h8,S8.wp wh wl,WO.same s8,Y.at_,Y.m,F.cl,F.br,F.gg,S8.hh,S8.hq,S8.L,s8 _ _ gm7,Lm7.same s8,fun G9 _=>k G9⟩
  ·exact iteB (decide_eq_true (by rw[List.length_map];omega)) (k _)
end
end K04
noncomputable section
noncomputable def PySem.W.Fast.tw14061455617486565787:=0
noncomputable def PySem.W.Fast.tw14633931826345236324:=0
noncomputable def PySem.W.Fast.tw8856144728478018897:=0
noncomputable def PySem.W.Fast.tw17062198468877432609:=0
noncomputable def PySem.W.Fast.tw11229564333759573049:=0
noncomputable def PySem.W.Fast.tw10598372733321371305:=0
noncomputable def PySem.W.Fast.tw11616086253799572649:=0
noncomputable def PySem.W.Fast.tw17758467707605542250:=0
noncomputable def PySem.W.Fast.tw14338876466950056905:=0
noncomputable def PySem.W.Fast.tw6496138341281078435:=0
noncomputable def PySem.W.Fast.tw6216741656489410486:=0
noncomputable def PySem.W.Fast.tw6123116592370679677:=0
noncomputable def PySem.W.Fast.tw16627384631628985244:=0
noncomputable def PySem.W.Fast.tw1688954305291010661:=0
noncomputable def PySem.W.Fast.tw8697170791317315040:=0
noncomputable def PySem.W.Fast.tw10579265108948214604:=0
noncomputable def PySem.W.Fast.tw9532633636177338432:=0
noncomputable def PySem.W.Fast.tw3299963512692046226:=0
noncomputable def PySem.W.Fast.tw9316987155075272405:=0
noncomputable def PySem.W.Fast.tw5518260327533038333:=0
noncomputable def PySem.W.Fast.tw13793158388811680729:=0
noncomputable def PySem.W.Fast.tw10330366778594210143:=0
noncomputable def PySem.W.Fast.tw2679819212127310782:=0
noncomputable def PySem.W.Fast.tw1689613642844212636:=0
noncomputable def PySem.W.Fast.tw9031915412781655692:=0
noncomputable def PySem.W.Fast.tw3858109914732617049:=0
namespace Hd
open PySem PySem.W PySem.Calls PyProof.Rows
noncomputable abbrev pw:=PySem.Challenge.pw_beatless_k27_whole_made_ways_are_let_by
noncomputable def tt {α:Type}(_:α):Bool:=true
noncomputable def S (i:Nat):Stmt:=pw.main.body.getD i (.Pass ⟨0,0,0,0⟩)
def C (i j:Nat):Stmt:=L2.inClass (S i) j
def fd (n q:Str) (s:Stmt) (g:Addr) (d k c m:Value) (cd:Value):FuncData:=⟨n,q,L2.defArgs s,.stmts (L2.defBody s),L2.defScope s,g,[],d,k,c,m,none,cd,.none,0⟩
def zs:List Str:=List.map Str.ofString ["<module>", "/claim/cut.py", "__main__", "beatless.errors", "__name__", "__doc__", "__package__", "__loader__", "__spec__", "__annotations__", "__builtins__", "__file__", "__cached__", "_wall", "BeatlessError", "NoWeb", "k", "__module__", "__qualname__", "__firstlineno__", "__static_attributes__", "__weakref__", "beatless.ways", "NoHand", "NoWay", "is_whole", "copied", "value", "beatless.wholes", "Way", "are_parents", "come_to_leaders", "__init__", "parent_of", "all_parents", "all_bridges", "path_up", "leader", "depth_of", "depth", "children", "bridges_at", "self", "parents", "bridges", "Way.__init__", "hand", "each", "parent", "Way.parent_of", "Way.all_parents", "Way.all_bridges", "path", "above", "Way.path_up", "Way.leader", "Way.depth_of", "Way.depth", "Way.children", "Way.bridges_at", "own_bridges", "own_parents", "__dict__", "web", "way", "beatless.roads", "is_bridge", "are_bridges", "is_grounded", "first_joins", "lets", "refuse_unlet", "next_ring", "parents_in_cluster", "by_clusters", "by_neighbours", "by_tree", "road_within", "road_over", "bridges_by_leaders", "roads_for", "pairs_of", "roads", "are_wholes", "bridge", "seen", "lines", "found", "one", "other", "leaders", "bridged", "left", "ring", "reach", "steps", "neighbour", "down", "pairs", "paper", "values", "beatless.webs", "has_just_pairs", "holds", "MOST_HANDS", "LAST_HAND", "are_hands", "is_line", "are_lines", "near_by_hand", "key", "road", "hands", "ahead", "line", "near", "law_beatless_k27_whole_made_ways_are_let_by", "Web", "_law_cell_at", "_law_draws", "_law_take", "_law_hands", "has_hand", "has_line", "neighbours", "groups", "group_of", "Web.__init__", "Web.hands", "Web.lines", "Web.has_hand", "Web.has_line", "Web.neighbours", "Web.groups", "Web.group_of", "own_hands", "own_lines", "_law_script", "_law_k", "_law_cell", "_law_many", "_law_found", "_law_rest", "_law_number", "_law_mixed", "_law_xs", "_law_size", "_law_lines", "_law_near", "_law_up", "_law_lets", "_law_right", "_law_pairs", "_law_two_webs", "law", "_law_hands_here", "_law_way", "_law_j", "_law_near_here", "_law_draw", "_law_at", "_law_parents", "_law_hand", "_law_web", "_law_other", "_law_lines_here", "_law_more", "_law_paper", "_law_told", "_law_ways", "_law_reach", "_law_most", "_law_due"]
def s (n:Nat):Str:=zs.getD n ⟨#[]⟩
noncomputable def k0:Value:=.type "tuple"
noncomputable def k1:Value:=.type "code"
noncomputable def k2:Value:=.type "frame"
noncomputable def k3:Value:=.type "dict"
noncomputable def k4:Value:=.builtin "__main__.__loader__#opaque"
noncomputable def k5:Value:=.type "function"
noncomputable def k6:Value:=.type "ValueError"
noncomputable def k7:Value:=.type "builtin_function_or_method"
noncomputable def k8:Value:=.builtin "type.__prepare__"
noncomputable def k9:Value:=.type "type"
noncomputable def k10:Value:=.type "Exception"
noncomputable def k11:Value:=.type "BaseException"
noncomputable def k12:Value:=.type "object"
noncomputable def k13:Value:=.builtin "ValueError.__new__"
noncomputable def k14:Value:=.type "getset_descriptor"
noncomputable def k15:Value:=.builtin "ExceptionGroup.__weakref__"
noncomputable def k16:Value:=.type "super"
noncomputable def k17:Value:=.builtin "object.__init_subclass__"
noncomputable def k18:Value:=.builtin "object.__new__"
noncomputable def k19:Value:=.builtin "function.__dict__"
noncomputable def k20:Value:=.builtin "function.__dict__#set"
instance (n:Nat):OfNat Value n:=⟨.ref n⟩
noncomputable def iv (n:Int):Value:=.int n 0
def sv (n:Nat) (t:Tok):Value:=.str (s n) t
def en (P:Params) (x:Nat) (t:Tok) (v:Value):DictEntry:=⟨PyData.keyHash P (s x),sv x t,v⟩
noncomputable def O (c:Value) (l:Array Value):Obj:=Obj.mk c .none (Data.fields l) #[]
def tO (l:Array Value):Obj:=Obj.mk k0 .none (Data.seq l 0) #[]
def vO (l:Array Value):Obj:=O .none l
def Q (l:Array DictEntry) (e:Nat):Obj:=Obj.mk k3 .none (Data.dict l e) #[]
def gO (n q:Nat) (z:Stmt):Obj:=Obj.mk .none .none (Data.func (fd (s n) (s q) z 0 .none .none .none .none .none)) #[]
def uO (n q:Nat) (z:Stmt) (m:Value) (r:Addr):Obj:=Obj.mk k5 .none (Data.func (fd (s n) (s q) z 3 .none .none .none m (.ref r))) #[]
def cO (n q:Nat) (t l m k:Nat) (r1 r2:Addr) (b:Bool) (r3 r4 r5:Value) (x:Nat):Obj:=O k1 #[sv n t,sv q (t+1),sv 1 (t+2),iv l,iv m,iv 0,iv 0,iv k,.ref r1,.bool b,iv 181,.ref r2,.none,r3,r4,r5,iv x,iv l,sv 1 (x+1)]
def F (b t n q:Nat) (z:Stmt) (l m:Nat) (M:Value) (vs:List Nat):List Obj:=[tO #[],vO #[],tO (vs.zipIdx.map fun p=>sv p.1 (t+3+p.2)).toArray,tO #[],gO n q z,cO n q t l m 3 b (b+1) true (.ref (b+2)) (.ref (b+3)) (.ref (b+4)) (t+3+vs.length),uO n q z M (b+5)]
def G (b t n q:Nat) (z:Stmt) (l m:Nat) (M:Value):List Obj:=[tO #[],vO #[],gO n q z,cO n q t l m 3 b (b+1) true .none .none (.ref (b+2)) (t+3),uO n q z M (b+3)]
def X (P:Params) (b t n:Nat) (l:Nat) (M:Value) (c:Addr):List Obj:=[tO #[.ref c],O k7 #[k8,k9],Q #[en P 17 (t+7) M,en P 18 (t+9) (sv n (t+8)),en P 19 (t+11) (.int l (t+10)),en P 20 (t+12) (.ref (b+7))] 4,tO #[],vO #[],cO n n (t+2) l 0 0 (b+3) (b+4) false .none .none .none (t+5),Obj.mk k2 .none Data.plain #[some (.ref (b+5)),some 3,some (.ref (b+2)),none,some M,none,some 0],tO #[],Q #[en P 17 (t+7) M,en P 19 (t+11) (.int l (t+10)),en P 20 (t+12) (.ref (b+7)),en P 5 (t+13) .none] 2,Obj.mk k9 .none (Data.cls (ClassData.mk (s n) [.ref c] [.ref (b+9),.ref c,k6,k10,k11,k12] (b+8) (s n) true [] [] false none false)) #[some (.ref b),none,some (sv n t),some (sv n (t+8)),some k13,some (.bool true)],O k16 #[.ref (b+9),.ref (b+9),.ref (b+9)],O k7 #[k17,.ref (b+9)]]
def M0:Value:=(sv 2 164)
def M1:Value:=(sv 28 262)
def M2:Value:=(sv 22 271)
def M3:Value:=(sv 65 506)
def M4:Value:=(sv 101 597)
def M5:Value:=(sv 116 728)
def M6:Value:=(sv 3 194)
def v3 (P:Params) (n:Nat) (e:Nat) (M:Value):Obj:=Obj.mk k3 .none (Data.dict (([en P 4 165 M,en P 5 166 .none,en P 6 167 .none,en P 7 168 k4,en P 8 169 .none,en P 9 170 6,en P 10 171 4,en P 11 173 (sv 1 172),en P 12 174 .none,en P 13 193 21,en P 14 213 31,en P 15 229 44,en P 23 245 56,en P 24 261 68,en P 25 270 77,en P 26 278 82,en P 29 382 162,en P 30 392 173,en P 31 401 180,en P 66 410 187,en P 67 421 194,en P 68 429 201,en P 69 441 208,en P 70 451 215,en P 71 459 222,en P 72 472 229,en P 73 485 236,en P 74 491 241,en P 75 498 248,en P 76 505 255,en P 77 517 262,en P 78 527 269,en P 79 537 276,en P 80 543 281,en P 81 553 288,en P 82 565 295,en P 83 573 302,en P 102 582 309,en P 103 596 316,en P 104 600 (.int 12 599),en P 105 602 (.int 99 601),en P 106 611 323,en P 107 619 330,en P 108 629 337,en P 109 641 344,en P 117 727 410,en P 118 737 421,en P 119 750 428,en P 120 758 435,en P 121 764 440,en P 147 779 447,en P 148 785 452,en P 149 794 459,en P 150 800 464,en P 151 806 469,en P 152 812 474,en P 153 826 481,en P 154 845 488]:List _).take n).toArray e) #[]
def v12 (P:Params) (n:Nat):Obj:=Obj.mk .none .none (Data.fields (([(iv 1),(iv 0),20,(iv 5),(iv 0),27,(iv 7),(iv 0),40,(iv 9),(iv 0),52,(iv 11),(iv 0),64,(iv 14),(iv 0),76,(iv 17),(iv 0),81,(iv 25),(iv 0),88,(iv 65),(iv 0),172,(iv 74),(iv 0),179,(iv 79),(iv 0),186,(iv 85),(iv 0),193,(iv 94),(iv 0),200,(iv 98),(iv 0),207,(iv 105),(iv 0),214,(iv 113),(iv 0),221,(iv 116),(iv 0),228,(iv 123),(iv 0),235,(iv 133),(iv 0),240,(iv 141),(iv 0),247,(iv 143),(iv 0),254,(iv 146),(iv 0),261,(iv 149),(iv 0),268,(iv 151),(iv 0),275,(iv 157),(iv 0),280,(iv 162),(iv 0),287,(iv 168),(iv 0),294,(iv 175),(iv 0),301,(iv 180),(iv 0),308,(iv 185),(iv 0),315,(iv 200),(iv 0),322,(iv 209),(iv 0),329,(iv 215),(iv 0),336,(iv 224),(iv 0),343,(iv 232),(iv 0),350,(iv 266),(iv 0),420,(iv 270),(iv 0),427,(iv 284),(iv 0),434,(iv 288),(iv 0),439,(iv 297),(iv 0),446,(iv 308),(iv 0),451,(iv 311),(iv 0),458,(iv 318),(iv 0),463,(iv 333),(iv 0),468,(iv 353),(iv 0),473,(iv 358),(iv 0),480,(iv 369),(iv 0),487]:List _).take n).toArray) #[]
def v31 (P:Params) (n:Nat):Obj:=Obj.mk k9 .none (Data.cls (ClassData.mk (s 14) [k6] [31,k6,k10,k11,k12] 30 (s 14) true [] ([44,56,68].take n) false .none false)) #[(some 22),.none,(some (sv 14 196)),(some (sv 14 204)),(some k13),(some (.bool true))]
def z0 (P:Params):List Obj:=[boot_o_0 P,boot_o_1 P,boot_o_2 P,v3 P 58 58 (sv 116 728),boot_o_4 P,boot_o_5 P,boot_o_6 P,boot_o_7 P,boot_o_8 P,boot_o_9 P,boot_o_10 P,tO #[],v12 P 141,O k1 #[(sv 0 182),(sv 0 183),(sv 1 184),(iv 1),(iv 0),(iv 0),(iv 0),(iv 0),11,(.bool false),(iv 181),12,.none,.none,.none,.none,(iv 185),(iv 1),(sv 1 186)],Obj.mk k2 .none Data.plain #[(some 13),(some 3),(some 3),.none,(some (sv 2 164)),.none,(some 0)]]++(F 15 187 13 13 (S 0) 1 1 M0 [16]++([tO #[k6],O k7 #[k8,k9],Q #[en P 17 203 (sv 3 194),en P 18 205 (sv 14 204),en P 19 207 (.int 5 206),en P 20 208 29] 4,tO #[],vO #[],O k1 #[(sv 14 198),(sv 14 199),(sv 1 200),(iv 5),(iv 0),(iv 0),(iv 0),(iv 0),25,(.bool false),(iv 181),26,.none,.none,.none,.none,(iv 201),(iv 5),(sv 1 202)],Obj.mk k2 .none Data.plain #[(some 27),(some 3),(some 24),.none,(some (sv 3 194)),.none,(some 0)],tO #[],Q #[en P 17 203 (sv 3 194),en P 19 207 (.int 5 206),en P 20 208 29,en P 21 210 32,en P 5 211 .none] 3,v31 P 3,O k14 #[(sv 21 209),31,k15,.none],O k16 #[31,31,31],O k7 #[k17,31]]++(X P 35 214 15 7 M6 31++(X P 47 230 23 9 M6 31++(X P 59 246 24 11 M6 31++(F 71 264 25 25 (S 7) 14 1 M1 [27]++(G 78 273 26 26 (S 9) 17 1 M2++([tO #[],O k7 #[k8,k9],Q #[en P 17 286 (sv 22 271),en P 18 288 (sv 29 287),en P 19 290 (.int 25 289),en P 32 299 96,en P 33 309 103,en P 34 316 110,en P 35 323 117,en P 36 333 124,en P 37 341 131,en P 38 349 138,en P 39 356 145,en P 40 364 152,en P 41 372 159,en P 20 375 160] 14,tO #[],vO #[(iv 27),(iv 4),95,(iv 31),(iv 4),102,(iv 37),(iv 4),109,(iv 40),(iv 4),116,(iv 43),(iv 4),123,(iv 51),(iv 4),130,(iv 54),(iv 4),137,(iv 57),(iv 4),144,(iv 60),(iv 4),151,(iv 63),(iv 4),158],O k1 #[(sv 29 281),(sv 29 282),(sv 1 283),(iv 25),(iv 0),(iv 0),(iv 0),(iv 0),86,(.bool false),(iv 181),87,.none,.none,.none,.none,(iv 284),(iv 25),(sv 1 285)],Obj.mk k2 .none Data.plain #[(some 88),(some 3),(some 85),.none,(some (sv 22 271)),.none,(some 0)]]++(F 90 291 32 45 (C 10 0) 27 3 M2 [42,43,44]++(F 97 300 33 49 (C 10 1) 31 2 M2 [42,46,47,48]++(F 104 310 34 50 (C 10 2) 37 1 M2 [42]++(F 111 317 35 51 (C 10 3) 40 1 M2 [42]++(F 118 324 36 54 (C 10 4) 43 2 M2 [42,46,52,53]++(F 125 334 37 55 (C 10 5) 51 2 M2 [42,46]++(F 132 342 38 56 (C 10 6) 54 2 M2 [42,46])))))))))))))))
def z1 (P:Params):List Obj:=F 139 350 39 57 (C 10 7) 57 1 M2 [42]++(F 146 357 40 58 (C 10 8) 60 2 M2 [42,46]++(F 153 365 41 59 (C 10 9) 63 2 M2 [42,46]++([tO #[(sv 60 373),(sv 61 374)],Q #[en P 17 286 (sv 22 271),en P 19 290 (.int 25 289),en P 32 299 96,en P 33 309 103,en P 34 316 110,en P 35 323 117,en P 36 333 124,en P 37 341 131,en P 38 349 138,en P 39 356 145,en P 40 364 152,en P 41 372 159,en P 20 375 160,en P 62 377 163,en P 21 379 164,en P 5 380 .none] 4,Obj.mk k9 .none (Data.cls (ClassData.mk (s 29) [k12] [162,k12] 161 (s 29) true [] [] false .none false)) #[.none,.none,(some (sv 29 279)),(some (sv 29 287)),(some k18),(some (.bool true))],O k14 #[(sv 62 376),162,k19,k20],O k14 #[(sv 21 378),162,k15,.none],O k16 #[162,162,162],O k7 #[k17,162]]++(F 167 383 30 30 (S 11) 65 2 M2 [63,43,46,48]++(F 174 393 31 31 (S 12) 74 2 M2 [63,64,46]++(F 181 402 66 66 (S 13) 79 3 M2 [63,64,84]++(F 188 411 67 67 (S 14) 85 3 M2 [63,64,44,85,84]++(F 195 422 68 68 (S 15) 94 2 M2 [63,64]++(F 202 430 69 69 (S 16) 98 2 M2 [64,86,87,88,89,90]++(F 209 442 70 70 (S 17) 105 2 M2 [63,64,91,90]++(F 216 452 71 71 (S 18) 113 2 M2 [63,64]++(F 223 460 72 72 (S 19) 116 4 M2 [63,92,43,93,87,46,89]++(F 230 473 73 73 (S 20) 123 3 M2 [63,92,94,43,93,95,87]++(G 237 486 74 74 (S 21) 133 2 M2++(F 242 492 75 75 (S 22) 141 1 M2 [63])))))))))))))))
def z2 (P:Params):List Obj:=F 249 499 76 76 (S 23) 143 1 M2 [63]++(F 256 508 77 77 (S 25) 146 3 M3 [64,46,96,97]++(F 263 518 78 78 (S 26) 149 4 M3 [64,46,96,84]++(F 270 528 79 79 (S 27) 151 1 M3 [64,87,88,89]++(G 277 538 80 80 (S 28) 157 4 M3++(F 282 544 81 81 (S 29) 162 1 M3 [63,98,88,89]++(F 289 554 82 82 (S 30) 168 2 M3 [63,64,44,99,46,96]++(F 296 566 83 83 (S 31) 175 1 M3 [100,27]++(F 303 574 102 102 (S 32) 180 2 M3 [99,98,110]++(F 310 583 103 103 (S 33) 185 3 M3 [63,64,99,98,44,46,96,111]++(F 317 603 106 106 (S 37) 200 1 M4 [112,113,46]++(F 324 612 107 107 (S 38) 209 2 M4 [114,112]++(F 331 620 108 108 (S 39) 215 2 M4 [86,112,85,114]++(F 338 630 109 109 (S 40) 224 2 M4 [112,86,115,46,88,89]++([tO #[],O k7 #[k8,k9],Q #[en P 17 649 (sv 101 597),en P 18 651 (sv 117 650),en P 19 653 (.int 232 652),en P 32 662 358,en P 112 669 365,en P 86 676 372,en P 122 684 379,en P 123 693 386,en P 124 701 393,en P 125 708 400,en P 126 716 407,en P 20 720 408] 12,tO #[],vO #[(iv 234),(iv 4),357,(iv 243),(iv 4),364,(iv 246),(iv 4),371,(iv 249),(iv 4),378,(iv 252),(iv 4),385,(iv 255),(iv 4),392,(iv 260),(iv 4),399,(iv 263),(iv 4),406],O k1 #[(sv 117 644),(sv 117 645),(sv 1 646),(iv 232),(iv 0),(iv 0),(iv 0),(iv 0),348,(.bool false),(iv 181),349,.none,.none,.none,.none,(iv 647),(iv 232),(sv 1 648)],Obj.mk k2 .none Data.plain #[(some 350),(some 3),(some 347),.none,(some (sv 101 597)),.none,(some 0)]]++(F 352 654 32 127 (C 41 0) 234 3 M4 [42,112,86])))))))))))))))
def z3 (P:Params):List Obj:=F 359 663 112 128 (C 41 1) 243 1 M4 [42]++(F 366 670 86 129 (C 41 2) 246 1 M4 [42]++(F 373 677 122 130 (C 41 3) 249 2 M4 [42,46]++(F 380 685 123 131 (C 41 4) 252 3 M4 [42,88,89]++(F 387 694 124 132 (C 41 5) 255 2 M4 [42,46]++(F 394 702 125 133 (C 41 6) 260 1 M4 [42]++(F 401 709 126 134 (C 41 7) 263 2 M4 [42,46]++([tO #[(sv 115 717),(sv 135 718),(sv 136 719)],Q #[en P 17 649 (sv 101 597),en P 19 653 (.int 232 652),en P 32 662 358,en P 112 669 365,en P 86 676 372,en P 122 684 379,en P 123 693 386,en P 124 701 393,en P 125 708 400,en P 126 716 407,en P 20 720 408,en P 62 722 411,en P 21 724 412,en P 5 725 .none] 4,Obj.mk k9 .none (Data.cls (ClassData.mk (s 117) [k12] [410,k12] 409 (s 117) true [] [] false .none false)) #[.none,.none,(some (sv 117 642)),(some (sv 117 650)),(some k18),(some (.bool true))],O k14 #[(sv 62 721),410,k19,k20],O k14 #[(sv 21 723),410,k15,.none],O k16 #[410,410,410],O k7 #[k17,410]]++(F 415 730 118 118 (S 43) 266 2 M5 [137,138]++(F 422 738 119 119 (S 44) 270 2 M5 [139,140,141,142,143,138,144]++(F 429 751 120 120 (S 45) 284 2 M5 [145,146]++(G 436 759 121 121 (S 46) 288 2 M5++(F 441 765 147 147 (S 47) 297 2 M5 [145,155,156,141,157,138,158,159,160]++(G 448 780 148 148 (S 48) 308 2 M5++(F 453 786 149 149 (S 49) 311 2 M5 [161,162,141]++(G 460 795 150 150 (S 50) 318 4 M5)))))))))))))))
def z4 (P:Params):List Obj:=G 465 801 151 151 (S 51) 333 4 M5++(G 470 807 152 152 (S 52) 353 2 M5++(F 475 813 153 153 (S 53) 358 6 M5 [163,164,156,155,165,166,167,168]++(F 482 827 154 154 (S 54) 369 1 M5 [137,145,155,165,163,169,170,156,171,166,164,172,141])))
def zf (P:Params):List Obj:=z0 P++(z1 P++(z2 P++(z3 P++(z4 P))))
noncomputable def alt {α:Type}:Bool→List α→List α
 |_,[]=>[]
 |true,x::l=>x::alt false l
 |false,_::l=>alt true l
def bt:Nat→List Obj→BT
 |0,_=>.nil
 |_,[]=>.nil
 |n+1,x::l=>.node x (bt n (alt true l)) (bt n (alt false l))
noncomputable def pat:Nat→Nat→List (Nat×Obj)→List Obj→List Obj
 |0,_,_,_=>[]
 |_,_,_,[]=>[]
 |m+1,i,[],x::l=>x::pat m (i+1) [] l
 |m+1,i,(a,o)::r,x::l=>if i == a then o::pat m (i+1) r l else x::pat m (i+1) ((a,o)::r) l
noncomputable abbrev an:Option Value:=(some (.ref 6))
noncomputable def env:Env:={ scope:=pw.main.scope,locals:=mainNs,globals:=mainNs,cells:=[],code:=(.ref 13),frame:=some 14 }
noncomputable abbrev bE:List Stmt:=behindTheImports pw
abbrev cE:Code:=.body bE env
noncomputable abbrev qE:Pos:=(Pos.mk 0 0 0 0)
noncomputable abbrev B:List Frame:=[topFrame qE]
def s0 (w:World) (os:OsState):Shared:=⟨boot_heap w.params,⟨[]⟩,boot_drawn,boot_toks,os⟩
noncomputable def LF:Life:=(Life.mk [] [] [] 0 [] [] false #[] [] 0 false false false 0 [2000,10,10] false 0 true [] [] 0 false)
noncomputable def DR:Drawn:=(Drawn.mk 0 0 0 0)
def sS (n:Nat) (ov:List (Nat×Obj)) (t:Tok) (w:World) (os:OsState):SharedT:=⟨bt 10 (pat n 0 ov (zf w.params)),n,LF,⟨[]⟩,DR,t,os⟩
def sa (w:World):OsState→SharedT:=let P:=w.params;sS 15 [(3,boot_o_3 P),(12,v12 P 0)] 187 w
noncomputable def szT:List (Nat×Nat):=[(15,187),(47,230),(83,279),(181,402),(303,574),(345,642),(441,765),(489,846)]
def ovT (P:Params):List (List (Nat×Obj)):=[[(3,boot_o_3 P),(12,v12 P 0)],[(3,v3 P 12 12 (sv 3 194)),(12,v12 P 9),(31,v31 P 1)],[(3,v3 P 16 16 (sv 22 271)),(12,v12 P 21)],[(3,v3 P 19 19 (sv 22 271)),(12,v12 P 30)],[(3,v3 P 37 37 (sv 65 506)),(12,v12 P 84)],[(3,v3 P 45 45 (sv 101 597)),(12,v12 P 102)],[(3,v3 P 50 50 (sv 116 728)),(12,v12 P 117)],[]]
def sb (k:Nat) (w:World):OsState→SharedT:=sS (szT.getD k (0,0)).1 ((ovT w.params).getD k []) (szT.getD k (0,0)).2 w
noncomputable def sgT:List (Nat×Nat×Nat):=[(438,0,4),(500,4,6),(577,10,3),(572,13,19),(222,32,9),(578,41,6),(250,47,8)]
noncomputable def psT:List Pos:=[⟨0,0,0,0⟩,⟨7,0,8,8⟩,⟨17,0,24,16⟩,⟨74,0,78,15⟩,⟨175,0,179,15⟩,⟨224,0,231,15⟩,⟨288,0,296,21⟩,⟨369,0,389,137⟩]
def sg (k:Nat):=sgT.getD k (0,0,0)
def po (k:Nat):Pos:=psT.getD k ⟨0,0,0,0⟩
def sts (k:Nat):List Stmt:=(List.range (sg k).2.2).map fun i=>S ((sg k).2.1+i)
def La (w:World) (os:OsState):Option (Shared×Thread):=topGo treeTable pw w 11 an 12 (s0 w os) (topStub pw)
def Ra (w:World) (os:OsState):Option (Shared×Thread):=some ((sa w os).abs,⟨denote treeTable cE,cE,(Pos.mk 0 0 0 0),B⟩)
def Lb (w:World) (os:OsState):Option (Flow×SharedT×Code×Pos):=segRunT treeTable pw w 11 an 1 1 (sa w os) (blockOf bE env cE (Pos.mk 0 0 0 0) B)
def Rb (w:World) (os:OsState):Option (Flow×SharedT×Code×Pos):=some (.next,sb 0 w os,cE,(Pos.mk 0 0 0 0))
def L (k:Nat) (w:World) (os:OsState):Option (Flow×SharedT×Code×Pos):=segRunT treeTable pw w 11 an 1 (sg k).1 (sb k w os) (piecesOf (sts k) env cE (po k) B)
def R (k:Nat) (w:World) (os:OsState):Option (Flow×SharedT×Code×Pos):=some (.next,sb (k+1) w os,cE,po (k+1))
theorem q1:tt (Hd.La,Hd.Ra,Hd.Lb,Hd.L)=true:=by k_qdec
theorem ra:∀ w,Fast.tw11367235000924431832 w=Fast.tw15912052731592885781 w:=fun w=>by kernel_rfl
theorem ea (w:World) (os:OsState):La w os=Ra w os:=(congrFun (congrFun Fast.te11367235000924431832 w) os).trans ((congrFun (ra w) os).trans (congrFun (congrFun Fast.te15912052731592885781 w) os).symm)
theorem rb:∀ w,Fast.tw16430817790641568776 w=Rb w:=fun w=>by kernel_rfl
theorem eb (w:World) (os:OsState):Lb w os=Rb w os:=(congrFun (congrFun Fast.te16430817790641568776 w) os).trans (congrFun (rb w) os)
abbrev T:=Fast.tw9140266817696972190
theorem e {k:Nat}(h:∀ w,T k w=R k w) (w:World) (os:OsState):L k w os=R k w os:=(congrFun (congrFun (congrFun Fast.te9140266817696972190 k) w) os).trans (congrFun (h w) os)
theorem r0:∀ w,T 0 w=R 0 w:=fun w=>by kernel_rfl
theorem r1:∀ w,T 1 w=R 1 w:=fun w=>by kernel_rfl
theorem r2:∀ w,T 2 w=R 2 w:=fun w=>by kernel_rfl
theorem r3:∀ w,T 3 w=R 3 w:=fun w=>by kernel_rfl
theorem r4:∀ w,T 4 w=R 4 w:=fun w=>by kernel_rfl
theorem r5:∀ w,T 5 w=R 5 w:=fun w=>by kernel_rfl
theorem r6:∀ w,T 6 w=R 6 w:=fun w=>by kernel_rfl
def H1 (P:Params):Heap:=⟨⟨zf P⟩,LF⟩
def sf (w:World) (os:OsState):Shared:=⟨H1 w.params,⟨[]⟩,(Drawn.mk 0 0 0 0),846,os⟩
def Lf (w:World) (os:OsState):Option Shared:=topRun treeTable pw w 11 an 2 (sb 7 w os).abs ⟨doneF .next,cE,(Pos.mk 369 0 389 137),B⟩
def Rf (w:World) (os:OsState):Option Shared:=some (sf w os)
theorem qf:tt Hd.Lf=true:=by k_qdec
theorem rf:∀ w,Fast.tw2640074843757178226 w=Rf w:=fun w=>by kernel_rfl
theorem ef (w:World) (os:OsState):Lf w os=Rf w os:=(congrFun (congrFun Fast.te2640074843757178226 w) os).trans (congrFun (rf w) os)
theorem cut:bE=sts 0++(sts 1++(sts 2++(sts 3++(sts 4++(sts 5++(sts 6++([]))))))):=by kernel_rfl
noncomputable def M:Nat:=12+(1+(438+(500+(577+(572+(222+(578+(250+2))))))))
theorem run (w:World) (os:OsState):topRun treeTable pw w 11 an M (s0 w os) (topStub pw)=some (sf w os):=by
 refine go_top (ea w os) (piece_block (q:=qE) (env:=env) (b:=bE) (segRun_of (eb w os)) ?_)
 rw[show restOf bE env cE (Pos.mk 0 0 0 0) [topFrame qE]=restOf _ env cE _ [topFrame qE] from congrArg (fun l=>restOf l env cE (Pos.mk 0 0 0 0) [topFrame qE]) cut]
 exact piece_app (segRun_of (e r0 w os)) (piece_app (segRun_of (e r1 w os)) (piece_app (segRun_of (e r2 w os)) (piece_app (segRun_of (e r3 w os)) (piece_app (segRun_of (e r4 w os)) (piece_app (segRun_of (e r5 w os)) (piece_app (segRun_of (e r6 w os)) (ef w os)))))))
noncomputable abbrev rW:RowW:=(PySem.Challenge.rw_beatless_k27_whole_made_ways_are_let_by.row).toRowW
noncomputable def Qi:List Nat:=[0,2,3,4,5,7,9,10,11,12,13,14,15,16,17,18,19,20,21,22,23,25,26,27,28,29,30,31,32,33,35,36,37,38,39,40,41,43,44,45,46,47,48,49,50,51,52,53,54]
def Qp:Program:={ pw with main:={ pw.main with body:=Qi.map S } }
def Xt (s:Shared):Bool:=xlAt Qp [] s&&recOk (RowW.records rW) s
noncomputable def as:List Addr:=[2,3,15,17,18,20,21,22,29,30,31,32,35,42,43,44,47,54,55,56,59,66,67,68,71,73,74,76,77,78,81,82,90,92,93,95,96,97,99,100,102,103,104,106,107,109,110,111,113,114,116,117,118,120,121,123,124,125,127,128,130,131,132,134,135,137,138,139,141,142,144,145,146,148,149,151,152,153,155,156,158,159,160,161,162,163,164,167,169,170,172,173,174,176,177,179,180,181,183,184,186,187,188,190,191,193,194,195,197,198,200,201,202,204,205,207,208,209,211,212,214,215,216,218,219,221,222,223,225,226,228,229,230,232,233,235,236,237,240,241,242,244,245,247,248,249,251,252,254,255,256,258,259,261,262,263,265,266,268,269,270,272,273,275,276,277,280,281,282,284,285,287,288,289,291,292,294,295,296,298,299,301,302,303,305,306,308,309,310,312,313,315,316,317,319,320,322,323,324,326,327,329,330,331,333,334,336,337,338,340,341,343,344,352,354,355,357,358,359,361,362,364,365,366,368,369,371,372,373,375,376,378,379,380,382,383,385,386,387,389,390,392,393,394,396,397,399,400,401,403,404,406,407,408,409,410,411,412,415,417,418,420,421,422,424,425,427,428,429,431,432,434,435,436,439,440,441,443,444,446,447,448,451,452,453,455,456,458,459,460,463,464,465,468,469,470,473,474,475,477,478,480,481,482,484,485,487,488]
def K (P:Params):Frag:=as.map fun a=>(a,(zf P).getD a (vO #[]))
theorem asK (P:Params):as=(K P).map (·.1):=by kernel_rfl
def Ly (w:World) (os:OsState):List (Option Obj):=as.map (sf w os).heap.get?
def Ry (w:World) (_:OsState):List (Option Obj):=(K w.params).map fun p=>some p.2
abbrev hk:Hook:=kHook K as asK
noncomputable abbrev zb0:List Str:=importedModules pw.main.body
def A (w:World) (os:OsState):=openSeen Qp [] zb0 Xt true (sf w os)
def Ga (_:World) (_:OsState):=openGood Qp []
def Ls (w:World) (os:OsState):Bool:=staticsOk zb0 (boot_heap w.params) (H1 w.params)&&namesBound pw (H1 w.params)&&gensDone (sf w os)&&laidKept (boot_heap w.params) (H1 w.params)
noncomputable def Rs (_:World) (_:OsState):Bool:=true
def Lz (w:World) (_:OsState):=((boot_heap w.params).isNs mainGlobals&&(⟨[]⟩:Array GenState).size == 0,(boot_heap w.params).objs.size,(boot_heap w.params).nsMap mainGlobals "__annotations__")
noncomputable def Rz (_:World) (_:OsState):Bool×Nat×Option Value:=(true,11,an)
theorem q2:tt (Hd.Ly,Hd.A,Hd.Ls,Hd.Lz)=true:=by k_qdec
theorem rLy:∀ w,Fast.tw691215026958702249 w=Ry w:=fun w=>by kernel_rfl
theorem eLy (w:World) (os:OsState):Ly w os=Ry w os:=(congrFun (congrFun Fast.te691215026958702249 w) os).trans (congrFun (rLy w) os)
theorem rA:∀ w,Fast.tw18113995546815864426 w=Ga w:=fun w=>by kernel_rfl
theorem eA (w:World) (os:OsState):A w os=Ga w os:=(congrFun (congrFun Fast.te18113995546815864426 w) os).trans (congrFun (rA w) os)
theorem rLs:∀ w,Fast.tw4959303863618478765 w=Rs w:=fun w=>by kernel_rfl
theorem eLs (w:World) (os:OsState):Ls w os=Rs w os:=(congrFun (congrFun Fast.te4959303863618478765 w) os).trans (congrFun (rLs w) os)
theorem rLz:∀ w,Fast.tw17831390912981975158 w=Rz w:=fun w=>by kernel_rfl
theorem eLz (w:World) (os:OsState):Lz w os=Rz w os:=(congrFun (congrFun Fast.te17831390912981975158 w) os).trans (congrFun (rLz w) os)
theorem op:opening pw=plainProg pw.main.scope.names:=by kernel_rfl
theorem fe (s:Shared):fenceModules? pw s=some s:=by kernel_rfl
theorem left:LeftO pw Qp [] Xt hk.obs hk.val 6386 :=
 LeftO.of_pieces (M:=M) (m₀:=11) (ann:=an) (H₀:=boot_heap) (H₁:=H1) (boot_open op (by kernel_rfl) fe) (fun w=>eLz w (start pw).1.os) run (by kernel_rfl) (fun w=>funext fun os=>looks_pair (eLs w os) (looks_pair (eA w os) (eLy w os)))
theorem both {a b:Bool}(z:(a&&b)=true):a=true∧b=true:=Bool.and_eq_true_iff.mp z
end Hd
end
namespace K04
open PySem L2
theorem rdy (P:Params):chk tbT (Hd.K P)=true:=by kernel_rfl
theorem fnE (P:Params):tbT.f.map (fun e=>(Hd.K P).lookup e.a)=tbT.f.map (fnB (Hd.K P)):=by kernel_rfl
theorem bdT:∀ (g:FuncData) (us:List Value),us.length≤8→bdA tbT g us:=zbp (fun _=>by kernel_rfl) (fun _ _=>by kernel_rfl) (fun _ _ _=>by kernel_rfl) (fun _ _ _ _=>by kernel_rfl) (fun _ _ _ _ _=>by kernel_rfl) (fun _ _ _ _ _ _=>by kernel_rfl) (fun _ _ _ _ _ _ _=>by kernel_rfl) (fun _ _ _ _ _ _ _ _=>by kernel_rfl) (fun _ _ _ _ _ _ _ _ _=>by kernel_rfl)
end K04
open PySem PySem.W PyProof.Rows
set_option maxRecDepth 100000 in
set_option maxHeartbeats 0 in
theorem PySem.Challenge.cw_beatless_k27_whole_made_ways_are_let_by_holds : PySem.Challenge.rw_beatless_k27_whole_made_ways_are_let_by.Holds := by
 w_on;o_law
 refine holds_open (XP:=XL Hd.Qp []) (YP:=(kHook Hd.K Hd.as Hd.asK).says) Hd.left Hd.hk.of Hd.hk.keeps
  (fun s z=>xl_of s (Hd.both z).1) XL.keeps (by rfl) (by rfl) (by rfl)
  (fun s z=>recFacts_of (Hd.both z).2) (by rfl) (by assumption) (by decide +kernel)
  ⟨rfl,rfl,rfl,rfl,rfl,by decide +kernel⟩ ?hw ?hc
 case hw=>w_witness2
 k_fill
 refine L2.walk_ofK (l:=PySem.Challenge.rw_beatless_k27_whole_made_ways_are_let_by) (n:=63) (k:=26) (x := "_law_script") (CX:=L2.CX0) (sp:=K04.spLaw) rfl (by decide) rfl ⟨rfl,by decide,by decide⟩ (fun w h Y=>PySem.W.kIn_of Y) ?F ?S ?C
 case F =>
  intro w mg fa h KX G hmg
  have T:K04.Txt w (L2.KOf KX) mg ():=⟨K04.rdy _,K04.fnE _,K04.bdT,fun x v e=>match v,e with | none,e=>mg_none_of KX G e | some _,e=>mg_of KX G e⟩
  have e0:=hmg.symm.trans (T.g 39)
  cases e0
  exact⟨_,fun s v=>.of_eq (T.be 39 (us:=[v]) (hl:=rfl)),fun base kb nb=>K04.ok_law T⟩
 case S=>exact fun K H a ns hl hO hS=>K04.sp_law_of hl hO hS
 case C=>exact fun _ _ _ _ z=>z