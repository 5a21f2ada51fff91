import PyProof.Rows.All
import Wide.All
import OpenK.AllK
import Wide.FinOn
import PySem.Challenge.RW_beatless_k33_papers_with_something_wrong
import Lean
import PyProof.EqAt
import PyProof.EqKinds
import PyProof.TupleCall
import PyProof.ZipIter
import PyProof.WalksMore
import KE.KRevSl
import KE.KIntText
import KE.KRevIter
import PyProof.Draws
import PyProof.EnumFor
import PyProof.EnumStmt
import PyProof.AttrMissHeap
import PyProof.DictUpdate
import PyProof.DictValues
import KE.KDictList
import PyProof.DictItemsLoops
import PyProof.DictWalks
import PyProof.Rows.SetFrom
import PyProof.DictItems
import PyProof.Rows.SortRev
import PyProof.ReprRoads
set_option Elab.async false
set_option compiler.extract_closed false
set_option linter.all false
set_option maxRecDepth 100000
abbrev LI:=List Int
abbrev LP:=List (Int×Int)
namespace L2
open PySem PySem.Spec PyProof.Rows
structure Bx (p:Prop):Prop where
 of:p
abbrev Key:=Sum Int Str
def vj:Key→Value→Bool
 |.inl k,v=>Value.isInt k v
 |.inr x,v=>Value.isStrOf x v
def zbJ (w:World):Key→Int
 |.inl k=>hashInt k
 |.inr x=>hashStr w x
theorem yj:∀ {k:Key}{v:Value},vj k v=true→(∃ i t,k=Sum.inl i∧v=Value.int i t)∨(∃ x t,k=Sum.inr x∧v=Value.str x t)
 |.inl i,v,h=>by
  obtain⟨t,e⟩:=Value.isInt_shape (k:=i) (v:=v) h
  exact .inl ⟨i,t,rfl,e⟩
 |.inr x,v,h=>by
  obtain⟨t,e⟩:=Value.isStrOf_shape (x:=x) (v:=v) h
  exact .inr ⟨x,t,rfl,e⟩
theorem YM (i:Int) (t:Tok):vj (.inl i) (.int i t)=true:=by simp[vj,Value.isInt]
theorem YK (x:Str) (t:Tok):vj (.inr x) (.str x t)=true:=by simp[vj,Value.isStrOf]
theorem Ux (a b:Int):decide ((Sum.inl a:Key)=Sum.inl b)=(a == b):=by
 by_cases e:a=b
 ·subst e;simp
 ·have h:¬ (Sum.inl a:Key)=Sum.inl b:=fun q=>e (Sum.inl.inj q)
  rw[decide_eq_false h]
  exact(beq_eq_false_iff_ne.mpr e).symm
theorem Uu (a b:Str):decide ((Sum.inr a:Key)=Sum.inr b)=decide (a=b):=by
 by_cases e:a=b
 ·subst e;simp
 ·have h:¬ (Sum.inr a:Key)=Sum.inr b:=fun q=>e (Sum.inr.inj q)
  rw[decide_eq_false h,decide_eq_false e]
theorem Uw (a:Int) (b:Str):decide ((Sum.inl a:Key)=Sum.inr b)=false:=decide_eq_false (fun q=>nomatch q)
theorem Uv (a:Str) (b:Int):decide ((Sum.inr a:Key)=Sum.inl b)=false:=decide_eq_false (fun q=>nomatch q)
def zx (prog:Program) (w:World):PySem.KeyKind prog w Key where
 is:=vj
 hash:=zbJ w
 inj:=fun v a b ha hb=>by
  rcases yj ha with⟨i,t,rfl,rfl⟩ | ⟨x,t,rfl,rfl⟩
  ·rcases yj hb with⟨j,u,rfl,e⟩ | ⟨y,u,rfl,e⟩
   ·injection e with e1 _;rw[e1]
   ·exact nomatch e
  ·rcases yj hb with⟨j,u,rfl,e⟩ | ⟨y,u,rfl,e⟩
   ·exact nomatch e
   ·injection e with e1 _;rw[e1]
 byValue:=fun k v h=>by
  rcases yj h with⟨i,t,rfl,rfl⟩ | ⟨x,t,rfl,rfl⟩<;>rfl
 pyHash:=fun hv h=>by
  rcases yj hv with⟨i,t,rfl,rfl⟩ | ⟨x,t,rfl,rfl⟩
  ·exact wpAny_pyHash_int h
  ·exact wpAny_pyHash_str h
 eqBool:=fun hu hv h=>by
  rcases yj hu with⟨i,t,rfl,rfl⟩ | ⟨x,t,rfl,rfl⟩
  ·rcases yj hv with⟨j,u,rfl,rfl⟩ | ⟨y,u,rfl,rfl⟩
   ·rw[Ux] at h;exact wpAny_eqBool_int h
   ·rw[Uw] at h;exact SeqAt.EqAt.int_str i t y u _ _ _ _ h
  ·rcases yj hv with⟨j,u,rfl,rfl⟩ | ⟨y,u,rfl,rfl⟩
   ·rw[Uv] at h;exact SeqAt.EqAt.str_int x t j u _ _ _ _ h
   ·rw[Uu] at h;exact wpAny_eqBool_str h
 «strs»:=fun k x t v h=>by
  rcases yj h with⟨i,u,rfl,e⟩ | ⟨y,u,rfl,e⟩
  ·exact nomatch e
  ·injection e with e1 _
   subst e1
   cases v<;>rfl
theorem ZG (prog:Program) (w:World) (k:Key) (v:Value):(zx prog w).is k v=vj k v:=rfl
theorem uB (prog:Program) (w:World) (i:Int) (t:Tok):(zx prog w).is (.inl i) (.int i t)=true:=YM i t
theorem uA (prog:Program) (w:World) (x:Str) (t:Tok):(zx prog w).is (.inr x) (.str x t)=true:=YK x t
inductive V where
 |non | bl (b:Bool) | int (i:Int) | str (x:Str) | byt (b:Array UInt8) | flt (b:UInt64) | ref (a:Addr) | ty (n:String)
 deriving DecidableEq
def RelV:V→Value→Prop
 |.non,u=>u=Value.none
 |.bl b,u=>u=Value.bool b
 |.int i,u=>∃ t,u=Value.int i t
 |.str x,u=>∃ t,u=Value.str x t
 |.byt b,u=>∃ t,u=Value.bytes b t
 |.flt b,u=>∃ t,u=Value.float b t
 |.ref a,u=>u=Value.ref a
 |.ty n,u=>u=Value.type n
abbrev Vals:List V→List Value→Prop:=Paired RelV
theorem Vals.length {xs:List V}{us:List Value}(r:Vals xs us):xs.length=us.length:=Paired.length r
theorem Vals.get:∀ {xs:List V}{us:List Value}{i:Nat}{x:V},Vals xs us→xs[i]?=some x→∃ u,us[i]?=some u∧RelV x u
 |_,_,_,_,.nil,e=>by simp at e
 |_,_,0,_,.cons r _,e=>by simp at e;subst e;exact⟨_,rfl,r⟩
 |_,_,i+1,x,.cons _ t,e=>by
  obtain⟨u,h1,h2⟩:=Vals.get (i:=i) (x:=x) t (by simpa using e)
  exact⟨u,by simpa using h1,h2⟩
theorem Vals.set {x:V}{u:Value}(r:RelV x u):∀ {xs:List V}{us:List Value}(i:Nat),Vals xs us→Vals (xs.set i x) (us.set i u)
 |_,_,_,.nil=>.nil
 |_,_,0,.cons _ t=>.cons r t
 |_,_,i+1,.cons q t=>.cons q (Vals.set r i t)
theorem Vals.append:∀ {xs ys:List V}{us ws:List Value},Vals xs us→Vals ys ws→Vals (xs++ys) (us++ws)
 |_,_,_,_,.nil,s=>s
 |_,_,_,_,.cons r t,s=>.cons r (Vals.append t s)
theorem Vals.take:∀ {xs:List V}{us:List Value}(n:Nat),Vals xs us→Vals (xs.take n) (us.take n)
 |_,_,0,_=>.nil
 |_,_,_+1,.nil=>.nil
 |_,_,n+1,.cons r t=>.cons r (Vals.take n t)
theorem Vals.drop:∀ {xs:List V}{us:List Value}(n:Nat),Vals xs us→Vals (xs.drop n) (us.drop n)
 |_,_,0,r=>r
 |_,_,_+1,.nil=>.nil
 |_,_,n+1,.cons _ t=>Vals.drop n t
def RelO:Option V→Option Value→Prop
 |some v,some u=>RelV v u
 |none,none=>True
 |_,_=>False
def KV {κ:Type}:List (κ×V)→List (κ×Value)→Prop:=Paired fun(p:κ×V) (q:κ×Value)=>p.1=q.1∧RelV p.2 q.2
def kV:Key→V
 |.inl i=>.int i
 |.inr x=>.str x
inductive HO where
 /-- a list -/
 |lst (xs:List V)
 /-- a tuple (never changes) -/
 |tup (xs:List V)
 /-- a dict whose keys are ints and texts;one whose keys are tuples of ints and texts (the empty one is both) -/
 |dK (kvs:List (Key×V)) | dT (kvs:List (List Key×V))
 /-- a set of ints: its members,its size -/
 |set (S:Int→Bool) (n:Nat)
 /-- an instance of the class at C,its dict at dx,its attributes -/
 |ins (C dx:Addr) (fs:List (Str×V))
 /-- the dict of the instance at x -/
 |own (x:Addr)
 /-- the dict of an exception -/
 |xd (fs:List (Str×V))
 /-- a bound method,f of x -/
 |met (f x:Addr)
 /-- a range object lo,lo+1,.. below hi -/
 |rng (lo hi:Int)
 /-- a thing that is known to the object (the script;a dict while a loop walks it): read,never written while it is so -/
 |frz (o:Obj) (u:HO)
 /-- a code object's table -/
 |tbl (ps:Array Value)
 /-- any other thing,by what is true of its one object (a def of one's own: SetO a S n:=HO.ext fun h=>..) -/
 |ext (φ:Heap→Prop)
abbrev Hp:=Addr→Option HO
def upd (H:Hp) (a:Addr) (o:HO):Hp:=fun b=>if b=a then some o else H b
theorem upd_same {H:Hp}{a:Addr}{o:HO}:upd H a o a=some o:=by unfold upd;rw[if_pos rfl]
theorem upd_ne {H:Hp}{a b:Addr}{o:HO}(h:b≠a):upd H a o b=H b:=by unfold upd;rw[if_neg h]
theorem xL {H:Hp}{a:Addr}{o u:HO}:upd (upd H a o) a u=upd H a u:=by
 funext b;unfold upd;split<;>rfl
theorem XA {H:Hp}{a b:Addr}{o u:HO}(h:H a=some o) (h':H b=some u) (d:o≠u):a≠b:=by
 intro e;subst e;rw[h] at h';exact d (Option.some.inj h')
theorem ne_of_none {H:Hp}{a b:Addr}{o:HO}(h:H a=some o) (h':H b=none):a≠b:=by
 intro e;subst e;rw[h] at h';cases h'
section
variable (P:Program) (w:World)
def ObjOk (H:Hp) (h:Heap) (a:Addr):HO→Prop
 |.lst xs=>xs.length≤sizeLine∧∃ (its:List Value) (n:Nat),Vals xs its∧h.get? a=some { cls:=.type "list",data:=.seq its.toArray n }
 |.tup xs=>xs.length≤sizeLine∧∃ its:List Value,Vals xs its∧IsTup h a its.toArray
 |.dK kvs=>kvs.length≤sizeLine∧(a == sysModules)=false∧∃ vs,KV kvs vs∧h.DictOf (zx P w) a vs
 |.dT kvs=>kvs.length≤sizeLine∧(a == sysModules)=false∧∃ xs:List (List Key×Addr×Value),
   Paired (fun(p:List Key×V) (q:List Key×Addr×Value)=>p.1=q.1∧H q.2.1=some (.tup (p.1.map kV))∧RelV p.2 q.2.2) kvs xs ∧
   ∃ o es ep,h.get? a=some o∧o.ExactDict∧o.data=.dict es ep∧es.toList=xs.map (entryOfKey (tupleKind (zx P w)))∧(xs.map (·.1)).Nodup
 |.set S n=>h.SetOf (intKind P w) a S n
 |.ins C dx fs=>H dx=some (.own a)∧fs.length≤1000∧dx≠a∧h.get? a=some (PySem.W.instObj C dx) ∧
   ∃ mA,h.Ns1 dx mA∧(∀ f,RelO (fs.lookup f) (mA f))∧PySem.Within mA (fs.map (·.1))
 |.own _=>∃ o,h.get? a=some o
 |.xd fs=>∃ mA,h.Ns1 a mA∧∀ f,RelO (fs.lookup f) (mA f)
 |.rng lo hi=>∃ t u v,h.get? a=some { cls:=.type "range",data:=.fields #[.int lo t,.int hi u,.int 1 v] }
 |.frz o u=>h.get? a=some o∧ObjOk H h a u
 |.tbl ps=>h.get? a=some { cls:=.none,data:=.fields ps }
 |.met f x=>h.get? a=some (PySem.W.methodObj (.ref f) (.ref x))
 |.ext φ=>φ h∧(∃ o,h.get? a=some o)∧∀ h1 h2:Heap,φ h1→(∀ o,h1.get? a=some o→h2.get? a=some o)→φ h2
def HOk (H:Hp) (h:Heap):Prop:=∀ a o,H a=some o→ObjOk P w H h a o
end
section
variable {P:Program}{w:World}{H H':Hp}{h h':Heap}{a:Addr}{o:HO}
theorem ObjOk.lt (x:ObjOk P w H h a o):a<h.objs.size:=by
 cases o with
 |lst xs=>obtain⟨_,_,_,_,e⟩:=x;exact Heap.lt_size e
 |tup xs=>obtain⟨_,_,_,p⟩:=x;exact p.lt
 |dK kvs=>obtain⟨_,_,_,_,o,_,_,e,_⟩:=x;exact Heap.lt_size e
 |dT kvs=>obtain⟨_,_,_,_,o,_,_,e,_⟩:=x;exact Heap.lt_size e
 |set S n=>obtain⟨o,_,_,_,e,_⟩:=x;exact Heap.lt_size e
 |ins C dx fs=>obtain⟨_,_,_,e,_⟩:=x;exact Heap.lt_size e
 |own y=>obtain⟨_,e⟩:=x;exact Heap.lt_size e
 |xd fs=>obtain⟨_,⟨_,_,_,e,_⟩,_⟩:=x;exact Heap.lt_size e
 |rng lo hi=>obtain⟨_,_,_,e⟩:=x;exact Heap.lt_size e
 |frz ob u=>obtain⟨e,_⟩:=x;exact Heap.lt_size e
 |tbl ps=>exact Heap.lt_size (show h.get? a=some _ from x)
 |met f y=>exact Heap.lt_size (show h.get? a=some _ from x)
 |ext φ=>obtain⟨_,⟨_,e⟩,_⟩:=x;exact Heap.lt_size e
theorem Paired.mapP {α β:Type}{F G:α→β→Prop}:∀ {l₁:List α}{l₂:List β},Paired F l₁ l₂→(∀ a b,F a b→G a b)→Paired G l₁ l₂
 |_,_,.nil,_=>.nil
 |_,_,.cons r t,f=>.cons (f _ _ r) (Paired.mapP t f)
theorem ObjOk.stay (x:ObjOk P w H h a o) (k:∀ b u,(b=a∨H b=some (.own a))→h.get? b=some u→h'.get? b=some u)
  (ho:∀ b,H b=some (.own a)→H' b=some (.own a)) (ht:∀ b xs,H b=some (.tup xs)→H' b=some (.tup xs)):ObjOk P w H' h' a o:=by
 induction o with
 |lst xs=>obtain⟨z,its,n,r,e⟩:=x;exact⟨z,its,n,r,k _ _ (.inl rfl) e⟩
 |tup xs=>obtain⟨z,its,r,ob,e,c⟩:=x;exact⟨z,its,r,ob,k _ _ (.inl rfl) e,c⟩
 |dK kvs=>obtain⟨z,y,vs,r,ob,es,ep,e,c⟩:=x;exact⟨z,y,vs,r,ob,es,ep,k _ _ (.inl rfl) e,c⟩
 |dT kvs =>
  obtain⟨z,y,xs,r,ob,es,ep,e,c⟩:=x
  exact⟨z,y,xs,Paired.mapP r fun p q z=>⟨z.1,ht _ _ z.2.1,z.2.2⟩,ob,es,ep,k _ _ (.inl rfl) e,c⟩
 |set S n=>obtain⟨ob,es,ep,t,e,c⟩:=x;exact⟨ob,es,ep,t,k _ _ (.inl rfl) e,c⟩
 |ins C dx fs =>
  obtain⟨d,z,ne,e,mA,⟨od,es,ep,e2,c⟩,r⟩:=x
  exact⟨ho _ d,z,ne,k _ _ (.inl rfl) e,mA,⟨od,es,ep,k _ _ (.inr d) e2,c⟩,r⟩
 |own y=>obtain⟨ob,e⟩:=x;exact⟨ob,k _ _ (.inl rfl) e⟩
 |xd fs=>obtain⟨mA,⟨od,es,ep,e,c⟩,r⟩:=x;exact⟨mA,⟨od,es,ep,k _ _ (.inl rfl) e,c⟩,r⟩
 |rng lo hi=>obtain⟨t,u,v,e⟩:=x;exact⟨t,u,v,k _ _ (.inl rfl) e⟩
 |frz ob u ih=>obtain⟨e,q⟩:=x;exact⟨k _ _ (.inl rfl) e,ih q⟩
 |tbl ps =>
  have e:h.get? a=some { cls:=.none,data:=.fields ps }:=x
  show h'.get? a=some { cls:=.none,data:=.fields ps }
  exact k a _ (.inl rfl) e
 |met f y =>
  have e:h.get? a=some (PySem.W.methodObj (.ref f) (.ref y)):=x
  show h'.get? a=some (PySem.W.methodObj (.ref f) (.ref y))
  exact k a _ (.inl rfl) e
 |ext φ=>obtain⟨p,⟨o,e⟩,st⟩:=x;exact⟨st _ _ p fun o q=>k _ _ (.inl rfl) q,⟨o,k _ _ (.inl rfl) e⟩,st⟩
theorem HOk.lt (x:HOk P w H h) (e:H a=some o):a<h.objs.size:=(x a o e).lt
theorem HOk.fresh (x:HOk P w H h) (e:h.objs.size≤a):H a=none:=by
 cases q:H a with
 |none=>rfl
 |some u=>exact absurd (Nat.lt_of_lt_of_le (x.lt q) e) (Nat.lt_irrefl _)
theorem HOk.kept (x:HOk P w H h) (k:∀ b u,h.get? b=some u→h'.get? b=some u):HOk P w H h':=fun a o e =>
 (x a o e).stay (fun b u _ q=>k b u q) (fun _ q=>q) fun _ _ q=>q
theorem HOk.laid (x:HOk P w H h) (k:∀ b u,h.get? b=some u→h'.get? b=some u) (hp:h.objs.size≤a) (new:ObjOk P w (upd H a o) h' a o):HOk P w (upd H a o) h':=fun b u e=>by
 have hn:=x.fresh hp
 by_cases hb:b=a
 ·subst hb;rw[upd_same] at e;cases e;exact new
 ·rw[upd_ne hb] at e
  exact(x b u e).stay (fun c v _ q=>k c v q) (fun c q=>by rw[upd_ne (ne_of_none q hn)];exact q) fun c xs q=>by rw[upd_ne (ne_of_none q hn)];exact q
end
def Rd (H:Hp) (a:Addr) (u:HO):Prop:=H a=some u∨∃ o,H a=some (.frz o u)
theorem Rd.ok {P:Program}{w:World}{H:Hp}{h:Heap}{a:Addr}{u:HO}(r:Rd H a u) (x:HOk P w H h):ObjOk P w H h a u:=by
 rcases r with r | ⟨o,r⟩
 ·exact x a u r
 ·obtain⟨_,q⟩:=x a _ r
  exact q
def Mut:Option HO→Prop
 |some (.lst _)=>True
 |some (.dK _)=>True
 |some (.dT _)=>True
 |some (.set _ _)=>True
 |some (.ins _ _ _)=>True
 |some (.ext _)=>True
 |_=>False
section
variable {P:Program}{w:World}{H:Hp}{h h':Heap}{x e:Addr}{o':HO}
theorem HOk.write (ok:HOk P w H h) (mu:Mut (H x)) (he:e=x∨H e=some (.own x)) (k:∀ b u,b≠e→h.get? b=some u→h'.get? b=some u) (heo:∃ u,h'.get? e=some u)
  (new:ObjOk P w (upd H x o') h' x o'):HOk P w (upd H x o') h':=fun b u q=>by
 have nown:∀ c y,H c=some (.own y)→c≠x:=fun c y r z=>by subst z;rw[r] at mu;exact mu
 have ntup:∀ c xs,H c=some (.tup xs)→c≠x:=fun c xs r z=>by subst z;rw[r] at mu;exact mu
 by_cases hb:b=x
 ·subst hb;rw[upd_same] at q;cases q;exact new
 ·rw[upd_ne hb] at q
  by_cases hbe:b=e
  ·have q':H b=some (.own x):=by
    rcases he with z | z
    ·exact absurd (hbe.trans z) hb
    ·rw[hbe];exact z
   rw[q] at q';cases q'
   obtain⟨v,hv⟩:=heo
   exact⟨v,by rw[hbe];exact hv⟩
  ·refine(ok b u q).stay (fun c v hc r=>k c v ?_ r) (fun c r=>by rw[upd_ne (nown c b r)];exact r) fun c xs r=>by rw[upd_ne (ntup c xs r)];exact r
   rcases hc with rfl | hc
   ·exact hbe
   ·rintro rfl
    rcases he with z | z
    ·exact nown c b hc z
    ·rw[hc] at z;cases z;exact hb rfl
end
structure Un (fs ex:List Addr) (H H':Hp) (h h':Heap):Prop where
 keep:∀ b o,h.get? b=some o→H b=none→b∉fs→b∉ex→h'.get? b=some o
 slot:∀ b o,h.get? b=some o→H b=none→b∈fs→b∉ex→∃ sl,h'.get? b=some { o with slots:=sl }
 free:∀ b o,h.get? b=some o→H b=none→b∉ex→H' b=none
 there:∀ b o,h.get? b=some o→b∉ex→∃ o',h'.get? b=some o'
 tups:∀ b xs,H b=some (.tup xs)→H' b=some (.tup xs)
 frzs:∀ b o u,H b=some (.frz o u)→H' b=some (.frz o u)
 tbls:∀ b ps,H b=some (.tbl ps)→∃ more,H' b=some (.tbl (ps++more))
section
variable {fs fs' ex ex':List Addr}{H H1 H2:Hp}{h h1 h2 h':Heap}{a x e:Addr}{o:HO}
theorem Un.any (u:Un fs ex H H1 h h1){b:Addr}{ob:Obj}(q:h.get? b=some ob) (n:H b=none) (hx:b∉ex):∃ sl,h1.get? b=some { ob with slots:=sl }:=by
 by_cases hb:b∈fs
 ·exact u.slot b ob q n hb hx
 ·exact⟨ob.slots,u.keep b ob q n hb hx⟩
theorem Un.kept (k:∀ b u,h.get? b=some u→h'.get? b=some u):Un fs ex H H h h' :=
 ⟨fun b ob q _ _ _=>k b ob q,fun b ob q _ _ _=>⟨ob.slots,k b ob q⟩,fun _ _ _ n _=>n,fun b ob q _=>⟨ob,k b ob q⟩,fun _ _ q=>q,fun _ _ _ q=>q,fun _ ps q=>⟨#[],by rw[q];simp⟩⟩
theorem Un.refl:Un fs ex H H h h:=Un.kept fun _ _ q=>q
theorem Un.laid (k:∀ b u,h.get? b=some u→h'.get? b=some u) (hp:h.objs.size≤a) (hn:H a=none):Un fs ex H (upd H a o) h h' where
 keep:=fun b u q _ _ _=>k b u q
 slot:=fun b u q _ _ _=>⟨u.slots,k b u q⟩
 free:=fun b u q n _=>by rw[upd_ne (Nat.ne_of_lt (Nat.lt_of_lt_of_le (Heap.lt_size q) hp))];exact n
 there:=fun b u q _=>⟨u,k b u q⟩
 tups:=fun b xs q=>by rw[upd_ne (ne_of_none q hn)];exact q
 frzs:=fun b u xs q=>by rw[upd_ne (ne_of_none q hn)];exact q
 tbls:=fun b ps q=>⟨#[],by rw[upd_ne (ne_of_none q hn),q];simp⟩
theorem Un.write (mu:Mut (H x)) (he:e=x∨H e=some (.own x)) (k:∀ b u,b≠e→h.get? b=some u→h'.get? b=some u) (heo:∃ u,h'.get? e=some u):Un fs ex H (upd H x o) h h':=by
 have hx:∀ b,H b=none→b≠x:=fun b n z=>by subst z;rw[n] at mu;exact mu
 have hb:∀ b,H b=none→b≠e:=fun b n z=>by
  subst z
  rcases he with r | r
  ·exact hx b n r
  ·rw[n] at r;cases r
 have hm:∀ b u,H b=some u→¬ Mut (some u)→b≠x:=fun b u q nm z=>by subst z;rw[q] at mu;exact nm mu
 refine⟨fun b u q n _ _=>k b u (hb b n) q,fun b u q n _ _=>⟨u.slots,k b u (hb b n) q⟩,fun b u q n _=>by rw[upd_ne (hx b n)];exact n,fun b u q _=>?_,
  fun b xs q=>by rw[upd_ne (hm b _ q fun z=>z)];exact q,fun b u xs q=>by rw[upd_ne (hm b _ q fun z=>z)];exact q,fun b ps q=>⟨#[],by rw[upd_ne (hm b _ q fun z=>z),q];simp⟩⟩
 by_cases hbe:b=e
 ·subst hbe;exact heo
 ·exact⟨u,k b u hbe q⟩
end
def trk (h:Heap) (H:Hp):List Addr:=(List.range h.objs.size).filter fun a=>(H a).isSome
def XN (h:Heap) (H:Hp):Heap:=PySem.W.hideAll h (trk h H)
theorem YS (h:Heap) (H:Hp):(XN h H).objs.size=h.objs.size:=PySem.W.hideAll_size _ _
theorem XM {h:Heap}{H:Hp}{b:Addr}{o:Obj}(e:h.get? b=some o) (n:H b=none):(XN h H).get? b=some o :=
 PySem.W.hideAll_get _ e fun hm=>by
  have q:(H b).isSome=true:=(List.mem_filter.mp hm).2
  rw[n] at q;simp at q
theorem Vk {h:Heap}{H:Hp}{b:Addr}{o:Obj}(e:(XN h H).get? b=some o):h.get? b=some o∧H b=none:=by
 have e':h.get? b=some o:=PySem.W.of_hideAll (trk h H) e
 refine⟨e',?_⟩
 cases q:H b with
 |none=>rfl
 |some x =>
  have hm:b∈trk h H:=List.mem_filter.mpr ⟨List.mem_range.mpr (Heap.lt_size e'),by simp[q]⟩
  have z:(XN h H).get? b=none:=PySem.W.hideAll_none (trk h H) hm
  rw[z] at e;cases e
structure Mod (K:PySem.W.Frag) (mg:Str→Option Value) (base:Heap):Prop where
 kin:K.In base
 glob:base.Ns mainGlobals mg
 blt:∃ mb,base.Ns builtinsNs mb∧∀ x:Str,x ≠ "__name__" → mb x=bootBuiltins x
 nolimit:base.NoLimit
structure Cx where
 prog:Program
 w:World
 K:PySem.W.Frag
 mg:Str→Option Value
 base:Heap
 A:Around
 N:List Str
 s₀:Shared
 H₀:Hp
 env:Env
 outer:List Env
 stack:List Env
 ex:List Addr
 fn:Str→Bool
 calm:Bool
 pn:List (Addr×Obj)
 xe:Value→Shared→Prop
def frs (l:List Env):List Addr:=l.filterMap (·.frame)
abbrev Cx.fs (X:Cx):List Addr:=frs X.outer
def Vis (sc:Scope) (x:Str):Prop:=sc.names.lookup x=some .local∨sc.names.lookup x=some .cell∨sc.names.lookup x=some .free
def Loc (sc:Scope) (x:Str):Prop:=sc.names.lookup x=some .local∨sc.names.lookup x=some .cell
def zbU (env:Env) (h:Heap) (m:Str→Option Value) (x:Str) (u:Value):Prop :=
 (env.kindOf x=some .local∧m x=some u)∨((env.kindOf x=some .cell∨env.kindOf x=some .free)∧∃ c,env.cells.lookup x=some c∧h.IsCell c (some u))
structure Cx.Ok (X:Cx):Prop where
 mod:Mod X.K X.mg X.base
 kind:X.env.scope.kind=.function
 glob:X.env.globals=mainGlobals
 blt:X.env.builtins=builtinsNs
 above:X.s₀.heap.objs.size≤X.env.locals
 inj:∀ x y c,X.env.cells.lookup x=some c→X.env.cells.lookup y=some c→x=y
 has:∀ x,(X.env.kindOf x=some .cell∨X.env.kindOf x=some .free)→∃ c,X.env.cells.lookup x=some c
 cab:∀ x c,X.fn x=true→X.env.cells.lookup x=some c→X.s₀.heap.objs.size≤c
 hd:X.calm=true→X.A.handled=none
 frames:X.A.frames=some X.stack
 stk:X.stack=X.outer∨(X.stack=X.env::X.outer∧X.env.frame=some X.env.locals)
 exf:∀ b∈X.ex,b≠X.env.locals∧∀ x c,X.env.cells.lookup x=some c→c≠b
 bs:∀ b o,X.base.get? b=some o→X.s₀.heap.get? b=some o∧X.H₀ b=none
 bsz:X.base.objs.size≤X.s₀.heap.objs.size
 noex:∀ b o,X.base.get? b=some o→b∉X.ex
 exfs:∀ b∈X.ex,b∉X.fs
 funs:X.s₀.heap.FunFrames X.base X.outer
 frf:∀ b∈X.fs,X.H₀ b=none
structure Inv (X:Cx) (pins:List (Addr×Obj)) (σ:List (Option V)) (H:Hp) (s:Shared):Prop where
 ok:X.Ok
 os:s.os=X.s₀.os
 bare:AllBare s.gens
 base:Un X.fs X.ex X.H₀ H X.s₀.heap s.heap
 loc:∃ m,s.heap.Ns X.env.locals m∧∀ (i:Nat) (x:Str) (v:V),X.N[i]?=some x→σ[i]?=some (some v)→Vis X.env.scope x→∃ u,RelV v u∧zbU X.env s.heap m x u
 cell:∀ x c,X.env.cells.lookup x=some c→∃ v,s.heap.IsCell c v
 free:H X.env.locals=none
 freeC:∀ x c,X.env.cells.lookup x=some c→H c=none
 pin:∀ p∈X.pn++pins,s.heap.get? p.1=some p.2∧H p.1=none∧p.1≠X.env.locals∧p.1∉X.fs∧∀ v,p.2.data≠.cell v
 hok:HOk X.prog X.w H s.heap
 len:σ.length=X.N.length
section
variable {X:Cx}{pins:List (Addr×Obj)}{σ:List (Option V)}{H H':Hp}{s:Shared}{h':Heap}
theorem Cx.Ok.nofr (ok:X.Ok){b:Addr}{o:Obj}(e:X.base.get? b=some o):b∉X.fs:=fun hb=>by
 have:=(ok.funs.mem hb).1
 rw[e] at this;cases this
theorem Inv.bs (I:Inv X pins σ H s):∀ b o,X.base.get? b=some o→s.heap.get? b=some o∧H b=none:=fun b o e =>
 ⟨I.base.keep b o (I.ok.bs b o e).1 (I.ok.bs b o e).2 (I.ok.nofr e) (I.ok.noex b o e),I.base.free b o (I.ok.bs b o e).1 (I.ok.bs b o e).2 (I.ok.noex b o e)⟩
theorem Inv.bk (I:Inv X pins σ H s):∀ b o,X.base.get? b=some o→s.heap.get? b=some o:=fun b o e=>(I.bs b o e).1
theorem Inv.mod (I:Inv X pins σ H s):Mod X.K X.mg X.base:=I.ok.mod
theorem Inv.kIn (I:Inv X pins σ H s):X.K.In s.heap:=I.ok.mod.kin.keeps I.bk
theorem Inv.lt (I:Inv X pins σ H s):X.env.locals<s.heap.objs.size:=let ⟨_,hn,_⟩:=I.loc;hn.lt
theorem Inv.sz (I:Inv X pins σ H s):X.s₀.heap.objs.size≤s.heap.objs.size:=Nat.le_trans I.ok.above (Nat.le_of_lt I.lt)
theorem Inv.nofs (I:Inv X pins σ H s){a:Addr}(h:s.heap.objs.size≤a):a∉X.fs:=fun hb=>by
 obtain⟨_,o,ho,_⟩:=I.ok.funs.mem hb
 exact absurd (Nat.lt_of_lt_of_le (Heap.lt_size ho) (Nat.le_trans I.sz h)) (Nat.lt_irrefl _)
theorem Inv.cne (I:Inv X pins σ H s):∀ x c,X.env.cells.lookup x=some c→c≠X.env.locals:=fun x c e z=>by
 obtain⟨v,o,ho,hd⟩:=I.cell x c e
 obtain⟨m,⟨o',es,ep,ho',hd',_⟩,_⟩:=I.loc
 rw[z,ho'] at ho;cases ho;rw[hd'] at hd;cases hd
theorem Inv.funs (I:Inv X pins σ H s):s.heap.FunFrames X.base X.outer:=by
 have all:∀ (l:List Env),(∀ b∈frs l,b∈X.fs)→X.s₀.heap.FunFrames X.base l→s.heap.FunFrames X.base l:=by
  intro l
  induction l with
  |nil=>intro _ _;trivial
  |cons env r ih =>
   intro hs hl
   obtain⟨hk,⟨L,o,hf,hn,ho,hd⟩,hr⟩:=hl
   have hL:L∈X.fs:=hs L (by unfold frs;rw[List.filterMap_cons,hf];exact List.mem_cons_self)
   obtain⟨sl,e⟩:=I.base.slot L o ho (I.ok.frf L hL) hL fun z=>I.ok.exfs L z hL
   exact⟨hk,⟨L,_,hf,hn,e,hd⟩,ih (fun b hb=>hs b (by unfold frs;rw[List.filterMap_cons,hf];exact List.mem_cons_of_mem _ hb)) hr⟩
 exact all X.outer (fun _ hb=>hb) I.ok.funs
theorem Inv.stack (I:Inv X pins σ H s):s.heap.FunFrames X.base X.stack:=by
 rcases I.ok.stk with e | ⟨e,hf⟩
 ·rw[e];exact I.funs
 ·rw[e]
  obtain⟨m,hn,_⟩:=I.loc
  refine .cons (by rw[I.ok.kind];decide) hf hn ?_ I.funs
  exact Heap.get?_none_of_le (Nat.le_trans I.ok.bsz I.ok.above)
theorem Inv.stkSub (I:Inv X pins σ H s):∀ b∈frs X.stack,b∈X.env.locals::X.fs:=fun b hb=>by
 rcases I.ok.stk with e | ⟨e,hf⟩
 ·rw[e] at hb;exact List.mem_cons_of_mem _ hb
 ·rw[e] at hb
  unfold frs at hb
  rw[List.filterMap_cons,hf] at hb
  exact hb
theorem Inv.stkFree (I:Inv X pins σ H s):∀ b∈frs X.stack,H b=none:=fun b hb=>by
 rcases List.mem_cons.mp (I.stkSub b hb) with e | hb
 ·rw[e];exact I.free
 ·obtain⟨_,o,ho,_⟩:=I.ok.funs.mem hb
  exact I.base.free b o ho (I.ok.frf b hb) fun z=>I.ok.exfs b z hb
theorem Inv.step {g':Array GenState}{t':Nat}{d':Drawn}{ch:List Addr}(I:Inv X pins σ H s)
  (hch:∀ b∈ch,(b∈X.ex∨X.s₀.heap.objs.size≤b)∧b≠X.env.locals∧(∀ x c,X.env.cells.lookup x=some c→c≠b)∧∀ p∈X.pn++pins,p.1≠b)
  (keep:∀ b o,b≠X.env.locals→b∉X.fs→b∉ch→s.heap.get? b=some o→H b=none→h'.get? b=some o)
  (slot:∀ b o,b≠X.env.locals→b∈X.fs→b∉ch→s.heap.get? b=some o→H b=none→∃ sl,h'.get? b=some { o with slots:=sl }) (free:∀ b o,b∉ch→s.heap.get? b=some o→H b=none→H' b=none)
  (there:∀ b o,b∉ch→s.heap.get? b=some o→∃ o',h'.get? b=some o')
  (tups:∀ b xs,H b=some (.tup xs)→H' b=some (.tup xs)) (frzs:∀ b o u,H b=some (.frz o u)→H' b=some (.frz o u)) (tbls:∀ b ps,H b=some (.tbl ps)→∃ more,H' b=some (.tbl (ps++more)))
  (ns:∀ m,s.heap.Ns X.env.locals m→h'.Ns X.env.locals m) (hok:HOk X.prog X.w H' h') (hg:AllBare g') :
  Inv X pins σ H' { s with heap:=h',gens:=g',drawn:=d',toks:=t' }:=by
 have neL:∀ b o,X.s₀.heap.get? b=some o→b≠X.env.locals:=fun b o e=>Nat.ne_of_lt (Nat.lt_of_lt_of_le (Heap.lt_size e) I.ok.above)
 have neC:∀ b o,X.s₀.heap.get? b=some o→b∉X.ex→b∉ch:=fun b o e hx hb=>by
  rcases(hch b hb).1 with z | z
  ·exact hx z
  ·exact absurd (Nat.lt_of_lt_of_le (Heap.lt_size e) z) (Nat.lt_irrefl _)
 have cellK:∀ x c,X.env.cells.lookup x=some c→∀ v,s.heap.IsCell c v→h'.IsCell c v:=fun x c e v ⟨o,ho,hd⟩=>by
  have nch:c∉ch:=fun z=>(hch c z).2.2.1 x c e rfl
  by_cases hc:c∈X.fs
  ·obtain⟨sl,q⟩:=slot c o (I.cne x c e) hc nch ho (I.freeC x c e)
   exact⟨_,q,hd⟩
  ·exact⟨o,keep c o (I.cne x c e) hc nch ho (I.freeC x c e),hd⟩
 refine⟨I.ok,I.os,hg,⟨fun b o e n hb hx=>?_,fun b o e n hb hx=>?_,fun b o e n hx=>?_,fun b o e hx=>?_,fun b xs e=>tups b xs (I.base.tups b xs e),fun b o xs e=>frzs b o xs (I.base.frzs b o xs e),fun b ps e=>?_⟩,?_,fun x c e=>?_,?_,fun x c e=>?_,fun p hp=>?_,hok,I.len⟩
 ·exact keep b o (neL b o e) hb (neC b o e hx) (I.base.keep b o e n hb hx) (I.base.free b o e n hx)
 ·obtain⟨sl,e1⟩:=I.base.slot b o e n hb hx
  obtain⟨sl',e2⟩:=slot b _ (neL b o e) hb (neC b o e hx) e1 (I.base.free b o e n hx)
  exact⟨sl',e2⟩
 ·obtain⟨o',e1⟩:=I.base.there b o e hx
  exact free b o' (neC b o e hx) e1 (I.base.free b o e n hx)
 ·obtain⟨o',e1⟩:=I.base.there b o e hx
  exact there b o' (neC b o e hx) e1
 ·obtain⟨m1,e1⟩:=I.base.tbls b ps e
  obtain⟨m2,e2⟩:=tbls b _ e1
  exact⟨m1++m2,by rw[e2,Array.append_assoc]⟩
 ·obtain⟨m,hn,hl⟩:=I.loc
  refine⟨m,ns m hn,fun i x v e1 e2 e3=>?_⟩
  obtain⟨u,r,l⟩:=hl i x v e1 e2 e3
  refine⟨u,r,?_⟩
  rcases l with l | ⟨k,c,e,z⟩
  ·exact .inl l
  ·exact .inr ⟨k,c,e,cellK x c e _ z⟩
 ·obtain⟨v,z⟩:=I.cell x c e
  exact⟨v,cellK x c e v z⟩
 ·obtain⟨m,⟨o,_,_,ho,_⟩,_⟩:=I.loc
  exact free _ o (fun z=>(hch _ z).2.1 rfl) ho I.free
 ·obtain⟨v,o,ho,hd⟩:=I.cell x c e
  exact free c o (fun z=>(hch c z).2.2.1 x c e rfl) ho (I.freeC x c e)
 ·obtain⟨e,n,ne,nf,d⟩:=I.pin p hp
  have nch:p.1∉ch:=fun z=>(hch p.1 z).2.2.2 p hp rfl
  exact⟨keep p.1 p.2 ne nf nch e n,free p.1 p.2 nch e n,ne,nf,d⟩
theorem Inv.un {t':Nat}(I:Inv X pins σ H s) (u:Un X.fs [] H H' s.heap h') (hok:HOk X.prog X.w H' h'):Inv X pins σ H' { s with heap:=h',toks:=t' }:=by
 obtain⟨m,⟨o,es,ep,ho,r⟩,_⟩:=id I.loc
 obtain⟨sl,hL⟩:=u.any ho I.free (by simp)
 exact I.step (g':=s.gens) (d':=s.drawn) (ch:=[]) (fun _ z=>nomatch z) (fun b o _ hb _ e n=>u.keep b o e n hb (by simp)) (fun b o _ hb _ e n=>u.slot b o e n hb (by simp)) (fun b o _ e n=>u.free b o e n (by simp)) (fun b o _ e=>u.there b o e (by simp)) u.tups u.frzs u.tbls (fun m' hm=>by
  obtain⟨o',es',ep',ho',r'⟩:=hm
  rw[ho] at ho';cases ho'
  exact⟨_,es',ep',hL,r'⟩) hok I.bare
theorem Inv.call {g':Array GenState}{t':Nat}{d':Drawn}{ch:List Addr}(I:Inv X pins σ H s) (u:Un (frs X.stack) ch H H' s.heap h') (hok:HOk X.prog X.w H' h') (hg:AllBare g')
  (hch:∀ b∈ch,(b∈X.ex∨X.s₀.heap.objs.size≤b)∧b≠X.env.locals∧(∀ x c,X.env.cells.lookup x=some c→c≠b)∧∀ p∈X.pn++pins,p.1≠b) :
  Inv X pins σ H' { s with heap:=h',gens:=g',drawn:=d',toks:=t' }:=by
 obtain⟨m,⟨o,es,ep,ho,r⟩,_⟩:=id I.loc
 obtain⟨sl,hL⟩:=u.any ho I.free fun z=>(hch _ z).2.1 rfl
 exact I.step (ch:=ch) hch (fun b o hL hb hc e n=>u.keep b o e n (fun z=>(List.mem_cons.mp (I.stkSub b z)).elim hL hb) hc) (fun b o _ _ hc e n=>u.any e n hc) (fun b o hc e n=>u.free b o e n hc) (fun b o hc e=>u.there b o e hc) u.tups u.frzs u.tbls (fun m' hm=>by
  obtain⟨o',es',ep',ho',r'⟩:=hm
  rw[ho] at ho';cases ho'
  exact⟨_,es',ep',hL,r'⟩) hok hg
theorem Inv.turned {t':Nat}{it:Addr}(I:Inv X pins σ H s) (k:∀ b o,b≠it→s.heap.get? b=some o→h'.get? b=some o) (hn:H it=none) (hL:it≠X.env.locals)
  (h1:it∈X.ex∨X.s₀.heap.objs.size≤it) (h2:∀ x c,X.env.cells.lookup x=some c→c≠it) (h3:∀ p∈X.pn++pins,p.1≠it):Inv X pins σ H { s with heap:=h',toks:=t' }:=by
 have nit:∀ b u,H b=some u→b≠it:=fun b u e z=>by rw[z,hn] at e;cases e
 refine I.step (g':=s.gens) (d':=s.drawn) (ch:=[it]) (fun b hb=>?_) (fun b o _ _ hc e _=>k b o (fun z=>hc (by simp[z])) e) (fun b o _ _ hc e _=>⟨o.slots,k b o (fun z=>hc (by simp[z])) e⟩) (fun _ _ _ _ n=>n)
  (fun b o hc e=>⟨o,k b o (fun z=>hc (by simp[z])) e⟩) (fun _ _ e=>e) (fun _ _ _ e=>e) (fun b ps e=>⟨#[],by rw[e];simp⟩) (fun m hm=>?_) (fun b u e=>?_) I.bare
 ·have e:b=it:=by simpa using hb
  subst e
  exact⟨h1,hL,h2,h3⟩
 ·obtain⟨o,es,ep,ho,r⟩:=hm
  exact⟨o,es,ep,k _ o (Ne.symm hL) ho,r⟩
 ·refine(I.hok b u e).stay (fun c v hc q=>k c v ?_ q) (fun _ q=>q) fun _ _ q=>q
  rcases hc with z | z
  ·rw[z];exact nit b u e
  ·exact nit c _ z
theorem Inv.tok (I:Inv X pins σ H s) (t:Nat):Inv X pins σ H { s with toks:=t }:=I.un (h':=s.heap) (t':=t) Un.refl I.hok
theorem Inv.kept {t':Nat}(I:Inv X pins σ H s) (k:∀ b u,s.heap.get? b=some u→h'.get? b=some u):Inv X pins σ H { s with heap:=h',toks:=t' }:=I.un (Un.kept k) (I.hok.kept k)
theorem Inv.laid {a:Addr}{o:HO}{t':Nat}(I:Inv X pins σ H s) (k:∀ b u,s.heap.get? b=some u→h'.get? b=some u) (hp:s.heap.objs.size≤a) (new:ObjOk X.prog X.w (upd H a o) h' a o) :
  Inv X pins σ (upd H a o) { s with heap:=h',toks:=t' }:=I.un (Un.laid k hp (I.hok.fresh hp)) (I.hok.laid k hp new)
theorem Inv.write {x e:Addr}{o:HO}{t':Nat}(I:Inv X pins σ H s) (mu:Mut (H x)) (he:e=x∨H e=some (.own x)) (k:∀ b u,b≠e→s.heap.get? b=some u→h'.get? b=some u) (heo:∃ u,h'.get? e=some u)
  (new:ObjOk X.prog X.w (upd H x o) h' x o):Inv X pins σ (upd H x o) { s with heap:=h',toks:=t' }:=I.un (Un.write mu he k heo) (I.hok.write mu he k heo new)
theorem Inv.pins_of {pins':List (Addr×Obj)}(I:Inv X pins σ H s) (h:∀ p∈pins',s.heap.get? p.1=some p.2∧H p.1=none∧p.1≠X.env.locals∧p.1∉X.fs∧∀ v,p.2.data≠.cell v):Inv X pins' σ H s :=
 ⟨I.ok,I.os,I.bare,I.base,I.loc,I.cell,I.free,I.freeC,fun p hp=>(List.mem_append.mp hp).elim (fun z=>I.pin p (List.mem_append_left _ z)) (h p),I.hok,I.len⟩
theorem nodup_ix {N:List Str}(hN:N.Nodup){i j:Nat}{x:Str}(a:N[i]?=some x) (b:N[j]?=some x):i=j:=by
 obtain⟨h1,e1⟩:=List.getElem?_eq_some_iff.mp a
 obtain⟨h2,e2⟩:=List.getElem?_eq_some_iff.mp b
 exact(List.getElem_inj hN).mp (e1.trans e2.symm)
theorem vE {M:Model}{A:Around}{E:Value→Shared→Prop}{i:Nat}{x:Str}{v:V}{u:Value}{Q:Unit→Shared→Prop}(I:Inv X pins σ H s) (hN:X.N.Nodup) (hi:X.N[i]?=some x) (hx:Loc X.env.scope x) (r:RelV v u)
  (h:∀ s',Inv X pins (σ.set i (some v)) H s'→(∃ a,Heap.SameBut a s.heap s'.heap∧(a=X.env.locals∨X.env.cells.lookup x=some a))→Q () s') (hf:X.fn x=true∨X.env.scope.names.lookup x=some .local:=by first | exact .inl rfl | exact .inr rfl | assumption):wpAny M A (storeName X.env x u) Q E s:=by
 obtain⟨m,hn,hl⟩:=id I.loc
 have hcls:(X.env.scope.kind == .class||(X.env.scope.kind == .module&&X.env.locals != X.env.globals))=false:=by rw[I.ok.kind];rfl
 have hiσ:i<σ.length:=by rw[I.len];exact(List.getElem?_eq_some_iff.mp hi).1
 have cne:=I.cne
 have tracked:∀ {a:Addr}{h':Heap},(∃ o,s.heap.get? a=some o∧H a=none)→Heap.SameBut a s.heap h'→HOk X.prog X.w H h':=fun {a h'} ha hs b ob e=>by
  obtain⟨_,_,hfree⟩:=ha
  refine(I.hok b ob e).stay (fun c w' hc q=>(hs.2 c ?_).trans q) (fun _ q=>q) fun _ _ q=>q
  rintro rfl
  rcases hc with rfl | hc
  ·rw[hfree] at e;cases e
  ·rw[hfree] at hc;cases hc
 rcases hx with hk | hk
 ·refine wpAny_storeName_local hk hn (fun h' hn' hs=>?_) hcls
  obtain⟨oL,_,_,hoL,_⟩:=id hn
  refine h _ ⟨I.ok,I.os,I.bare,⟨fun b o e n hb hx=>?_,fun b o e n hb hx=>?_,I.base.free,fun b o e hx=>?_,I.base.tups,I.base.frzs,I.base.tbls⟩,⟨_,hn',fun j y v' e1 e2 e3=>?_⟩,fun y c e=>?_,I.free,I.freeC,fun p hp=>?_,tracked ⟨oL,hoL,I.free⟩ hs,by simpa using I.len⟩ ⟨_,hs,.inl rfl⟩
  ·exact(hs.2 b (Nat.ne_of_lt (Nat.lt_of_lt_of_le (Heap.lt_size e) I.ok.above))).trans (I.base.keep b o e n hb hx)
  ·obtain⟨sl,e1⟩:=I.base.slot b o e n hb hx
   exact⟨sl,(hs.2 b (Nat.ne_of_lt (Nat.lt_of_lt_of_le (Heap.lt_size e) I.ok.above))).trans e1⟩
  ·obtain⟨o',e1⟩:=I.base.there b o e hx
   exact⟨o',(hs.2 b (Nat.ne_of_lt (Nat.lt_of_lt_of_le (Heap.lt_size e) I.ok.above))).trans e1⟩
  ·by_cases hj:j=i
   ·subst hj
    rw[hi] at e1;cases e1
    rw[List.getElem?_set_self hiσ] at e2
    cases e2
    exact⟨u,r,.inl ⟨hk,by simp⟩⟩
   ·rw[List.getElem?_set_ne (Ne.symm hj)] at e2
    obtain⟨u',r',q⟩:=hl j y v' e1 e2 e3
    refine⟨u',r',?_⟩
    rcases q with⟨k,e⟩ | ⟨k,c,e,z⟩
    ·refine .inl ⟨k,?_⟩
     have:y≠x:=fun e=>hj (nodup_ix hN e1 (e ▸ hi))
     simp[this,e]
    ·exact .inr ⟨k,c,e,z.sameBut hs (cne y c e)⟩
  ·obtain⟨w',z⟩:=I.cell y c e
   exact⟨w',z.sameBut hs (cne y c e)⟩
  ·obtain⟨e,n,ne,nf,d⟩:=I.pin p hp
   exact⟨(hs.2 p.1 ne).trans e,n,ne,nf,d⟩
 ·have hfn:X.fn x=true:=by
   rcases hf with z | z
   ·exact z
   ·rw[z] at hk;cases hk
  obtain⟨c,hc⟩:=I.ok.has x (.inl hk)
  obtain⟨w',z⟩:=I.cell x c hc
  refine wpAny_storeName_cell I.ok.kind hk hc z (fun h' hc' hs=>?_)
  obtain⟨oc,hoc,hocd⟩:=id z
  refine h { s with heap:=h' } ⟨I.ok,I.os,I.bare,⟨fun b o e n hb hx=>?_,fun b o e n hb hx=>?_,I.base.free,fun b o e hx=>?_,I.base.tups,I.base.frzs,I.base.tbls⟩,⟨m,hn.sameBut hs (Ne.symm (cne x c hc)),fun j y v' e1 e2 e3=>?_⟩,fun y c' e=>?_,I.free,I.freeC,fun p hp=>?_,tracked ⟨oc,hoc,I.freeC x c hc⟩ hs,by simpa using I.len⟩ ⟨c,hs,.inr hc⟩
  ·exact(hs.2 b (Nat.ne_of_lt (Nat.lt_of_lt_of_le (Heap.lt_size e) (I.ok.cab x c hfn hc)))).trans (I.base.keep b o e n hb hx)
  ·obtain⟨sl,e1⟩:=I.base.slot b o e n hb hx
   exact⟨sl,(hs.2 b (Nat.ne_of_lt (Nat.lt_of_lt_of_le (Heap.lt_size e) (I.ok.cab x c hfn hc)))).trans e1⟩
  ·obtain⟨o',e1⟩:=I.base.there b o e hx
   exact⟨o',(hs.2 b (Nat.ne_of_lt (Nat.lt_of_lt_of_le (Heap.lt_size e) (I.ok.cab x c hfn hc)))).trans e1⟩
  ·by_cases hj:j=i
   ·subst hj
    rw[hi] at e1;cases e1
    rw[List.getElem?_set_self hiσ] at e2
    cases e2
    exact⟨u,r,.inr ⟨.inl hk,c,hc,hc'⟩⟩
   ·rw[List.getElem?_set_ne (Ne.symm hj)] at e2
    obtain⟨u',r',q⟩:=hl j y v' e1 e2 e3
    refine⟨u',r',?_⟩
    rcases q with q | ⟨k,c',e,z'⟩
    ·exact .inl q
    ·refine .inr ⟨k,c',e,z'.sameBut hs ?_⟩
     rintro rfl
     exact hj (nodup_ix hN e1 (I.ok.inj _ _ _ e hc ▸ hi))
  ·by_cases hcc:c'=c
   ·subst hcc;exact⟨_,hc'⟩
   ·obtain⟨w2,z2⟩:=I.cell y c' e
    exact⟨w2,z2.sameBut hs hcc⟩
  ·obtain⟨e,n,ne,nf,d⟩:=I.pin p hp
   refine⟨(hs.2 p.1 ?_).trans e,n,ne,nf,d⟩
   intro q
   rw[q,hoc] at e
   have q':oc=p.2:=Option.some.inj e
   exact d w' (by rw[← q'];exact hocd)
theorem store_ok {M:Model}{A:Around}{E:Value→Shared→Prop}{i:Nat}{x:Str}{v:V}{u:Value}{Q:Unit→Shared→Prop}(I:Inv X pins σ H s) (hN:X.N.Nodup) (hi:X.N[i]?=some x) (hx:Loc X.env.scope x) (r:RelV v u)
  (h:∀ s',Inv X pins (σ.set i (some v)) H s'→Q () s') (hf:X.fn x=true∨X.env.scope.names.lookup x=some .local:=by first | exact .inl rfl | exact .inr rfl | assumption):wpAny M A (storeName X.env x u) Q E s :=
 vE I hN hi hx r (fun s' I' _=>h s' I') hf
theorem Inv.call' {s':Shared}{ch:List Addr}(I:Inv X pins σ H s) (ho:s'.os=s.os) (u:Un (frs X.stack) ch H H' s.heap s'.heap) (hok:HOk X.prog X.w H' s'.heap) (hg:AllBare s'.gens)
  (hch:∀ b∈ch,(b∈X.ex∨X.s₀.heap.objs.size≤b)∧b≠X.env.locals∧(∀ x c,X.env.cells.lookup x=some c→c≠b)∧∀ p∈X.pn++pins,p.1≠b):Inv X pins σ H' s':=by
 obtain⟨h',g',d',t',o'⟩:=s'
 have e:o'=s.os:=ho
 subst e
 exact I.call (g':=g') (t':=t') (d':=d') u hok hg hch
end
abbrev XK:=Value→Option Addr→Hp→Prop
abbrev St:=List (Option V)
abbrev VK:=V→Hp→Prop
abbrev TE:=St→Hp→VK→Prop
abbrev TT:=St→Hp→(Bool→Hp→Prop)→Prop
abbrev TA:=St→Hp→(List V→Hp→Prop)→Prop
structure Ends where
 nx:St→Hp→Prop
 rt:VK
 bk:St→Hp→Prop:=fun _ _=>False
 ct:St→Hp→Prop:=fun _ _=>False
abbrev TS:=Ends→St→Hp→Prop
def EP (X:Cx) (pins:List (Addr×Obj)) (σ:St) (Q:VK) (u:Value) (s':Shared):Prop:=∃ v H',Inv X pins σ H' s'∧RelV v u∧Q v H'
def TP (X:Cx) (pins:List (Addr×Obj)) (σ:St) (Q:Bool→Hp→Prop) (b:Bool) (s':Shared):Prop:=∃ H',Inv X pins σ H' s'∧Q b H'
def AP (X:Cx) (pins:List (Addr×Obj)) (σ:St) (Q:List V→Hp→Prop) (us:List Value) (s':Shared):Prop:=∃ vs H',Inv X pins σ H' s'∧Vals vs us∧Q vs H'
def SP (X:Cx) (pins:List (Addr×Obj)) (D:Ends) (f:Flow) (s':Shared):Prop :=
 match f with
 |.next=>∃ σ' H',Inv X pins σ' H' s'∧D.nx σ' H'
 |.brk=>∃ σ' H',Inv X pins σ' H' s'∧D.bk σ' H'
 |.cont=>∃ σ' H',Inv X pins σ' H' s'∧D.ct σ' H'
 |.ret u=>∃ v σ' H',Inv X pins σ' H' s'∧RelV v u∧D.rt v H'
def PE (X:Cx) (e:Expr) (t:TE):Prop :=
 ∀ (pins:List (Addr×Obj)) (s:Shared) (σ:St) (H:Hp) (Q:VK),Inv X pins σ H s→t σ H Q→wpAny (model X.prog X.w) X.A (eval e X.env) (EP X pins σ Q) X.xe s
def PT (X:Cx) (e:Expr) (t:TT):Prop :=
 ∀ (pins:List (Addr×Obj)) (s:Shared) (σ:St) (H:Hp) (Q:Bool→Hp→Prop),Inv X pins σ H s→t σ H Q→wpAny (model X.prog X.w) X.A (isTrue e X.env (eval e X.env)) (TP X pins σ Q) X.xe s
def PW (X:Cx) (e:Expr) (t:TT):Prop :=
 ∀ (whole:Sem Value) (pins:List (Addr×Obj)) (s:Shared) (σ:St) (H:Hp) (Q:Bool→Hp→Prop),Inv X pins σ H s→t σ H Q→wpAny (model X.prog X.w) X.A (isTrue e X.env whole) (TP X pins σ Q) X.xe s
theorem PW.pt {X:Cx}{e:Expr}{t:TT}(h:PW X e t):PT X e t:=h _
def PA (X:Cx) (es:List Expr) (t:TA):Prop :=
 ∀ (pos:Pos) (pins:List (Addr×Obj)) (s:Shared) (σ:St) (H:Hp) (Q:List V→Hp→Prop),Inv X pins σ H s→t σ H Q→wpAny (model X.prog X.w) X.A (spliced (backTo pos (starEach es X.env))) (AP X pins σ Q) X.xe s
def PS (X:Cx) (st:Stmt) (t:TS):Prop :=
 ∀ (pins:List (Addr×Obj)) (s:Shared) (σ:St) (H:Hp) (D:Ends),Inv X pins σ H s→t D σ H→wpAny (model X.prog X.w) X.A (exec st X.env) (SP X pins D) X.xe s
def PSs (X:Cx) (st:List Stmt) (t:TS):Prop :=
 ∀ (pins:List (Addr×Obj)) (s:Shared) (σ:St) (H:Hp) (D:Ends),Inv X pins σ H s→t D σ H→wpAny (model X.prog X.w) X.A (execs st X.env) (SP X pins D) X.xe s
theorem thn {α:Type}{t:Sem α}{Q Q':α→Shared→Prop}{M:Model}{A:Around}{E:Value→Shared→Prop}{s:Shared}(h:wpAny M A t Q E s) (hQ:∀ a s,Q a s→Q' a s):wpAny M A t Q' E s:=wpAny_mono h hQ fun _ _ x=>x
section
variable {X:Cx}
theorem bin {a b:Expr}{ta tb:TE}(ha:PE X a ta) (hb:PE X b tb){pins:List (Addr×Obj)}{s:Shared}{σ:St}{H:Hp}{R:V→V→Hp→Prop}(I:Inv X pins σ H s) (h:ta σ H fun x H1=>tb σ H1 fun y H2=>R x y H2)
  {α:Type}{Q:α→Shared→Prop}{f:Value→Value→Sem α}
  (hf:∀ v u s2 x y H2,Inv X pins σ H2 s2→RelV x v→RelV y u→R x y H2→wpAny (model X.prog X.w) X.A (f v u) Q X.xe s2) :
  wpAny (model X.prog X.w) X.A (eval a X.env) (fun v s₁=>wpAny (model X.prog X.w) X.A (eval b X.env) (fun u s₂=>wpAny (model X.prog X.w) X.A (f v u) Q X.xe s₂) X.xe s₁) X.xe s:=by
 refine thn (ha pins s σ H _ I h) fun v s1 hq0=>?_
 obtain⟨x,H1,I1,r1,q1⟩:=hq0
 refine thn (hb pins s1 σ H1 _ I1 q1) fun u s2 hq0=>?_
 obtain⟨y,H2,I2,r2,q2⟩:=hq0
 exact hf v u s2 x y H2 I2 r1 r2 q2
def ya (i:Nat):TE:=fun σ H Q=>∃ v,σ[i]?=some (some v)∧Q v H
def tC (v:V):TE:=fun _ H Q=>Q v H
theorem Ub {i:Nat}{x:Str}{pos:Pos}(hN:X.N[i]?=some x) (hv:Vis X.env.scope x) (hd:(x == ("__debug__" : Str))=false:=by decide) (hcd:(x == ("__classdict__" : Str))=false:=by decide):PE X (.Name x pos) (ya i):=by
 intro pins s σ H Q I h
 obtain⟨v,e,h⟩:=h
 obtain⟨m,hn,hl⟩:=I.loc
 obtain⟨u,r,l⟩:=hl i x v hN e hv
 have fin:EP X pins σ Q u s:=⟨v,H,I,r,h⟩
 rcases l with⟨hk,hm⟩ | ⟨hk,c,hc,hcell⟩
 ·exact wpAny_Name (wpAny_loadName_local I.ok.kind hk hn hm fin) hd
 ·rcases hk with hk | hk
  ·exact wpAny_Name (wpAny_loadName_cell I.ok.kind hk hc hcell fin) hd
  ·exact wpAny_Name (wpAny_loadName_free I.ok.kind hk hc hcell fin hcd) hd
theorem xA {i j pos}:PE X (.Constant (.int i) j pos) (tC (.int i)):=fun _ _ _ H _ I h=>wpAny_Constant_int ⟨.int i,H,I.tok _,⟨_,rfl⟩,h⟩
theorem wH {b j pos}:PE X (.Constant (.bool b) j pos) (tC (.bl b)):=fun _ _ _ H _ I h=>Constant_bool ⟨.bl b,H,I,rfl,h⟩
theorem yC {j pos}:Bx (PE X (.Constant .none j pos) (tC .non)):=by
 exact⟨fun _ _ _ H _ I h=>Constant_none ⟨.non,H,I,rfl,h⟩⟩
theorem uQ {x j pos}:Bx (PE X (.Constant (.str x) j pos) (tC (.str x))):=by
 exact⟨fun _ _ _ H _ I h=>Calls.Constant_str ⟨.str x,H,I.tok _,⟨_,rfl⟩,h⟩⟩
def Gl (X:Cx) (x:Str):Prop:=X.env.kindOf x=some .globalImplicit
theorem ld_glob {E:Value→Shared→Prop}{pins:List (Addr×Obj)}{s:Shared}{σ:St}{H:Hp}{x:Str}{u:Value}{pos:Pos}{Q:Value→Shared→Prop}(I:Inv X pins σ H s) (hg:Gl X x) (hm:X.mg x=some u) (h:Q u s)
  (hd:(x == ("__debug__" : Str))=false:=by decide):wpAny (model X.prog X.w) X.A (eval (.Name x pos) X.env) Q E s :=
 Calls.Name_function_global I.ok.kind hg (Calls.loadGlobal_global (by rw[I.ok.glob];exact I.mod.glob.keeps I.bk) hm h) hd
theorem ld_blt {E:Value→Shared→Prop}{pins:List (Addr×Obj)}{s:Shared}{σ:St}{H:Hp}{x:Str}{u:Value}{pos:Pos}{Q:Value→Shared→Prop}(I:Inv X pins σ H s) (hg:Gl X x) (hm:X.mg x=none) (hv:bootBuiltins x=some u) (h:Q u s)
  (hn:x ≠ "__name__" := by decide) (hd:(x == ("__debug__" : Str))=false:=by decide):wpAny (model X.prog X.w) X.A (eval (.Name x pos) X.env) Q E s:=by
 obtain⟨mb,h1,h2⟩:=I.mod.blt
 exact Calls.Name_function_global I.ok.kind hg (Calls.loadGlobal_builtin (by rw[I.ok.glob];exact I.mod.glob.keeps I.bk) hm (by rw[I.ok.blt];exact h1.keeps I.bk) ((h2 x hn).trans hv) h) hd
theorem ut {x:Str}{v:V}{u:Value}{pos:Pos}(hg:Gl X x) (hm:X.mg x=some u) (r:RelV v u) (hd:(x == ("__debug__" : Str))=false:=by decide):PE X (.Name x pos) (tC v) :=
 fun _ _ _ H _ I h=>ld_glob I hg hm ⟨v,H,I,r,h⟩ hd
theorem Vd {x:Str}{v:V}{u:Value}{pos:Pos}(hg:Gl X x) (hm:X.mg x=none) (hv:bootBuiltins x=some u) (r:RelV v u) (hn:x ≠ "__name__" := by decide) (hd:(x == ("__debug__" : Str))=false:=by decide):PE X (.Name x pos) (tC v) :=
 fun _ _ _ H _ I h=>ld_blt I hg hm hv ⟨v,H,I,r,h⟩ hn hd
variable {a b:Expr}{ta tb:TE}{pos:Pos}
def PC (X:Cx) (op:CmpOp) (a b:Expr) (t:TE):Prop :=
 ∀ (pins:List (Addr×Obj)) (s:Shared) (σ:St) (H:Hp) (Q:VK),Inv X pins σ H s→t σ H Q →
  wpAny (model X.prog X.w) X.A (eval a X.env) (fun v s₁=>wpAny (model X.prog X.w) X.A (eval b X.env) (fun u s₂=>wpAny (model X.prog X.w) X.A (compareOp op v u) (EP X pins σ Q) X.xe s₂) X.xe s₁) X.xe s
def tB (t:TE):TT:=fun σ H Q=>t σ H fun x H1=>∃ c,x=.bl c∧Q c H1
theorem Xd {op:CmpOp}{t:TE}(h:Bx (PC X op a b t)) (h1:behindInMarks op b=false:=by first | exact nobehind _ (by decide) (by decide) | rfl):Bx (PE X (.Compare a [op] [b] pos) t):=by
 have h:=h.of
 exact⟨fun pins s σ H Q I hw=>wpAny_Compare1 (h pins s σ H Q I hw) h1⟩
theorem Wi {op:CmpOp}{t:TE}(h:PC X op a b t) (h1:behindInMarks op b=false:=by first | exact nobehind _ (by decide) (by decide) | rfl):PT X (.Compare a [op] [b] pos) (tB t):=by
 intro pins s σ H Q I hw
 refine wpAny_isTrue_Compare1 (thn (h pins s σ H _ I hw) fun v s1 h1=>thn h1 fun u s2 h2=>thn h2 fun c s3 hq0=>?_) h1
 obtain⟨x,H1,I1,r1,q1⟩:=hq0
 obtain⟨d,rfl,q⟩:=q1
 cases r1
 exact wpAny_truthy_bool ⟨H1,I1,q⟩
theorem xy {e:Expr}{t:TE}(h:PE X e t) (he:∀ whole,isTrue e X.env whole=(do let v ← whole;standAt e.pos;holding [v] (truthy v)):=by intro _;rfl):PT X e (tB t):=by
 intro pins s σ H Q I hw
 refine isTrue_plain (thn (h pins s σ H _ I hw) fun v s1 hq0=>?_) (he _)
 obtain⟨x,H1,I1,r1,q1⟩:=hq0
 obtain⟨d,rfl,q⟩:=q1
 cases r1
 exact wpAny_truthy_bool ⟨H1,I1,q⟩
variable {tA tB':TT}{rest:List Expr}
def zbA (t u:TT):TT:=fun σ H Q=>t σ H fun c H1=>if c=true then u σ H1 Q else Q false H1
def tOr (t u:TT):TT:=fun σ H Q=>t σ H fun c H1=>if c=true then Q true H1 else u σ H1 Q
def zaR (t:TT):TT:=fun σ H Q=>t σ H fun c H1=>Q (!c) H1
theorem yK (ha:Bx (PT X a tA)):Bx (PW X (.BoolOp .And [a] pos) tA):=by
 have ha:=ha.of
 refine⟨?_⟩
 intro wh pins s σ H Q I h
 refine isTrue_and (thn (ha pins s σ H Q I h) fun c s1 e=>?_)
 cases c with
 |true=>exact isTrue_and_nil e
 |false=>exact e
theorem wP (ha:PT X a tA):PW X (.BoolOp .Or [a] pos) tA:=by
 intro wh pins s σ H Q I h
 refine isTrue_or (thn (ha pins s σ H Q I h) fun c s1 e=>?_)
 cases c with
 |false=>exact isTrue_or_nil e
 |true=>exact e
theorem yU (ha:Bx (PT X a tA)) (hb:Bx (PW X (.BoolOp .And (b::rest) pos) tB')):Bx (PW X (.BoolOp .And (a::b::rest) pos) (zbA tA tB')):=by
 have ha:=ha.of
 have hb:=hb.of
 refine⟨?_⟩
 intro wh pins s σ H Q I h
 refine isTrue_and (thn (ha pins s σ H _ I h) fun c s1 hq0=>?_)
 obtain⟨H1,I1,q1⟩:=hq0
 cases c with
 |true=>exact hb wh pins s1 σ H1 Q I1 q1
 |false=>exact⟨H1,I1,q1⟩
theorem vJ (ha:PT X a tA) (hb:PW X (.BoolOp .Or (b::rest) pos) tB'):PW X (.BoolOp .Or (a::b::rest) pos) (tOr tA tB'):=by
 intro wh pins s σ H Q I h
 refine isTrue_or (thn (ha pins s σ H _ I h) fun c s1 hq0=>?_)
 obtain⟨H1,I1,q1⟩:=hq0
 cases c with
 |true=>exact⟨H1,I1,q1⟩
 |false=>exact hb wh pins s1 σ H1 Q I1 q1
theorem xz (ha:PT X a tA):PT X (.UnaryOp .Not a pos) (zaR tA):=by
 intro pins s σ H Q I h
 exact isTrue_not (ha pins s σ H (fun c H1=>Q (!c) H1) I h)
def tAndV (ta tb:TE):TE:=fun σ H Q=>ta σ H fun x H1=>∃ c,x=.bl c∧if c=true then tb σ H1 Q else Q (.bl false) H1
def UU (ta tb:TE):TE:=fun σ H Q=>ta σ H fun x H1=>∃ c,x=.bl c∧if c=true then Q (.bl true) H1 else tb σ H1 Q
def VN (ta:TE):TE:=fun σ H Q=>ta σ H fun x H1=>∃ c,x=.bl c∧Q (.bl (!c)) H1
theorem Yj {op}{t:TE}(h:PE X a t):PE X (.BoolOp op [a] pos) t:=fun pins s σ H Q I hw=>BoolOp_one (h pins s σ H Q I hw)
theorem Zd (ha:PE X a ta) (hb:PE X (.BoolOp .And (b::rest) pos) tb):PE X (.BoolOp .And (a::b::rest) pos) (tAndV ta tb):=by
 intro pins s σ H Q I h
 refine BoolOp_and (thn (ha pins s σ H _ I h) fun v s1 hq0=>?_)
 obtain⟨x,H1,I1,r1,q1⟩:=hq0
 obtain⟨c,rfl,q1⟩:=q1
 cases r1
 refine wpAny_truthy_bool ?_
 cases c with
 |true=>exact hb pins s1 σ H1 Q I1 q1
 |false=>exact⟨.bl false,H1,I1,rfl,q1⟩
theorem ZW (ha:Bx (PE X a ta)) (hb:Bx (PE X (.BoolOp .Or (b::rest) pos) tb)):Bx (PE X (.BoolOp .Or (a::b::rest) pos) (UU ta tb)):=by
 have ha:=ha.of
 have hb:=hb.of
 refine⟨?_⟩
 intro pins s σ H Q I h
 refine BoolOp_or (thn (ha pins s σ H _ I h) fun v s1 hq0=>?_)
 obtain⟨x,H1,I1,r1,q1⟩:=hq0
 obtain⟨c,rfl,q1⟩:=q1
 cases r1
 refine wpAny_truthy_bool ?_
 cases c with
 |false=>exact hb pins s1 σ H1 Q I1 q1
 |true=>exact⟨.bl true,H1,I1,rfl,q1⟩
theorem Wk (ha:PE X a ta):PE X (.UnaryOp .Not a pos) (VN ta):=by
 intro pins s σ H Q I h
 refine UnaryOp_ (thn (ha pins s σ H _ I h) fun v s1 hq0=>?_)
 obtain⟨x,H1,I1,r1,q1⟩:=hq0
 obtain⟨c,rfl,q1⟩:=q1
 cases r1
 exact not_of (wpAny_truthy_bool ⟨.bl (!c),H1,I1,rfl,q1⟩)
end
def SqL (K:PySem.W.Frag) (H:Hp) (a:Addr) (xs:List V):Prop :=
 Rd H a (.lst xs) ∨
  ∃ (o:Obj) (its:Array Value) (n:Nat),K.lookup a=some o∧o.cls=.type "list" ∧ o.dict=none∧o.data=.seq its n∧its.size≤sizeLine∧Vals xs its.toList
def SqT (K:PySem.W.Frag) (H:Hp) (a:Addr) (xs:List V):Prop :=
 Rd H a (.tup xs) ∨
  ∃ (o:Obj) (its:Array Value) (n:Nat),K.lookup a=some o∧o.cls=.type "tuple" ∧ o.data=.seq its n∧its.size≤sizeLine∧Vals xs its.toList
def zbT:Value→Option V
 |.none=>some .non
 |.bool b=>some (.bl b)
 |.int i _=>some (.int i)
 |.str x _=>some (.str x)
 |.bytes b _=>some (.byt b)
 |.float b _=>some (.flt b)
 |.ref a=>some (.ref a)
 |.type n=>some (.ty n)
 |_=>none
theorem RelV.abs {x:V}{u:Value}(r:RelV x u):zbT u=some x:=by
 cases x with
 |non=>cases r;rfl
 |bl _=>cases r;rfl
 |int _=>obtain⟨t,rfl⟩:=r;rfl
 |str _=>obtain⟨t,rfl⟩:=r;rfl
 |byt _=>obtain⟨t,rfl⟩:=r;rfl
 |flt _=>obtain⟨t,rfl⟩:=r;rfl
 |ref _=>cases r;rfl
 |ty _=>cases r;rfl
theorem RelV.inj {x y:V}{u:Value}(r:RelV x u) (q:RelV y u):x=y:=Option.some.inj (r.abs.symm.trans q.abs)
theorem Vals.inj:∀ {xs ys:List V}{us:List Value},Vals xs us→Vals ys us→xs=ys
 |_,_,_,.nil,.nil=>rfl
 |_,_,_,.cons r t,.cons r' t'=>by rw[r.inj r',Vals.inj t t']
section
variable {X:Cx}{pins:List (Addr×Obj)}{σ:St}{H:Hp}{s:Shared}{a:Addr}{xs ys:List V}
theorem SqL.of {K:PySem.W.Frag}(h:H a=some (.lst xs)):SqL K H a xs:=.inl (.inl h)
theorem SqT.of {K:PySem.W.Frag}(h:H a=some (.tup xs)):SqT K H a xs:=.inl (.inl h)
theorem Inv.list (I:Inv X pins σ H s) (h:SqL X.K H a xs):∃ its:List Value,Vals xs its∧PlainL s.heap a its.toArray∧xs.length≤sizeLine:=by
 rcases h with h | ⟨o,its,n,hk,hc,hd,hs,hz,r⟩
 ·obtain⟨z,its,n,r,e⟩:=h.ok I.hok
  exact⟨its,r,⟨_,n,e,rfl,rfl,rfl⟩,z⟩
 ·refine⟨its.toList,r,⟨o,n,I.kIn a o hk,hc,hd,by simpa using hs⟩,?_⟩
  have e:=r.length
  simp only[Array.length_toList] at e
  omega
theorem Inv.tuple (I:Inv X pins σ H s) (h:SqT X.K H a xs):∃ its:List Value,Vals xs its∧IsTup s.heap a its.toArray∧xs.length≤sizeLine:=by
 rcases h with h | ⟨o,its,n,hk,hc,hs,hz,r⟩
 ·obtain⟨z,its,r,p⟩:=h.ok I.hok
  exact⟨its,r,p,z⟩
 ·refine⟨its.toList,r,⟨o,I.kIn a o hk,hc,n,by simpa using hs⟩,?_⟩
  have e:=r.length
  simp only[Array.length_toList] at e
  omega
theorem Inv.list_inj (I:Inv X pins σ H s) (h:SqL X.K H a xs) (h':SqL X.K H a ys):xs=ys:=by
 obtain⟨its,r,⟨o,n,e,_,_,d⟩,_⟩:=I.list h
 obtain⟨its',r',⟨o',n',e',_,_,d'⟩,_⟩:=I.list h'
 rw[e] at e';cases e'
 rw[d] at d'
 injection d' with d1 _
 have:its=its':=by simpa using congrArg Array.toList d1
 subst this
 exact r.inj r'
theorem Inv.tuple_inj (I:Inv X pins σ H s) (h:SqT X.K H a xs) (h':SqT X.K H a ys):xs=ys:=by
 obtain⟨its,r,⟨o,e,_,n,d⟩,_⟩:=I.tuple h
 obtain⟨its',r',⟨o',e',_,n',d'⟩,_⟩:=I.tuple h'
 rw[e] at e';cases e'
 rw[d] at d'
 injection d' with d1 _
 have:its=its':=by simpa using congrArg Array.toList d1
 subst this
 exact r.inj r'
end
abbrev Cx.wish (X:Cx) (E:Value→Shared→Prop):Cx:={ X with xe:=E }
abbrev Cx.nox (X:Cx):Cx:=X.wish fun _ _=>False
theorem Cx.Ok.wish {X:Cx}(ok:X.Ok) (E:Value→Shared→Prop):(X.wish E).Ok :=
 ⟨ok.mod,ok.kind,ok.glob,ok.blt,ok.above,ok.inj,ok.has,ok.cab,ok.hd,ok.frames,ok.stk,ok.exf,ok.bs,ok.bsz,ok.noex,ok.exfs,ok.funs,ok.frf⟩
theorem Cx.Ok.unwish {X:Cx}{E:Value→Shared→Prop}(ok:(X.wish E).Ok):X.Ok :=
 ⟨ok.mod,ok.kind,ok.glob,ok.blt,ok.above,ok.inj,ok.has,ok.cab,ok.hd,ok.frames,ok.stk,ok.exf,ok.bs,ok.bsz,ok.noex,ok.exfs,ok.funs,ok.frf⟩
section
variable {X:Cx}{pins:List (Addr×Obj)}{σ:St}{H:Hp}{s:Shared}{E:Value→Shared→Prop}
theorem Inv.wish (I:Inv X pins σ H s) (E:Value→Shared→Prop):Inv (X.wish E) pins σ H s:=⟨I.ok.wish E,I.os,I.bare,I.base,I.loc,I.cell,I.free,I.freeC,I.pin,I.hok,I.len⟩
theorem Inv.unwish (I:Inv (X.wish E) pins σ H s):Inv X pins σ H s:=⟨I.ok.unwish,I.os,I.bare,I.base,I.loc,I.cell,I.free,I.freeC,I.pin,I.hok,I.len⟩
theorem SP.unwish {D:Ends}{f:Flow}{s':Shared}(h:SP (X.wish E) pins D f s'):SP X pins D f s':=by
 cases f with
 |next=>obtain⟨σ',H',I,q⟩:=h;exact⟨σ',H',I.unwish,q⟩
 |brk=>obtain⟨σ',H',I,q⟩:=h;exact⟨σ',H',I.unwish,q⟩
 |cont=>obtain⟨σ',H',I,q⟩:=h;exact⟨σ',H',I.unwish,q⟩
 |ret u=>obtain⟨v,σ',H',I,r,q⟩:=h;exact⟨v,σ',H',I.unwish,r,q⟩
theorem PSs.nox {st:List Stmt}{t:TS}(h:PSs X.nox st t):PSs X st t:=fun pins s σ H D I hw =>
 wpAny_mono (h pins s σ H D (I.wish _) hw) (fun _ _ q=>q.unwish) fun _ _ z=>False.elim z
end
section
variable {X:Cx}{st:Stmt}{rest:List Stmt}{t u:TS}{e:Expr}{te:TE}{pos:Pos}
def WK:TS:=fun D σ H=>D.nx σ H
def VM (t u:TS):TS:=fun D σ H=>t { D with nx:=u D } σ H
theorem yX:PSs X [] WK:=fun _ _ σ H _ I h=>wpAny_execs_nil ⟨σ,H,I,h⟩
theorem zS (h1:PS X st t) (h2:PSs X rest u):PSs X (st::rest) (VM t u):=by
 intro pins s σ H D I h
 refine wpAny_execs_cons (thn (h1 pins s σ H { D with nx:=u D } I h) fun f s1 q=>?_)
 cases f with
 |next =>
  obtain⟨σ',H',I',q⟩:=q
  exact h2 pins s1 σ' H' D I' q
 |ret v=>exact q
 |brk=>exact q
 |cont=>exact q
theorem yi (h1:PS X st t):PSs X [st] t:=by
 intro pins s σ H D I h
 refine wpAny_execs_cons (thn (h1 pins s σ H D I h) fun f s1 q=>?_)
 cases f with
 |next=>exact wpAny_execs_nil q
 |ret v=>exact q
 |brk=>exact q
 |cont=>exact q
theorem Inv.quiet {pins:List (Addr×Obj)}{σ:St}{H:Hp}{s:Shared}(I:Inv X pins σ H s):interactive X.env=false:=by simp[interactive,I.ok.kind]
def ZC (te:TE):TS:=fun D σ H=>te σ H fun _ H1=>D.nx σ H1
theorem uo (he:PE X e te) (hs:swapsWith e none pos.line X.env=pure false:=by rfl):PS X (.Expr e pos) (ZC te):=by
 intro pins s σ H D I h
 exact wpAny_Expr_any (thn (he pins s σ H _ I h) fun v s1 ⟨x,H1,I1,r1,q1⟩=>⟨σ,H1,I1,q1⟩) I.quiet hs
def zaP (te:TE):TS:=fun D σ H=>te σ H D.rt
theorem xg (he:PE X e te):PS X (.Return (some e) pos) (zaP te):=by
 intro pins s σ H D I h
 exact wpAny_Return_some (thn (he pins s σ H _ I h) fun v s1 ⟨x,H1,I1,r1,q1⟩=>⟨x,σ,H1,I1,r1,q1⟩)
def UL (c:TT) (t u:TS):TS:=fun D σ H=>c σ H fun b H1=>if b=true then t D σ H1 else u D σ H1
theorem ve {c:Expr}{a b:List Stmt}{tc:TT}(hc:PT X c tc) (ha:PSs X a t) (hb:PSs X b u):PS X (.If c a b pos) (UL tc t u):=by
 intro pins s σ H D I h
 refine wpAny_If (thn (hc pins s σ H _ I h) fun d s1 hq0=>?_)
 obtain⟨H1,I1,q1⟩:=hq0
 cases d with
 |true=>exact ha pins s1 σ H1 D I1 q1
 |false=>exact hb pins s1 σ H1 D I1 q1
def VO:TS:=fun _ _ _=>False
theorem u7:PS X st VO:=fun _ _ _ _ _ _ h=>h.elim
end
abbrev TG:=V→St→Hp→(St→Hp→Prop)→Prop
abbrev TGs:=List V→St→Hp→(St→Hp→Prop)→Prop
def PG (X:Cx) (target:Expr) (t:TG):Prop :=
 ∀ (pins:List (Addr×Obj)) (s:Shared) (σ:St) (H:Hp) (v:V) (u:Value) (Q:St→Hp→Prop),Inv X pins σ H s→RelV v u→t v σ H Q →
  wpAny (model X.prog X.w) X.A (assign target X.env u) (fun _ s'=>∃ σ' H',Inv X pins σ' H' s'∧Q σ' H') X.xe s
def PGs (X:Cx) (ts:List Expr) (t:TGs):Prop :=
 ∀ (pins:List (Addr×Obj)) (s:Shared) (σ:St) (H:Hp) (vs:List V) (us:List Value) (Q:St→Hp→Prop),Inv X pins σ H s→Vals vs us→t vs σ H Q →
  wpAny (model X.prog X.w) X.A (assignInOrder ((assignEach ts X.env).map (·.2)) us) (fun _ s'=>∃ σ' H',Inv X pins σ' H' s'∧Q σ' H') X.xe s
abbrev US:=V→V→V→Hp→(Hp→Prop)→Prop
def zaI (X:Cx) (t:US):Prop :=
 ∀ (pins:List (Addr×Obj)) (s:Shared) (σ:St) (H:Hp) (o i v:V) (ov iv u:Value) (Q:Hp→Prop),Inv X pins σ H s→RelV o ov→RelV i iv→RelV v u→t o i v H Q →
  wpAny (model X.prog X.w) X.A (setItem ov iv u) (fun _ s'=>∃ H',Inv X pins σ H' s'∧Q H') X.xe s
section
variable {X:Cx}{pos:Pos}
def xQ (i:Nat):TG:=fun v σ H Q=>Q (σ.set i (some v)) H
theorem xO {i:Nat}{x:Str}(hN:X.N.Nodup) (hi:X.N[i]?=some x) (hx:Loc X.env.scope x) (hf:X.fn x=true∨X.env.scope.names.lookup x=some .local:=by first | exact .inl rfl | exact .inr rfl | assumption):PG X (.Name x pos) (xQ i):=by
 intro pins s σ H v u Q I r h
 exact wpAny_assign_Name (store_ok I hN hi hx r (fun s' I'=>⟨_,H,I',h⟩) hf)
def gNil:TGs:=fun vs σ H Q=>vs=[]∧Q σ H
def UB (t:TG) (u:TGs):TGs:=fun vs σ H Q=>∃ v r,vs=v::r∧t v σ H fun σ' H'=>u r σ' H' Q
theorem Yh:PGs X [] gNil:=by
 intro pins s σ H vs us Q I r h
 obtain⟨e,h⟩:=h
 subst e
 cases r
 exact assignInOrder_nil ⟨σ,H,I,h⟩
theorem vf {e:Expr}{es:List Expr}{t:TG}{u:TGs}(h1:PG X e t) (h2:PGs X es u)
  (hs:(assignEach (e::es) X.env).map (·.2)=assign e X.env::(assignEach es X.env).map (·.2):=by rfl):PGs X (e::es) (UB t u):=by
 intro pins s σ H vs us Q I r h
 obtain⟨v,vr,e1,h⟩:=h
 subst e1
 cases r with
 |cons r rr =>
  rw[hs]
  refine assignInOrder_cons (thn (h1 pins s σ H _ _ _ I r h) fun _ s1 hq0=>?_)
  obtain⟨σ1,H1,I1,q1⟩:=hq0
  exact h2 pins s1 σ1 H1 _ _ Q I1 rr q1
def zbr (K:PySem.W.Frag) (n:Nat) (t:TGs):TG:=fun v σ H Q=>∃ a xs,v=.ref a∧SqT K H a xs∧xs.length=n∧t xs σ H Q
theorem Wj {es:List Expr}{k:Nat}{t:TGs}{n:Nat}(hc:X.calm=true) (h:PGs X es t)
  (hn:(assignEach es X.env).length=n:=by rfl) (hst:(assignEach es X.env).findIdx? (·.1)=none:=by rfl):PG X (.Tuple es k pos) (zbr X.K n t):=by
 intro pins s σ H v u Q I r hw
 obtain⟨a,xs,e1,hq,hl,hw⟩:=hw
 subst e1
 cases r
 obtain⟨its,rv,ht,hz⟩:=I.tuple hq
 refine assign_Tuple_tuple (I.ok.hd hc) ht (by simp[hn,← hl,rv.length]) hst fun h' hx=>?_
 have I1:Inv X pins σ H { s with heap:=h' }:=I.kept (t':=s.toks) fun b o e=>hx b o (Nat.ne_of_lt (Heap.lt_size e)) e
 exact h pins _ σ H xs _ Q I1 (by simpa using rv) hw
def UO (to ti:TE) (t:US):TG:=fun v σ H Q=>to σ H fun o H1=>ti σ H1 fun i H2=>t o i v H2 fun H3=>Q σ H3
theorem Ua {o i:Expr}{to ti:TE}{t:US}(ho:PE X o to) (hi:PE X i ti) (hs:zaI X t)
  (ha:∀ v,assign (.Subscript o i pos) X.env v=(do
   let ov ← holding [v] (eval o X.env)
   let iv ← holding [v,ov] (eval i X.env)
   standAt pos
   holding [v,ov,iv] (setItem ov iv v)
   release [v,ov,iv] []):=by intro _;rfl):PG X (.Subscript o i pos) (UO to ti t):=by
 intro pins s σ H v u Q I r h
 rw[ha]
 refine wpAny_bind (wpAny_holding (thn (ho pins s σ H _ I h) fun ov s1 hq0=>?_))
 obtain⟨x,H1,I1,r1,q1⟩:=hq0
 refine wpAny_bind (wpAny_holding (thn (hi pins s1 σ H1 _ I1 q1) fun iv s2 hq0=>?_))
 obtain⟨y,H2,I2,r2,q2⟩:=hq0
 refine wpAny_bind (wpAny_standAt (wpAny_bind (wpAny_holding (thn (hs pins s2 σ H2 x y v ov iv u _ I2 r1 r2 r q2) fun _ s3 hq0=>?_))))
 obtain⟨H3,I3,q3⟩:=hq0
 exact wpAny_release ⟨σ,H3,I3,q3⟩
def WN (te:TE) (g:TG):TS:=fun D σ H=>te σ H fun x H1=>g x σ H1 D.nx
theorem xZ {tg e:Expr}{te:TE}{g:TG}(he:Bx (PE X e te)) (hg:Bx (PG X tg g)) (hs:swapsWithSole [tg] e pos.line X.env=pure false:=by rfl) (hw:swappedStores [tg] e X.env=pure none:=by rfl) (h1:(assignEach [tg] X.env).map (·.2)=[assign tg X.env]:=by rfl):Bx (PS X (.Assign [tg] e pos) (WN te g)):=by
 have he:=he.of
 have hg:=hg.of
 refine⟨?_⟩
 intro pins s σ H D I h
 refine wpAny_Assign_stores (thn (he pins s σ H _ I h) fun v s1 hq0=>?_) hs hw
 obtain⟨x,H1,I1,r1,q1⟩:=hq0
 rw[h1]
 exact thn (hg pins s1 σ H1 x v _ I1 r1 q1) fun _ s2 q=>q
theorem vK {i:Nat}{x:Str}{e:Expr}{te:TE}{pos':Pos}(hN:X.N.Nodup) (hi:X.N[i]?=some x) (hx:Loc X.env.scope x) (he:PE X e te) (hs:swapsWith e (some (.Name x pos')) pos.line X.env=pure false:=by rfl) (hf:X.fn x=true∨X.env.scope.names.lookup x=some .local:=by first | exact .inl rfl | exact .inr rfl | assumption) :
  PS X (.Assign [.Name x pos'] e pos) (WN te (xQ i)):=by
 intro pins s σ H D I h
 refine wpAny_Assign_Name (thn (he pins s σ H _ I h) fun v s1 hq0=>?_) hs
 obtain⟨y,H1,I1,r1,q1⟩:=hq0
 exact store_ok I1 hN hi hx r1 (fun s2 I2=>⟨_,H1,I2,q1⟩) hf
def zaQ (i j:Nat) (ta:TA):TS:=fun D σ H=>ta σ H fun vs H1=>∃ v w,vs=[v,w]∧D.nx ((σ.set i (some v)).set j (some w)) H1
theorem Xc {i j:Nat}{x y:Str}{a b:Expr}{ta:TA}{px py pt:Pos} {kt k2 pt2}(hc:X.calm=true) (hN:X.N.Nodup) (hi:X.N[i]?=some x) (hj:X.N[j]?=some y) (hij:i≠j) (hx:X.env.scope.names.lookup x=some .local) (hy:X.env.scope.names.lookup y=some .local) (ha:Bx (PA X [a,b] ta)) (hw:swappedStores [.Tuple [.Name x px,.Name y py] kt pt] (.Tuple [a,b] k2 pt2) X.env=pure (some [x,y])) (hs:swapsWithSole [.Tuple [.Name x px,.Name y py] kt pt] (.Tuple [a,b] k2 pt2) pos.line X.env=pure false:=by rfl):Bx (PS X (.Assign [.Tuple [.Name x px,.Name y py] kt pt] (.Tuple [a,b] k2 pt2) pos) (zaQ i j ta)):=by
 have ha:=ha.of
 refine⟨?_⟩
 intro pins s σ H D I h
 rw[exec_Assign_arm]
 refine wpAny_bind (wpAny_standAt ?_)
 rw[hs]
 refine wpAny_bind (wpAny_pure ?_)
 rw[if_neg (by decide)]
 refine wpAny_bind (Tuple_ (thn (ha _ pins s σ H _ I h) fun us s1 hq0=>?_))
 obtain⟨vs,H1,I1,r1,q1⟩:=hq0
 obtain⟨v,w,e1,q1⟩:=q1
 subst e1
 obtain⟨u1,u2,rfl,rv,rw'⟩:∃ u1 u2,us=[u1,u2]∧RelV v u1∧RelV w u2:=by
  cases r1 with
  |cons p q =>
   cases q with
   |cons p' q' =>
    cases q'
    exact⟨_,_,rfl,p,p'⟩
 refine wpAny_newObj_type ?_ (by show 2≤sizeLine;decide)
 have I2:Inv X pins σ H1 { s1 with heap:=s1.heap.push { cls:=.type "tuple",data:=.seq [u1,u2].toArray } }:=I1.kept (t':=s1.toks) fun b o e=>Heap.get?_push_of_some _ e
 rw[hw]
 refine wpAny_bind (wpAny_pure ?_)
 show wpAny (model X.prog X.w) X.A (do rule "assign.swapped-stores";let items ← unpackItems (.ref s1.heap.objs.size) 2 none;assignInOrder [fun v=>bindName X.env y v,fun v=>bindName X.env x v] items.reverse;pure Flow.next) _ _ _
 refine wpAny_bind (wpAny_rule (wpAny_bind (unpackItems_tuple (items:=#[u1,u2]) (I.ok.hd hc) (IsTup.new s1.heap _) fun h' hx'=>?_)))
 have I3:=I2.kept (h':=h') (t':=s1.toks) fun b o e=>hx' b o (Nat.ne_of_lt (Heap.lt_size e)) e
 show wpAny _ _ (assignInOrder [fun v=>bindName X.env y v,fun v=>bindName X.env x v] [u2,u1] >>= fun _=>pure Flow.next) _ _ _
 refine wpAny_bind (assignInOrder_cons (wpAny_bindName (store_ok I3 hN hj (.inl hy) rw' (fun s2 I4=>?_) (.inr hy))))
 refine assignInOrder_cons (wpAny_bindName (store_ok I4 hN hi (.inl hx) rv (fun s3 I5=>assignInOrder_nil (wpAny_pure ?_)) (.inr hx)))
 rw[List.set_comm _ _ (Ne.symm hij)] at I5
 exact⟨_,H1,I5,q1⟩
def VJ (c:TT) (tb:TS):TS:=fun D σ H=>∃ W:Nat→St→Hp→Prop,(∃ m,W m σ H)∧∀ m σ H,W m σ H →
 c σ H fun b H1=>if b=true then ∃ N:St→Hp→Prop,(∀ σ' H',N σ' H'→∃ m',m'<m∧W m' σ' H')∧tb { D with nx:=N,ct:=N,bk:=D.nx } σ H1 else D.nx σ H1
theorem xt {c:Expr}{body:List Stmt}{tc:TT}{tb:TS}(hp:PassesOwn (model X.prog X.w) X.A X.env X.xe) (hc:Bx (PT X c tc)) (hb:Bx (PSs X body tb)):Bx (PS X (.While c body [] pos) (VJ tc tb)):=by
 have hc:=hc.of
 have hb:=hb.of
 refine⟨?_⟩
 intro pins s σ H D I h
 obtain⟨W,⟨m0,w0⟩,turn⟩:=h
 refine wpAny_While (codeAny_whileLoop (fun n s'=>∃ σ' H',Inv X pins σ' H' s'∧W n σ' H') ?_ m0 ⟨σ,H,I,w0⟩)
 rintro n s1 ⟨σ1,H1,I1,w1⟩
 refine wpAny_passesOwn hp (thn (hc pins s1 σ1 H1 _ I1 (turn n σ1 H1 w1)) fun b s2 hq0=>?_)
 obtain⟨H2,I2,q2⟩:=hq0
 cases b with
 |true =>
  obtain⟨N,hN,q2⟩:=q2
  rw[if_pos rfl]
  refine wpAny_passesOwn hp (thn (hb pins s2 σ1 H2 _ I2 q2) fun f s3 q3=>?_)
  cases f with
  |next =>
   obtain⟨σ3,H3,I3,n3⟩:=q3
   obtain⟨m',hm,w3⟩:=hN σ3 H3 n3
   exact⟨m',hm,σ3,H3,I3,w3⟩
  |cont =>
   obtain⟨σ3,H3,I3,n3⟩:=q3
   obtain⟨m',hm,w3⟩:=hN σ3 H3 n3
   exact⟨m',hm,σ3,H3,I3,w3⟩
  |brk=>exact q3
  |ret v=>exact q3
 |false =>
  rw[if_neg Bool.false_ne_true]
  exact wpAny_execs_nil ⟨σ1,H2,I2,q2⟩
end
structure It where
 go:Nat→Hp→Prop
 yld:Nat→Hp→V→Hp→Prop
 stop:Nat→Hp→Prop
def FpOk (X:Cx) (pins:List (Addr×Obj)) (H:Hp) (b:Addr):Prop :=
 H b=none∧b≠X.env.locals∧b∉X.fs∧(b∈X.ex∨X.s₀.heap.objs.size≤b)∧(∀ x c,X.env.cells.lookup x=some c→c≠b)∧∀ p∈X.pn++pins,p.1≠b
theorem Inv.fpOk {X:Cx}{pins:List (Addr×Obj)}{σ:St}{H H':Hp}{s:Shared}{b:Addr}(I:Inv X pins σ H s) (hb:s.heap.objs.size≤b) (hn:H' b=none):FpOk X pins H' b:=by
 refine⟨hn,Nat.ne_of_gt (Nat.lt_of_lt_of_le I.lt hb),I.nofs hb,.inr (Nat.le_trans I.sz hb),fun x c e z=>?_,fun p hp z=>?_⟩
 ·obtain⟨v,q⟩:=I.cell x c e
  exact absurd (Nat.lt_of_lt_of_le q.lt (by rw[z];exact hb)) (Nat.lt_irrefl _)
 ·exact absurd (Nat.lt_of_lt_of_le (Heap.lt_size (I.pin p hp).1) (by rw[z];exact hb)) (Nat.lt_irrefl _)
structure Turn (P:Program) (w:World) (K:PySem.W.Frag) (tg:Expr) (J:It) (fp:List Addr) (it:Addr) (tn:Nat→Heap→Prop):Prop where
 mem:it∈fp
 obj:∀ i h,tn i h→∀ b∈fp,∃ o,h.get? b=some o∧∀ v,o.data≠.cell v
 keep:∀ i h h',tn i h→(∀ b∈fp,∀ o,h.get? b=some o→h'.get? b=some o)→tn i h'
 item:∀ (X:Cx),X.prog=P→X.w=w→X.K=K→X.calm=true→∀ (i:Nat) (pins:List (Addr×Obj)) (s:Shared) (σ:St) (H:Hp) (E:Value→Shared→Prop),Inv X pins σ H s→(∀ b∈fp,FpOk X pins H b)→tn i s.heap→J.go i H →
  wpAny (model P w) X.A (pyNext (.ref it)) (fun r s1=>∃ u,r=some u ∧
   wpAny (model P w) X.A (letOwnedTupleGo tg (.ref it) u) (fun _ s2=>∃ x H',Inv X pins σ H' s2∧RelV x u∧J.yld i H x H'∧tn (i+1) s2.heap∧∀ b∈fp,H' b=none) E s1) E s
 done:∀ (X:Cx),X.prog=P→X.w=w→X.K=K→X.calm=true→∀ (i:Nat) (pins:List (Addr×Obj)) (s:Shared) (σ:St) (H:Hp) (E:Value→Shared→Prop),Inv X pins σ H s→(∀ b∈fp,FpOk X pins H b)→tn i s.heap→J.stop i H →
  wpAny (model P w) X.A (pyNext (.ref it)) (fun r s1=>r=none∧Inv X pins σ H s1) E s
 self:∀ (A:Around) (i:Nat) (s:Shared) (Q:Value→Shared→Prop) (E:Value→Shared→Prop),tn i s.heap→Q (.ref it) s→wpAny (model P w) A (pyIter (.ref it)) Q E s
abbrev TI:=St→Hp→(It→Hp→Prop)→Prop
def PIE (X:Cx) (pins:List (Addr×Obj)) (σ:St) (tg:Expr) (R:It→Hp→Prop) (itv:Value) (s2:Shared):Prop :=
 ∃ (it:Addr) (fp:List Addr) (tn:Nat→Heap→Prop) (J:It) (H':Hp),itv=.ref it∧Inv X pins σ H' s2∧Turn X.prog X.w X.K tg J fp it tn∧tn 0 s2.heap∧(∀ b∈fp,FpOk X pins H' b)∧R J H'
def PI (X:Cx) (tg iter:Expr) (wi:TI):Prop :=
 ∀ (pins:List (Addr×Obj)) (s:Shared) (σ:St) (H:Hp) (R:It→Hp→Prop),Inv X pins σ H s→wi σ H R →
  wpAny (model X.prog X.w) X.A (eval iter X.env) (fun v s1=>wpAny (model X.prog X.w) X.A (pyIter v) (PIE X pins σ tg R) X.xe s1) X.xe s
theorem YU {M:Model}{A:Around}{E:Value→Shared→Prop}{s:Shared}{tg:Expr}{it:Addr}{u:Value}{o:Obj}{n:String}{vs:Array Value}{Q:Unit→Shared→Prop}(ho:s.heap.get? it=some o) (hc:o.cls=.type n) (hd:o.data=.fields vs)
  (hn:["enumerate", "zip", "dict_itemiterator", "dict_reverseitemiterator", "odict_iterator", "itertools.zip_longest", "itertools.pairwise"].contains n=false) (hQ:Q () s):wpAny M A (letOwnedTupleGo tg (.ref it) u) Q E s:=by
 unfold letOwnedTupleGo
 cases tg<;>first
  |exact wpAny_pure hQ
  |(cases u<;>first
    |exact wpAny_pure hQ
    |(refine wpAny_bind (wpAny_load ho ?_)
      rw[hc,hd]
      show wpAny M A (if (["enumerate", "zip", "dict_itemiterator", "dict_reverseitemiterator", "odict_iterator", "itertools.zip_longest", "itertools.pairwise"].contains n&&vs[0]? == some (rawInt _))=true then _ else _) Q E s
      rw[if_neg (by intro h;rw[hn,Bool.false_and] at h;cases h)]
      exact wpAny_pure hQ))
def Itl (K:PySem.W.Frag) (a:Addr):It :=
 ⟨fun i H=>∃ xs x,SqL K H a xs∧xs[i]?=some x,fun i H x H'=>H'=H∧∀ xs,SqL K H a xs→xs[i]?=some x,fun i H=>∃ xs,SqL K H a xs∧xs.length≤i⟩
def Itt (K:PySem.W.Frag) (a:Addr):It :=
 ⟨fun i H=>∃ xs x,SqT K H a xs∧xs[i]?=some x,fun i H x H'=>H'=H∧∀ xs,SqT K H a xs→xs[i]?=some x,fun i H=>∃ xs,SqT K H a xs∧xs.length≤i⟩
def Itr (lo:Int) (n:Nat):It:=⟨fun i _=>i<n,fun i H x H'=>H'=H∧x=.int (lo+i),fun i _=>n≤i⟩
theorem ZZ {P:Program}{w:World}{K:PySem.W.Frag}{tg:Expr} (a it:Addr):Turn P w K tg (Itl K a) [it] it (fun i h=>h.IsListIter it a i) where
 mem:=by simp
 obj:=fun i h st b hb=>by
  have e:b=it:=by simpa using hb
  subst e
  obtain⟨o,e,c,d⟩:=st
  exact⟨o,e,fun v z=>by rw[d] at z;cases z⟩
 keep:=fun i h h' st k=>st.at fun o e=>k it (by simp) o e
 item:=by
  intro X hP hw hK hc i pins s σ H E I hf st hg
  subst hP hw hK
  obtain⟨xs,x,hq,hx⟩:=hg
  obtain⟨its,rv,p,hz⟩:=I.list hq
  obtain⟨u,hu,ru⟩:=rv.get hx
  obtain⟨f0,f1,f2,f3,f4,f5⟩:=hf it (by simp)
  refine wpAny_pyNext_list_item st p.isList (x:=u) (by simpa using hu) fun h' st' sb=>?_
  have I1:Inv X pins σ H { s with heap:=h' }:=I.turned (t':=s.toks) (fun b o hb e=>(sb.2 b hb).trans e) f0 f1 f3 f4 f5
  obtain⟨o,e,c,d⟩:=id st'
  exact⟨u,rfl,YU (s:={ s with heap:=h' }) e c d (by decide) ⟨x,H,I1,ru,⟨rfl,fun ys hy=>by rw[I.list_inj hy hq];exact hx⟩,st',fun b hb=>(hf b hb).1⟩⟩
 done:=by
  intro X hP hw hK hc i pins s σ H E I hf st hg
  subst hP hw hK
  obtain⟨xs,hq,hx⟩:=hg
  obtain⟨its,rv,p,hz⟩:=I.list hq
  obtain⟨f0,f1,f2,f3,f4,f5⟩:=hf it (by simp)
  have hl:=rv.length
  exact wpAny_pyNext_list_end (I.ok.hd hc) st p.isList (by simp;omega) fun h' eb=>⟨rfl,I.turned (t':=s.toks) (fun b o hb e=>eb b o hb e) f0 f1 f3 f4 f5⟩
 self:=fun _ _ _ _ _ st h=>wpAny_pyIter_listiter st h
theorem Zz {P:Program}{w:World}{K:PySem.W.Frag}{tg:Expr} (a it:Addr):Turn P w K tg (Itt K a) [it] it (fun i h=>h.IsTupleIter it a i) where
 mem:=by simp
 obj:=fun i h st b hb=>by
  have e:b=it:=by simpa using hb
  subst e
  obtain⟨o,e,c,d⟩:=st
  exact⟨o,e,fun v z=>by rw[d] at z;cases z⟩
 keep:=fun i h h' st k=>st.at fun o e=>k it (by simp) o e
 item:=by
  intro X hP hw hK hc i pins s σ H E I hf st hg
  subst hP hw hK
  obtain⟨xs,x,hq,hx⟩:=hg
  obtain⟨its,rv,p,hz⟩:=I.tuple hq
  obtain⟨u,hu,ru⟩:=rv.get hx
  obtain⟨f0,f1,f2,f3,f4,f5⟩:=hf it (by simp)
  refine wpAny_pyNext_tuple_item st (show s.heap.IsTuple a its.toArray from p) (x:=u) (by simpa using hu) fun h' st' sb=>?_
  have I1:Inv X pins σ H { s with heap:=h' }:=I.turned (t':=s.toks) (fun b o hb e=>(sb.2 b hb).trans e) f0 f1 f3 f4 f5
  obtain⟨o,e,c,d⟩:=id st'
  exact⟨u,rfl,YU (s:={ s with heap:=h' }) e c d (by decide) ⟨x,H,I1,ru,⟨rfl,fun ys hy=>by rw[I.tuple_inj hy hq];exact hx⟩,st',fun b hb=>(hf b hb).1⟩⟩
 done:=by
  intro X hP hw hK hc i pins s σ H E I hf st hg
  subst hP hw hK
  obtain⟨xs,hq,hx⟩:=hg
  obtain⟨its,rv,p,hz⟩:=I.tuple hq
  obtain⟨f0,f1,f2,f3,f4,f5⟩:=hf it (by simp)
  have hl:=rv.length
  exact wpAny_pyNext_tuple_end (I.ok.hd hc) st (show s.heap.IsTuple a its.toArray from p) (by simp;omega) fun h' eb=>⟨rfl,I.turned (t':=s.toks) (fun b o hb e=>eb b o hb e) f0 f1 f3 f4 f5⟩
 self:=fun _ _ _ _ _ st h=>wpAny_pyIter_tupleiter st h
theorem ZA {P:Program}{w:World}{K:PySem.W.Frag}{tg:Expr}(it:Addr) (lo:Int) (n:Nat):Turn P w K tg (Itr lo n) [it] it (fun i h=>IsRangeIter h it (lo+(i:Nat)*1) ((n:Int)-(i:Nat)) 1) where
 mem:=by simp
 obj:=fun i h st b hb=>by
  have e:b=it:=by simpa using hb
  subst e
  exact⟨_,st,fun v z=>by
   have z':Data.fields _=Data.cell v:=z
   cases z'⟩
 keep:=fun i h h' st k=>k it (by simp) _ st
 item:=by
  intro X hP hw hK hc i pins s σ H E I hf st hg
  subst hP hw hK
  obtain⟨f0,f1,f2,f3,f4,f5⟩:=hf it (by simp)
  have W:=Walks.range (prog:=X.prog) (w:=X.w) (I.ok.hd hc) it lo 1 n
  refine W.item i s _ _ hg st fun v h' tk hv st' kk=>?_
  obtain⟨t,rfl⟩:=hv
  have I1:Inv X pins σ H { s with heap:=h',toks:=tk }:=I.turned (fun b o hb e=>kk b o (by simpa using hb) e) f0 f1 f3 f4 f5
  refine⟨_,rfl,YU (s:={ s with heap:=h',toks:=tk }) (n := "range_iterator") st' rfl rfl (by decide) ⟨.int (lo+i),H,I1,⟨t,?_⟩,⟨rfl,rfl⟩,st',fun b hb=>(hf b hb).1⟩⟩
  rw[Int.mul_one]
 done:=by
  intro X hP hw hK hc i pins s σ H E I hf st hg
  subst hP hw hK
  obtain⟨f0,f1,f2,f3,f4,f5⟩:=hf it (by simp)
  exact wpAny_pyNext_range_end (I.ok.hd hc) st (by have:n≤i:=hg;omega) fun h' eb=>⟨rfl,I.turned (t':=s.toks) (fun b o hb e=>eb b o hb e) f0 f1 f3 f4 f5⟩
 self:=fun _ _ _ _ _ st h=>wpAny_pyIter_rangeiter st h
section
variable {X:Cx}{tg:Expr}
def Vp (K:PySem.W.Frag) (tl:TE):TI:=fun σ H R=>tl σ H fun x H1=>∃ a,x=.ref a∧(∃ xs,SqL K H1 a xs)∧R (Itl K a) H1
def zbL (K:PySem.W.Frag) (tl:TE):TI:=fun σ H R=>tl σ H fun x H1=>∃ a,x=.ref a∧(∃ xs,SqT K H1 a xs)∧R (Itt K a) H1
theorem wn {l:Expr}{tl:TE}(hl:PE X l tl):PI X tg l (Vp X.K tl):=by
 intro pins s σ H R I h
 refine thn (hl pins s σ H _ I h) fun v s1 hq0=>?_
 obtain⟨x,H1,I1,r1,q1⟩:=hq0
 obtain⟨a,e,⟨xs,hq⟩,q⟩:=q1
 subst e
 cases r1
 obtain⟨its,rv,p,hz⟩:=I1.list hq
 refine wpAny_pyIter_list p.isList ?_
 refine⟨s1.heap.objs.size,[s1.heap.objs.size],_,_,H1,rfl,I1.kept (t':=s1.toks) fun b o e=>Heap.get?_push_of_some _ e,ZZ a _,⟨_,Heap.get?_push_size _ rfl,rfl,rfl⟩,fun b hb=>?_,q⟩
 have e:b=s1.heap.objs.size:=by simpa using hb
 subst e
 exact I1.fpOk (Nat.le_refl _) (I1.hok.fresh (Nat.le_refl _))
theorem uM {l:Expr}{tl:TE}(hl:Bx (PE X l tl)):Bx (PI X tg l (zbL X.K tl)):=by
 have hl:=hl.of
 refine⟨?_⟩
 intro pins s σ H R I h
 refine thn (hl pins s σ H _ I h) fun v s1 hq0=>?_
 obtain⟨x,H1,I1,r1,q1⟩:=hq0
 obtain⟨a,e,⟨xs,hq⟩,q⟩:=q1
 subst e
 cases r1
 obtain⟨its,rv,p,hz⟩:=I1.tuple hq
 refine wpAny_pyIter_tuple (show s1.heap.IsTuple a its.toArray from p) ?_
 refine⟨s1.heap.objs.size,[s1.heap.objs.size],_,_,H1,rfl,I1.kept (t':=s1.toks) fun b o e=>Heap.get?_push_of_some _ e,Zz a _,⟨_,Heap.get?_push_size _ rfl,rfl,rfl⟩,fun b hb=>?_,q⟩
 have e:b=s1.heap.objs.size:=by simpa using hb
 subst e
 exact I1.fpOk (Nat.le_refl _) (I1.hok.fresh (Nat.le_refl _))
theorem Xq {pins:List (Addr×Obj)}{σ:St}{H:Hp}{s:Shared}{R:It→Hp→Prop}{E:Value→Shared→Prop}{lo hi:Int}{t u v:Tok}{tk:Nat}(I:Inv X pins σ H s) (h1 : -(2 ^ 62)≤lo) (h2:lo<2 ^ 62) (h3 : -(2 ^ 62)≤hi) (h4:hi<2 ^ 62)
  (q:R (Itr lo (hi-lo).toNat) H):wpAny (model X.prog X.w) X.A (pyIter (.ref s.heap.objs.size)) (PIE X pins σ tg R) E { s with heap:=s.heap.push { cls:=.type "range",data:=.fields #[.int lo t,.int hi u,.int 1 v] },toks:=tk }:=by
 refine wpAny_pyIter_range (IsRange.new ..) (small_one h1 h2 h3 h4) ?_
 have I1:Inv X pins σ H { s with heap:=s.heap.push { cls:=.type "range",data:=.fields #[.int lo t,.int hi u,.int 1 v] },toks:=tk }:=I.kept fun b o e=>Heap.get?_push_of_some _ e
 refine⟨(s.heap.push { cls:=.type "range",data:=.fields #[.int lo t,.int hi u,.int 1 v] }).objs.size,[(s.heap.push { cls:=.type "range",data:=.fields #[.int lo t,.int hi u,.int 1 v] }).objs.size],_,_,H,rfl,
  I1.kept (t':=tk) fun b o e=>Heap.get?_push_of_some _ e,ZA _ lo (hi-lo).toNat,?_,fun b hb=>?_,q⟩
 ·have e1:lo+((0:Nat):Int)*1=lo:=by simp
  have e2:(((hi-lo).toNat:Nat):Int)-((0:Nat):Int)=Builtin.Range.rangeSize lo hi 1:=by rw[rangeSize_one];split<;>omega
  show IsRangeIter _ _ (lo+((0:Nat):Int)*1) ((((hi-lo).toNat:Nat):Int)-((0:Nat):Int)) 1
  rw[e1,e2]
  exact Heap.get?_push_size _ rfl
 ·have e:b=(s.heap.push { cls:=.type "range",data:=.fields #[.int lo t,.int hi u,.int 1 v] }).objs.size:=by simpa using hb
  subst e
  exact I1.fpOk (Nat.le_refl _) (I1.hok.fresh (Nat.le_refl _))
def zaB (ta:TA):TI:=fun σ H R=>ta σ H fun vs H1=>∃ j:Int,vs=[.int j]∧-(2 ^ 62)≤j∧j<2 ^ 62∧R (Itr 0 j.toNat) H1
theorem yV {a:Expr}{ta:TA}{p pos:Pos}(hg:Gl X "range") (hm:X.mg "range" = none) (ha:Bx (PA X [a] ta)) (hs:starEach [a] X.env=[(false,eval a X.env)]:=by rfl):Bx (PI X tg (.Call (.Name "range" p) [a] [] pos) (zaB ta)):=by
 have ha:=ha.of
 refine⟨?_⟩
 intro pins s σ H R I h
 refine Call_ (ld_blt I hg hm boot_range (PyProof.Rows.callWith_type1 (thn (ha pos pins s σ H _ I h) fun us s1 hq0=>?_) hs rfl))
 obtain⟨vs,H1,I1,r1,q1⟩:=hq0
 obtain⟨j,e,q1,q2,q⟩:=q1
 subst e
 cases r1 with
 |cons r rr =>
  cases rr
  obtain⟨t,rfl⟩:=r
  exact call_range_1 (Xq I1 (by omega) (by omega) q1 q2 (by simpa using q))
def zaS (wi:TI) (g:TG) (tb:TS):TS:=fun D σ H=>wi σ H fun J H1=>∃ W:Nat→Nat→St→Hp→Prop,(∃ m,W 0 m σ H1)∧∀ i m σ H,W i m σ H →
 (J.stop i H∧D.nx σ H)∨(J.go i H∧∃ N:St→Hp→Prop,(∀ σ' H',N σ' H'→∃ m',m'<m∧W (i+1) m' σ' H')∧∀ x H',J.yld i H x H'→g x σ H' fun σ2 H2=>tb { D with nx:=N,ct:=N,bk:=D.nx } σ2 H2)
def vM (fp:List Addr) (h:Heap):List (Addr×Obj):=fp.filterMap fun b=>(h.get? b).map fun o=>(b,o)
theorem xv {fp:List Addr}{h:Heap}{b:Addr}{o:Obj}(hb:b∈fp) (e:h.get? b=some o):(b,o)∈vM fp h:=List.mem_filterMap.mpr ⟨b,hb,by rw[e];rfl⟩
theorem Yx {fp:List Addr}{h:Heap}{p:Addr×Obj}(hp:p∈vM fp h):p.1∈fp∧h.get? p.1=some p.2:=by
 obtain⟨b,hb,e⟩:=List.mem_filterMap.mp hp
 cases q:h.get? b with
 |none=>rw[q] at e;cases e
 |some o =>
  rw[q] at e
  have e':(b,o)=p:=Option.some.inj e
  subst e'
  exact⟨hb,q⟩
theorem Inv.pinned {pins:List (Addr×Obj)}{σ:St}{H:Hp}{s:Shared}{fp:List Addr}(I:Inv X pins σ H s) (hf:∀ b∈fp,FpOk X pins H b) (ho:∀ b∈fp,∃ o,s.heap.get? b=some o∧∀ v,o.data≠.cell v):Inv X (pins++vM fp s.heap) σ H s :=
 I.pins_of fun p hp=>(List.mem_append.mp hp).elim (fun z=>I.pin p (List.mem_append_right _ z)) fun z=>by
  obtain⟨hb,e⟩:=Yx z
  obtain⟨f0,f1,f2,_⟩:=hf p.1 hb
  obtain⟨o,e',d⟩:=ho p.1 hb
  rw[e] at e';cases e'
  exact⟨e,f0,f1,f2,d⟩
theorem Inv.unpinned {pins pl:List (Addr×Obj)}{σ:St}{H:Hp}{s:Shared}(I:Inv X (pins++pl) σ H s):Inv X pins σ H s:=I.pins_of fun p hp=>I.pin p (List.mem_append_right _ (List.mem_append_left _ hp))
theorem vL {iter:Expr}{body:List Stmt}{wi:TI}{g:TG}{tb:TS}{pos:Pos}(hp:PassesOwn (model X.prog X.w) X.A X.env X.xe) (hc:X.calm=true) (hi:PI X tg iter wi) (hg:PG X tg g) (hb:PSs X body tb)
  (hs:∀ x,foldedSetIterable iter X.env x=pure x:=by intro _;rfl):PS X (.For tg iter body [] pos) (zaS wi g tb):=by
 intro pins s σ H D I h
 refine wpAny_For (thn (hi pins s σ H _ I h) fun v s1 h1=>thn h1 fun itv s2 h2=>?_) hs
 obtain⟨it,fp,tn,J,H2,e,I2,T,st2,f2,W,⟨m0,w0⟩,turn⟩:=h2
 subst e
 -- what stays true of the iterator's objects through the loop
 have stat:∀ {H':Hp},(∀ b∈fp,H' b=none)→∀ b∈fp,FpOk X pins H' b:=fun hn b hb=>⟨hn b hb,(f2 b hb).2⟩
 refine codeAny_forLoop_any (fun n s'=>∃ i σ' H',Inv X pins σ' H' s'∧tn i s'.heap∧(∀ b∈fp,H' b=none)∧W i n σ' H') ?_ m0 ⟨0,σ,H2,I2,st2,fun b hb=>(f2 b hb).1,w0⟩
 rintro n s3 ⟨i,σ3,H3,I3,st3,fr3,w3⟩
 rcases turn i n σ3 H3 w3 with⟨stop,qn⟩ | ⟨go,N,hN,step⟩
 ·refine wpAny_passesOwn hp (thn (T.done X rfl rfl rfl hc i pins s3 σ3 H3 X.xe I3 (stat fr3) st3 stop) fun r s4 ⟨hr,I4⟩=>?_)
  subst hr
  exact wpAny_execs_nil ⟨σ3,H3,I4,qn⟩
 ·refine wpAny_passesOwn hp (thn (T.item X rfl rfl rfl hc i pins s3 σ3 H3 X.xe I3 (stat fr3) st3 go) fun r s4 ⟨u,hr,h4⟩=>?_)
  subst hr
  refine wpAny_passesOwn hp (thn h4 fun _ s5 hq0=>?_)
  obtain⟨x,H5,I5,r5,y5,st5,fr5⟩:=hq0
  have I5':=I5.pinned (stat fr5) (T.obj _ _ st5)
  refine wpAny_passesOwn hp (thn (hg _ s5 σ3 H5 x u _ I5' r5 (step x H5 y5)) fun _ s6 hq0=>?_)
  obtain⟨σ6,H6,I6,q6⟩:=hq0
  refine wpAny_passesOwn hp (thn (hb _ s6 σ6 H6 _ I6 q6) fun f s7 q7=>?_)
  have again:∀ {σ7:St}{H7:Hp},Inv X (pins++vM fp s5.heap) σ7 H7 s7→N σ7 H7→∃ m,m<n∧∃ i σ' H',Inv X pins σ' H' s7∧tn i s7.heap∧(∀ b∈fp,H' b=none)∧W i m σ' H':=fun {σ7 H7} I7 n7=>by
   obtain⟨m',hm,w7⟩:=hN σ7 H7 n7
   refine⟨m',hm,i+1,σ7,H7,I7.unpinned,T.keep _ _ _ st5 fun b hb o e=>(I7.pin (b,o) (List.mem_append_right _ (List.mem_append_right _ (xv hb e)))).1,fun b hb=>?_,w7⟩
   obtain⟨o,e,d⟩:=T.obj _ _ st5 b hb
   exact(I7.pin (b,o) (List.mem_append_right _ (List.mem_append_right _ (xv hb e)))).2.1
  cases f with
  |next=>obtain⟨σ7,H7,I7,n7⟩:=q7;exact again I7 n7
  |cont=>obtain⟨σ7,H7,I7,n7⟩:=q7;exact again I7 n7
  |brk=>obtain⟨σ7,H7,I7,q7⟩:=q7;exact⟨σ7,H7,I7.unpinned,q7⟩
  |ret v=>obtain⟨x7,σ7,H7,I7,r7,q7⟩:=q7;exact⟨x7,σ7,H7,I7.unpinned,r7,q7⟩
end
theorem for_list {K:PySem.W.Frag}{a:Addr}{xs:List V}{g:TG}{tb:TS}{D:Ends}{σ:St}{H:Hp}(Pv:Nat→St→Hp→Prop) (h0:Pv 0 σ H) (hl:∀ i σ H,i≤xs.length→Pv i σ H→SqL K H a xs)
  (hs:∀ i x σ H,xs[i]?=some x→Pv i σ H→g x σ H fun σ2 H2=>tb { D with nx:=Pv (i+1),ct:=Pv (i+1),bk:=D.nx } σ2 H2) (hd:∀ σ H,Pv xs.length σ H→D.nx σ H) :
  ∃ W:Nat→Nat→St→Hp→Prop,(∃ m,W 0 m σ H)∧∀ i m σ H,W i m σ H →
   ((Itl K a).stop i H∧D.nx σ H)∨((Itl K a).go i H∧∃ N:St→Hp→Prop,(∀ σ' H',N σ' H'→∃ m',m'<m∧W (i+1) m' σ' H')∧∀ x H',(Itl K a).yld i H x H'→g x σ H' fun σ2 H2=>tb { D with nx:=N,ct:=N,bk:=D.nx } σ2 H2):=by
 refine⟨fun i m σ H=>m=xs.length-i∧i≤xs.length∧Pv i σ H,⟨xs.length,by simp,Nat.zero_le _,h0⟩,?_⟩
 rintro i m σ H ⟨rfl,hi,p⟩
 have q:=hl i σ H hi p
 by_cases hlt:i<xs.length
 ·refine .inr ⟨⟨xs,xs[i],q,by simp[hlt]⟩,Pv (i+1),fun σ' H' p'=>⟨xs.length-(i+1),by omega,rfl,hlt,p'⟩,fun x H' y=>?_⟩
  obtain⟨e,y⟩:=y
  subst e
  exact hs i x σ _ (y xs q) p
 ·have e:i=xs.length:=by omega
  subst e
  exact .inl ⟨⟨xs,q,Nat.le_refl _⟩,hd σ H p⟩
theorem for_tup {K:PySem.W.Frag}{a:Addr}{xs:List V}{g:TG}{tb:TS}{D:Ends}{σ:St}{H:Hp}(Pv:Nat→St→Hp→Prop) (h0:Pv 0 σ H) (hl:∀ i σ H,i≤xs.length→Pv i σ H→SqT K H a xs)
  (hs:∀ i x σ H,xs[i]?=some x→Pv i σ H→g x σ H fun σ2 H2=>tb { D with nx:=Pv (i+1),ct:=Pv (i+1),bk:=D.nx } σ2 H2) (hd:∀ σ H,Pv xs.length σ H→D.nx σ H) :
  ∃ W:Nat→Nat→St→Hp→Prop,(∃ m,W 0 m σ H)∧∀ i m σ H,W i m σ H →
   ((Itt K a).stop i H∧D.nx σ H)∨((Itt K a).go i H∧∃ N:St→Hp→Prop,(∀ σ' H',N σ' H'→∃ m',m'<m∧W (i+1) m' σ' H')∧∀ x H',(Itt K a).yld i H x H'→g x σ H' fun σ2 H2=>tb { D with nx:=N,ct:=N,bk:=D.nx } σ2 H2):=by
 refine⟨fun i m σ H=>m=xs.length-i∧i≤xs.length∧Pv i σ H,⟨xs.length,by simp,Nat.zero_le _,h0⟩,?_⟩
 rintro i m σ H ⟨rfl,hi,p⟩
 have q:=hl i σ H hi p
 by_cases hlt:i<xs.length
 ·refine .inr ⟨⟨xs,xs[i],q,by simp[hlt]⟩,Pv (i+1),fun σ' H' p'=>⟨xs.length-(i+1),by omega,rfl,hlt,p'⟩,fun x H' y=>?_⟩
  obtain⟨e,y⟩:=y
  subst e
  exact hs i x σ _ (y xs q) p
 ·have e:i=xs.length:=by omega
  subst e
  exact .inl ⟨⟨xs,q,Nat.le_refl _⟩,hd σ H p⟩
theorem for_range {lo:Int}{n:Nat}{g:TG}{tb:TS}{D:Ends}{σ:St}{H:Hp}(Pv:Nat→St→Hp→Prop) (h0:Pv 0 σ H)
  (hs:∀ i σ H,i<n→Pv i σ H→g (.int (lo+i)) σ H fun σ2 H2=>tb { D with nx:=Pv (i+1),ct:=Pv (i+1),bk:=D.nx } σ2 H2) (hd:∀ σ H,Pv n σ H→D.nx σ H) :
  ∃ W:Nat→Nat→St→Hp→Prop,(∃ m,W 0 m σ H)∧∀ i m σ H,W i m σ H →
   ((Itr lo n).stop i H∧D.nx σ H)∨((Itr lo n).go i H∧∃ N:St→Hp→Prop,(∀ σ' H',N σ' H'→∃ m',m'<m∧W (i+1) m' σ' H')∧∀ x H',(Itr lo n).yld i H x H'→g x σ H' fun σ2 H2=>tb { D with nx:=N,ct:=N,bk:=D.nx } σ2 H2):=by
 refine⟨fun i m σ H=>m=n-i∧i≤n∧Pv i σ H,⟨n,by simp,Nat.zero_le _,h0⟩,?_⟩
 rintro i m σ H ⟨rfl,hi,p⟩
 by_cases hlt:i<n
 ·refine .inr ⟨hlt,Pv (i+1),fun σ' H' p'=>⟨n-(i+1),by omega,rfl,hlt,p'⟩,fun x H' y=>?_⟩
  obtain⟨e,y⟩:=y
  subst e y
  exact hs i σ _ hlt p
 ·have e:i=n:=by omega
  subst e
  exact .inl ⟨Nat.le_refl _,hd σ H p⟩
abbrev R2:=V→V→Hp→VK→Prop
def OpR (X:Cx) (f:Value→Value→Sem Value) (r:R2):Prop :=
 ∀ (pins:List (Addr×Obj)) (s:Shared) (σ:St) (H:Hp) (x y:V) (v u:Value) (Q:VK),Inv X pins σ H s→RelV x v→RelV y u→r x y H Q →
  wpAny (model X.prog X.w) X.A (f v u) (EP X pins σ Q) X.xe s
def UnR (X:Cx) (f:Value→Sem Value) (r:V→Hp→VK→Prop):Prop :=
 ∀ (pins:List (Addr×Obj)) (s:Shared) (σ:St) (H:Hp) (x:V) (v:Value) (Q:VK),Inv X pins σ H s→RelV x v→r x H Q →
  wpAny (model X.prog X.w) X.A (f v) (EP X pins σ Q) X.xe s
def xb (X:Cx) (f:Value) (r:List V→Hp→VK→Prop):Prop :=
 ∀ (pins:List (Addr×Obj)) (s:Shared) (σ:St) (H:Hp) (xs:List V) (us:List Value) (Q:VK),Inv X pins σ H s→Vals xs us→r xs H Q →
  wpAny (model X.prog X.w) X.A (call f us) (EP X pins σ Q) X.xe s
def tOp (r:R2) (ta tb:TE):TE:=fun σ H Q=>ta σ H fun x H1=>tb σ H1 fun y H2=>r x y H2 Q
def tUn (r:V→Hp→VK→Prop) (ta:TE):TE:=fun σ H Q=>ta σ H fun x H1=>r x H1 Q
def rI (C:Int→Int→Prop) (g:Int→Int→V):R2:=fun x y H Q=>∃ i j,x=.int i∧y=.int j∧C i j∧Q (g i j) H
def rI0 (g:Int→Int→V):R2:=fun x y H Q=>∃ i j,x=.int i∧y=.int j∧Q (g i j) H
def rU (g:Int→V):V→Hp→VK→Prop:=fun x H Q=>∃ i,x=.int i∧Q (g i) H
section
variable {X:Cx}{a b c:Expr}{ta tb tc:TE}{pos:Pos}
theorem binT (ha:PE X a ta) (hb:PE X b tb){pins:List (Addr×Obj)}{s:Shared}{σ:St}{H:Hp}{R:V→V→Hp→Prop}(I:Inv X pins σ H s)
  (h:ta σ H fun x H1=>tb σ H1 fun y H2=>R x y H2){Q:Value→Shared→Prop}{f:Value→Value→Sem Value}
  (hf:∀ v u s2 x y H2,Inv X pins σ H2 s2→RelV x v→RelV y u→R x y H2→wpAny (model X.prog X.w) X.A (f v u) Q X.xe s2) :
  wpAny (model X.prog X.w) X.A (eval a X.env) (fun v s₁=>wpAny (model X.prog X.w) X.A (eval b X.env) (fun u s₂=>wpAny (model X.prog X.w) X.A (f v u) Q X.xe s₂) X.xe s₁) X.xe s:=by
 refine thn (ha pins s σ H _ I h) fun v s1 hq0=>?_
 obtain⟨x,H1,I1,r1,q1⟩:=hq0
 refine thn (hb pins s1 σ H1 _ I1 q1) fun u s2 hq0=>?_
 obtain⟨y,H2,I2,r2,q2⟩:=hq0
 exact hf v u s2 x y H2 I2 r1 r2 q2
theorem zu {op:Operator}{r:R2}(ho:OpR X (binaryOp op) r) (ha:Bx (PE X a ta)) (hb:Bx (PE X b tb)):Bx (PE X (.BinOp a op b pos) (tOp r ta tb)):=by
 have ha:=ha.of
 have hb:=hb.of
 refine⟨?_⟩
 intro pins s σ H Q I h
 exact wpAny_BinOp (binT ha hb I h fun v u s2 x y H2 I2 rx ry q=>ho pins s2 σ H2 x y v u Q I2 rx ry q)
theorem Uc {op:UnaryOp}{r:V→Hp→VK→Prop}(ho:UnR X (unaryOp op) r) (ha:PE X a ta):PE X (.UnaryOp op a pos) (tUn r ta):=by
 intro pins s σ H Q I h
 exact UnaryOp_ (thn (ha pins s σ H _ I h) fun v s1 ⟨x,H1,I1,r1,q1⟩=>ho pins s1 σ H1 x v Q I1 r1 q1)
theorem opI {f:Value→Value→Sem Value}{C:Int→Int→Prop}{g:Int→Int→Int}
  (rule:∀ (i j:Int) (t u:Tok) (s:Shared) (Q:Value→Shared→Prop) (E:Value→Shared→Prop),C i j→Q (.int (g i j) s.toks) { s with toks:=s.toks+1 }→wpAny (model X.prog X.w) X.A (f (.int i t) (.int j u)) Q E s) :
  OpR X f (rI C fun i j=>.int (g i j)):=by
 intro pins s σ H x y v u Q I rx ry h
 obtain⟨i,j,rfl,rfl,hc,q⟩:=h
 obtain⟨t,rfl⟩:=rx
 obtain⟨t',rfl⟩:=ry
 exact rule i j t t' s _ _ hc ⟨.int (g i j),H,I.tok _,⟨_,rfl⟩,q⟩
theorem zbn {f:Value→Value→Sem Value}{g:Int→Int→Int}
  (rule:∀ (i j:Int) (t u:Tok) (s:Shared) (Q:Value→Shared→Prop) (E:Value→Shared→Prop),Q (.int (g i j) s.toks) { s with toks:=s.toks+1 }→wpAny (model X.prog X.w) X.A (f (.int i t) (.int j u)) Q E s) :
  OpR X f (rI0 fun i j=>.int (g i j)):=by
 intro pins s σ H x y v u Q I rx ry h
 obtain⟨i,j,rfl,rfl,q⟩:=h
 obtain⟨t,rfl⟩:=rx
 obtain⟨t',rfl⟩:=ry
 exact rule i j t t' s _ _ ⟨.int (g i j),H,I.tok _,⟨_,rfl⟩,q⟩
theorem UN {f:Value→Value→Sem Value}{g:Int→Int→Bool}
  (rule:∀ (i j:Int) (t u:Tok) (s:Shared) (Q:Value→Shared→Prop) (E:Value→Shared→Prop),Q (.bool (g i j)) s→wpAny (model X.prog X.w) X.A (f (.int i t) (.int j u)) Q E s) :
  OpR X f (rI0 fun i j=>.bl (g i j)):=by
 intro pins s σ H x y v u Q I rx ry h
 obtain⟨i,j,rfl,rfl,q⟩:=h
 obtain⟨t,rfl⟩:=rx
 obtain⟨t',rfl⟩:=ry
 exact rule i j t t' s _ _ ⟨.bl (g i j),H,I,rfl,q⟩
def zbV (i j:Int):Prop:=0≤j∧j≤1000000∧i.natAbs<2 ^ 64
def CMul (i j:Int):Prop:=(-(2 ^ 64)<i∧i<2 ^ 64)∨(-(2 ^ 64)<j∧j<2 ^ 64)
theorem CMul.ok {i j:Int}(h:CMul i j):IntMulOk i j:=by
 rcases h with⟨h1,h2⟩ | ⟨h1,h2⟩
 ·exact .of_left (intBits_le_64 h1 h2)
 ·exact .of_right (intBits_le_64 h1 h2)
theorem xk:OpR X (binaryOp .Add) (rI0 fun i j=>.int (i+j)):=zbn fun _ _ _ _ _ _ _ q=>add_int q
theorem wo:OpR X (binaryOp .Sub) (rI0 fun i j=>.int (i-j)):=zbn fun _ _ _ _ _ _ _ q=>sub_int q
theorem vS:OpR X (binaryOp .Mult) (rI CMul fun i j=>.int (i*j)):=opI fun _ _ _ _ _ _ _ hc q=>mul_int q hc.ok
theorem xW:OpR X (binaryOp .Mod) (rI (fun _ j=>0<j) fun i j=>.int (i%j)):=opI fun i j _ _ _ _ _ hc q=>by
 have h1:(0:Int)<j:=hc
 exact mod_int' (by omega) (by rw[Int.fmod_eq_emod_of_nonneg i (by omega)];exact q)
theorem Zf:OpR X (binaryOp .Pow) (rI zbV fun i j=>.int (i ^ j.toNat)):=opI fun _ _ _ _ _ _ _ hc q=>pow_int_small hc.1 hc.2.1 hc.2.2 q
theorem unI {f:Value→Sem Value}{g:Int→Int}
  (rule:∀ (i:Int) (t:Tok) (s:Shared) (Q:Value→Shared→Prop) (E:Value→Shared→Prop),Q (.int (g i) s.toks) { s with toks:=s.toks+1 }→wpAny (model X.prog X.w) X.A (f (.int i t)) Q E s) :
  UnR X f (rU fun i=>.int (g i)):=by
 intro pins s σ H x v Q I rx h
 obtain⟨i,rfl,q⟩:=h
 obtain⟨t,rfl⟩:=rx
 exact rule i t s _ _ ⟨.int (g i),H,I.tok _,⟨_,rfl⟩,q⟩
theorem yN:UnR X (unaryOp .USub) (rU fun i=>.int (-i)):=unI fun _ _ _ _ _ q=>neg_int q
end
def zbh:V→V→Bool
 |.non,.non=>true | .non,.int _=>true | .int _,.non=>true | .non,.bl _=>true | .bl _,.non=>true | .non,.str _=>true | .str _,.non=>true
 |.int _,.int _=>true | .bl _,.bl _=>true | .str _,.str _=>true | .byt _,.byt _=>true
 |.int _,.str _=>true | .str _,.int _=>true | .bl _,.str _=>true | .str _,.bl _=>true
 |_,_=>false
def rEq:R2:=fun x y H Q=>zbh x y=true∧Q (.bl (decide (x=y))) H
def rNe:R2:=fun x y H Q=>zbh x y=true∧Q (.bl (!decide (x=y))) H
theorem YY {i j:Int}:decide (V.int i=V.int j)=(i == j):=by
 rw[Bool.eq_iff_iff]
 simp
theorem WB {i j:Bool}:decide (V.bl i=V.bl j)=(i == j):=by
 rw[Bool.eq_iff_iff]
 simp
theorem YX {i j:Str}:decide (V.str i=V.str j)=(i == j):=by
 rw[Bool.eq_iff_iff]
 simp
theorem YZ {i j:Array UInt8}:decide (V.byt i=V.byt j)=(i.toList == j.toList):=by
 rw[Bool.eq_iff_iff]
 cases i
 cases j
 simp
section
variable {X:Cx}{a b c:Expr}{ta tb tc:TE}{pos:Pos}
theorem zV {pins:List (Addr×Obj)}{σ:St}{H:Hp}{s:Shared}{Q:VK}{k k':Bool}(I:Inv X pins σ H s) (q:Q (.bl k) H) (e:k=k'):EP X pins σ Q (.bool k') s:=by
 subst e
 exact⟨.bl k,H,I,rfl,q⟩
theorem yG:OpR X (compareOp .Eq) rEq:=by
 intro pins s σ H x y v u Q I rx ry h
 obtain⟨hs,q⟩:=h
 cases x with
 |non =>
  cases rx
  cases y with
  |non=>cases ry;exact PySem.EqNone.eq_none_none (zV I q (by simp))
  |bl j=>cases ry;exact PySem.EqNone.eq_none_bool (zV I q (by simp))
  |int j=>obtain⟨t',rfl⟩:=ry;exact PySem.EqNone.eq_none_int (zV I q (by simp))
  |str j=>obtain⟨t',rfl⟩:=ry;exact PySem.EqNone.eq_none_str (zV I q (by simp))
  |_=>exact absurd (show false=true from hs) Bool.false_ne_true
 |bl i =>
  cases rx
  cases y with
  |non=>cases ry;exact PySem.EqNone.eq_bool_none (zV I q (by simp))
  |bl j=>cases ry;exact eq_bool (zV I q WB)
  |str j=>obtain⟨t',rfl⟩:=ry;exact PySem.EqMixed.eq_bool_str (zV I q (by simp))
  |_=>exact absurd (show false=true from hs) Bool.false_ne_true
 |int i =>
  obtain⟨t,rfl⟩:=rx
  cases y with
  |non=>cases ry;exact PySem.EqNone.eq_int_none (zV I q (by simp))
  |int j=>obtain⟨t',rfl⟩:=ry;exact eq_int (zV I q YY)
  |str j=>obtain⟨t',rfl⟩:=ry;exact PySem.EqMixed.eq_int_str (zV I q (by simp))
  |_=>exact absurd (show false=true from hs) Bool.false_ne_true
 |str i =>
  obtain⟨t,rfl⟩:=rx
  cases y with
  |non=>cases ry;exact PySem.EqNone.eq_str_none (zV I q (by simp))
  |bl j=>cases ry;exact PySem.EqMixed.eq_str_bool (zV I q (by simp))
  |int j=>obtain⟨t',rfl⟩:=ry;exact PySem.EqMixed.eq_str_int (zV I q (by simp))
  |str j=>obtain⟨t',rfl⟩:=ry;exact eq_str (zV I q YX)
  |_=>exact absurd (show false=true from hs) Bool.false_ne_true
 |byt i =>
  obtain⟨t,rfl⟩:=rx
  cases y with
  |byt j=>obtain⟨t',rfl⟩:=ry;exact PySem.W.eq_bytes (zV I q YZ)
  |_=>exact absurd (show false=true from hs) Bool.false_ne_true
 |_=>cases y<;>exact absurd (show false=true from hs) Bool.false_ne_true
theorem uv:OpR X (compareOp .NotEq) rNe:=by
 intro pins s σ H x y v u Q I rx ry h
 obtain⟨hs,q⟩:=h
 cases x with
 |non =>
  cases rx
  cases y with
  |non=>cases ry;exact PySem.EqNone.ne_none_none (zV I q (by simp))
  |bl j=>cases ry;exact PySem.EqNone.ne_none_bool (zV I q (by simp))
  |int j=>obtain⟨t',rfl⟩:=ry;exact PySem.EqNone.ne_none_int (zV I q (by simp))
  |str j=>obtain⟨t',rfl⟩:=ry;exact PySem.EqNone.ne_none_str (zV I q (by simp))
  |_=>exact absurd (show false=true from hs) Bool.false_ne_true
 |bl i =>
  cases rx
  cases y with
  |non=>cases ry;exact PySem.EqNone.ne_bool_none (zV I q (by simp))
  |bl j=>cases ry;exact ne_bool (zV I q (congrArg not WB))
  |str j=>obtain⟨t',rfl⟩:=ry;exact PySem.EqMixed.ne_bool_str (zV I q (by simp))
  |_=>exact absurd (show false=true from hs) Bool.false_ne_true
 |int i =>
  obtain⟨t,rfl⟩:=rx
  cases y with
  |non=>cases ry;exact PySem.EqNone.ne_int_none (zV I q (by simp))
  |int j=>obtain⟨t',rfl⟩:=ry;exact ne_int (zV I q (congrArg not YY))
  |str j=>obtain⟨t',rfl⟩:=ry;exact PySem.EqMixed.ne_int_str (zV I q (by simp))
  |_=>exact absurd (show false=true from hs) Bool.false_ne_true
 |str i =>
  obtain⟨t,rfl⟩:=rx
  cases y with
  |non=>cases ry;exact PySem.EqNone.ne_str_none (zV I q (by simp))
  |bl j=>cases ry;exact PySem.EqMixed.ne_str_bool (zV I q (by simp))
  |int j=>obtain⟨t',rfl⟩:=ry;exact PySem.EqMixed.ne_str_int (zV I q (by simp))
  |str j=>obtain⟨t',rfl⟩:=ry;exact ne_str (zV I q (congrArg not YX))
  |_=>exact absurd (show false=true from hs) Bool.false_ne_true
 |byt i =>
  obtain⟨t,rfl⟩:=rx
  cases y with
  |byt j=>obtain⟨t',rfl⟩:=ry;exact PySem.W.ne_bytes (zV I q (congrArg not YZ))
  |_=>exact absurd (show false=true from hs) Bool.false_ne_true
 |_=>cases y<;>exact absurd (show false=true from hs) Bool.false_ne_true
theorem uw:OpR X (compareOp .Lt) (rI0 fun i j=>.bl (decide (i<j))):=UN fun _ _ _ _ _ _ _ q=>lt_int q
theorem zac:OpR X (compareOp .LtE) (rI0 fun i j=>.bl (decide (i≤j))):=UN fun _ _ _ _ _ _ _ q=>le_int q
theorem uy:OpR X (compareOp .Gt) (rI0 fun i j=>.bl (decide (j<i))):=UN fun _ _ _ _ _ _ _ q=>gt_int q
theorem zad:OpR X (compareOp .GtE) (rI0 fun i j=>.bl (decide (j≤i))):=UN fun _ _ _ _ _ _ _ q=>ge_int q
theorem vh:OpR X (compareOp .IsNot) (fun x y H Q=>y=.non∧Q (.bl (!decide (x=.non))) H):=by
 intro pins s σ H x y v u Q I rx ry h
 obtain⟨rfl,q⟩:=h
 cases ry
 refine isnot_none_gen (zV I q ?_)
 cases x<;>first
  |(cases rx;rfl)
  |(obtain⟨t,rfl⟩:=rx;rfl)
theorem zC (b:Expr){op:CmpOp}(h:op≠.In:=by decide) (h2:op≠.NotIn:=by decide):behindInMarks op b=false:=by
 have e1:(op == CmpOp.In)=false:=by cases op<;>first | rfl | exact absurd rfl h
 have e2:(op == CmpOp.NotIn)=false:=by cases op<;>first | rfl | exact absurd rfl h2
 cases b<;>simp[behindInMarks,e1,e2]
theorem vg {op:CmpOp}{r:R2}(ho:OpR X (compareOp op) r) (ha:PE X a ta) (hb:PE X b tb) (hm:behindInMarks op b=false):PE X (.Compare a [op] [b] pos) (tOp r ta tb):=by
 intro pins s σ H Q I h
 exact wpAny_Compare1 (binT ha hb I h fun v u s2 x y H2 I2 rx ry q=>ho pins s2 σ H2 x y v u Q I2 rx ry q) hm
def Xm (t:TE):TT:=fun σ H Q=>t σ H fun x H'=>∃ k,x=.bl k∧Q k H'
theorem xN {op:CmpOp}{r:R2}(ho:OpR X (compareOp op) r) (ha:PE X a ta) (hb:PE X b tb) (hm:behindInMarks op b=false):PT X (.Compare a [op] [b] pos) (Xm (tOp r ta tb)):=by
 intro pins s σ H Q I h
 refine wpAny_isTrue_Compare1 (thn (ha pins s σ H _ I h) fun v s1 ⟨x,H1,I1,r1,q1⟩=>thn (hb pins s1 σ H1 _ I1 q1) fun u s2 ⟨y,H2,I2,r2,q2⟩ =>
  thn (ho pins s2 σ H2 x y v u _ I2 r1 r2 q2) fun c s3 ⟨z,H3,I3,r3,k,e,q3⟩=>?_) hm
 subst e
 cases r3
 exact wpAny_truthy_bool ⟨H3,I3,q3⟩
theorem Zi:(sizeLine:Nat)<2 ^ 63:=by rw[sizeLine_eq];decide
theorem ZY {x:V}{us:List Value}(r:Vals [x] us):∃ u,us=[u]∧RelV x u:=by
 cases r with
 |cons r1 r2=>cases r2;exact⟨_,rfl,r1⟩
theorem xX:xb X (.type "str") (fun xs H Q=>∃ i,xs=[.int i]∧i.natAbs.log2<1920∧Q (.str (toString i)) H):=by
 intro pins s σ H xs us Q I r h
 obtain⟨i,rfl,hz,q⟩:=h
 obtain⟨u,rfl,t,rfl⟩:=ZY r
 exact PySem.P.str_of_int hz ⟨.str _,H,I.tok _,⟨_,rfl⟩,q⟩
end
structure ObjM (h:Heap) (x dx C:Addr) (mA:Str→Option Value):Prop where
 obj:h.get? x=some (PySem.W.instObj C dx)
 ns:h.Ns1 dx mA
 ne:dx≠x
theorem YF {h:Heap}{dx:Addr}{mA:Str→Option Value}(n:h.Ns1 dx mA):∃ od,h.get? dx=some od∧∀ name,PySem.W.lookIn name od=some (mA name):=by
 obtain⟨o,es,ep,ho,hd,hk,_,hm⟩:=n
 refine⟨o,ho,fun name=>?_⟩
 have e:=hm name
 unfold nsFind findBy at e
 rw[← Array.find?_toList] at e
 unfold PySem.W.lookIn
 rw[hd]
 dsimp only
 split
 ·rename_i y q
  rw[q] at e
  exact congrArg some e
 ·rename_i q
  rw[q] at e
  have a:es.toList.any (·.refKey)=false:=by
   rw[List.any_eq_false]
   intro y hy
   obtain⟨z,t,hkey⟩:=hk y (Array.mem_toList_iff.mp hy)
   simp[DictEntry.refKey,hkey]
  have a':¬ es.toList.any (·.refKey)=true:=by rw[a];exact Bool.false_ne_true
  rw[if_neg a']
  exact congrArg some e
theorem ObjM.look {h:Heap}{x dx C:Addr}{mA:Str→Option Value}(I:ObjM h x dx C mA):∃ od,PySem.W.InstAt h x (PySem.W.instObj C dx) C (some od)∧∀ name,PySem.W.lookIn name od=some (mA name) :=
 let ⟨od,ho,hl⟩:=YF I.ns
 ⟨od,⟨I.obj,rfl,rfl,ho⟩,hl⟩
section
variable {prog:Program}{w:World}{A:Around}{E:Value→Shared→Prop}{s:Shared}{K:PySem.W.Frag}{x dx C f:Addr}{mA:Str→Option Value}{name:Str}{v:Value}
theorem Vr {expr:Bool}{Q:Value→Shared→Prop}(X:K.In s.heap) (I:ObjM s.heap x dx C mA) (hg:PySem.W.plainGet K C name=true) (hh:PySem.W.hasDictIn K C=true)
  (ha:PySem.W.findIn K (.ref C) name=some none) (hv:mA name=some v) (hv':PySem.W.handedIn v=true) (h:Q v { s with toks:=s.toks+1 }) :
  wpAny (model prog w) A (getAttr (.ref x) name expr) Q E s:=by
 obtain⟨od,J,hl⟩:=I.look
 exact PySem.W.get_value X J (PySem.W.plainGet_of hg).1 (PySem.W.findObj_own hh ha rfl (by rw[hl,hv])) hv' h
theorem XR {pl:Sem Bool}{Q:Value×List Value→Shared→Prop}(X:K.In s.heap) (I:ObjM s.heap x dx C mA) (hg:PySem.W.plainGet K C name=true)
  (hf:PySem.W.findIn K (.ref C) name=some (some (.ref f))) (ht:PySem.W.isFn K (.ref f)=true) (hv:mA name=none) (h:Q (.ref f,[.ref x]) s) :
  wpAny (model prog w) A (getMethod (.ref x) name pl) Q E s:=by
 obtain⟨od,J,hl⟩:=I.look
 exact PySem.W.method_fn X J (PySem.W.plainGet_of hg).1 (PySem.W.plainGet_of hg).2 hf (beq_iff_eq.mp ht) (by show(PySem.W.lookIn name od).map (·.isSome)=some false;rw[hl,hv];rfl) h
theorem WQ {ns:List Str}{Q:Unit→Shared→Prop}(X:K.In s.heap) (I:ObjM s.heap x dx C mA)
  (hs:PySem.W.findIn K (.ref C) "__setattr__" = some (some (.builtin "object.__setattr__"))) (hp:PySem.W.plainOver K C=true) (ht:PySem.W.takerIn K C name=some none) (hh:PySem.W.hasDictIn K C=true)
  (hw:PySem.Within mA ns) (hsz:ns.length≤sizeLine)
  (h:∀ h',ObjM h' x dx C (fun y=>if y=name then some v else mA y)→Heap.SameBut dx s.heap h'→Q () { s with heap:=h',toks:=s.toks+2 }) :
  wpAny (model prog w) A (setAttr (.ref x) name v) Q E s:=by
 obtain⟨od,J,hl⟩:=I.look
 refine PySem.W.set_plain X J hs (PySem.W.osa_open (s:={ s with toks:=s.toks+1 }) (r:=none) X J hp ht fun b=>?_)
 obtain⟨cd,hc,hd'⟩:=PySem.W.any_some hh
 have hx:s.heap.get? x=some ⟨.ref C,some dx,.plain,#[]⟩:=I.obj
 refine wpAny_bind (wpAny_pure (wpAny_bind (wpAny_bind (wpAny_loadPart hx (wpAny_bind (PySem.W.Looks.here (s:={ s with toks:=s.toks+1 }) (PySem.W.looks_clsIn X hc) ?_))))))
 rw[hd']
 refine wpAny_pure (a:=some dx) (wpAny_bind (wpAny_pure (wpAny_bind ?_)))
 refine wpAny_nsSet1 (s:={ s with toks:=s.toks+1 }) I.ns fun h' hn2 hs2=>?_
 obtain⟨oD,esD,epD,hoD,hdD,hcD⟩:=hn2.count (PySem.Within.cons name v hw)
 refine wpAny_bind (wpAny_lookBehind hoD (by rw[hdD];exact pastItsLine_dict (Nat.le_trans hcD (by rw[List.length_cons];omega))) ?_)
 exact wpAny_pure (h _ ⟨(hs2.2 _ (Ne.symm I.ne)).trans I.obj,hn2,I.ne⟩ hs2)
theorem XE {R:Result→Shared→Prop}{vs:List Value}{kw:List (Str×Value)}(X:K.In s.heap) (hm:PySem.W.makesIn K C=true)
  (hi:PySem.W.findIn K (.ref C) "__init__" = some (some (.ref f))) (hf:PySem.W.typeIn K (.ref f)=some (.type "function"))
  (h:codeAny (model prog w) (A.under (.builtin "type.__call__" ⟨.ref C::vs,kw⟩)) (.call (.ref f) ⟨.ref (s.heap.objs.size+1)::vs,kw⟩) (PySem.W.InitBack (s.heap.objs.size+1) R)
   { s with heap:=(s.heap.push PySem.W.emptyDict).push (PySem.W.instObj C s.heap.objs.size) }) :
  codeAny (model prog w) A (.call (.ref C) ⟨vs,kw⟩) R s:=by
 obtain⟨hh,g,d,t,os⟩:=s
 exact PySem.W.make_core (PySem.W.makes_of X hm) (PySem.W.looks_findIn X hi) (fun self=>PySem.W.bind_fn X self hf) (.inl rfl) h
end
def putF (f:Str) (v:V):List (Str×V)→List (Str×V)
 |[]=>[(f,v)]
 |(g,x)::r=>if g=f then(g,v)::r else(g,x)::putF f v r
theorem wu (f g:Str) (v:V):∀ fs:List (Str×V),(putF f v fs).lookup g=if g=f then some v else fs.lookup g
 |[]=>by
  show List.lookup g [(f,v)]=_
  by_cases h:g=f
  ·have hb:(g == f)=true:=beq_iff_eq.mpr h
   simp only[List.lookup,hb,if_pos h]
  ·have hb:(g == f)=false:=beq_eq_false_iff_ne.mpr h
   simp only[List.lookup,hb,if_neg h]
 |(k,x)::r=>by
  have ih:=wu f g v r
  rw[show putF f v ((k,x)::r)=(if k=f then(k,v)::r else(k,x)::putF f v r) from rfl]
  by_cases hk:k=f
  ·rw[if_pos hk]
   by_cases h:g=k
   ·have hb:(g == k)=true:=beq_iff_eq.mpr h
    simp only[List.lookup,hb,if_pos (h.trans hk)]
   ·have hb:(g == k)=false:=beq_eq_false_iff_ne.mpr h
    simp only[List.lookup,hb,if_neg (fun e:g=f=>h (e.trans hk.symm))]
  ·rw[if_neg hk]
   by_cases h:g=k
   ·have hb:(g == k)=true:=beq_iff_eq.mpr h
    simp only[List.lookup,hb,if_neg (fun e:g=f=>hk (h.symm.trans e))]
   ·have hb:(g == k)=false:=beq_eq_false_iff_ne.mpr h
    simp only[List.lookup,hb]
    exact ih
theorem ww (f:Str) (v:V):∀ fs:List (Str×V),f∈(putF f v fs).map (·.1)∧∀ g,g∈fs.map (·.1)→g∈(putF f v fs).map (·.1)
 |[]=>⟨by simp[putF],fun g h=>by simp at h⟩
 |(k,x)::r=>by
  obtain⟨i1,i2⟩:=ww f v r
  rw[show putF f v ((k,x)::r)=(if k=f then(k,v)::r else(k,x)::putF f v r) from rfl]
  by_cases hk:k=f
  ·rw[if_pos hk]
   subst hk
   exact⟨by simp,fun g h=>by simpa using h⟩
  ·rw[if_neg hk]
   refine⟨?_,fun g h=>?_⟩
   ·rw[List.map_cons]
    exact List.mem_cons_of_mem _ i1
   ·rw[List.map_cons] at h ⊢
    rcases List.mem_cons.mp h with e | e
    ·exact List.mem_cons.mpr (.inl e)
    ·exact List.mem_cons_of_mem _ (i2 g e)
theorem wv (f:Str) (v:V):∀ fs:List (Str×V),(putF f v fs).length≤fs.length+1
 |[]=>by simp[putF]
 |(k,x)::r=>by
  have ih:=wv f v r
  rw[show putF f v ((k,x)::r)=(if k=f then(k,v)::r else(k,x)::putF f v r) from rfl]
  by_cases hk:k=f
  ·rw[if_pos hk,List.length_cons,List.length_cons];omega
  ·rw[if_neg hk,List.length_cons,List.length_cons];omega
theorem RelO.some_of {v:V}{o:Option Value}(r:RelO (some v) o):∃ u,o=some u∧RelV v u:=by
 cases o with
 |none=>exact(show False from r).elim
 |some u=>exact⟨u,rfl,r⟩
theorem RelO.none_of {o:Option Value}(r:RelO none o):o=none:=by
 cases o with
 |none=>rfl
 |some u=>exact(show False from r).elim
theorem YT {v:V}{u:Value}(r:RelV v u):PySem.W.handedIn u=true:=by
 cases v with
 |non=>cases (show u=Value.none from r);rfl
 |bl b=>cases (show u=Value.bool b from r);rfl
 |int i=>obtain⟨t,e⟩:=(show ∃ t,u=Value.int i t from r);cases e;rfl
 |str x=>obtain⟨t,e⟩:=(show ∃ t,u=Value.str x t from r);cases e;rfl
 |byt b=>obtain⟨t,e⟩:=(show ∃ t,u=Value.bytes b t from r);cases e;rfl
 |flt b=>obtain⟨t,e⟩:=(show ∃ t,u=Value.float b t from r);cases e;rfl
 |ref a=>cases (show u=Value.ref a from r);rfl
 |ty n=>cases (show u=Value.type n from r);rfl
section
variable {P:Program}{w:World}{H H':Hp}{h h':Heap}{a C dx:Addr}{fs fs':List (Str×V)}
theorem vn (hok:HOk P w H h) (e:H a=some (.ins C dx fs)):∃ mA,ObjM h a dx C mA∧(∀ f,RelO (fs.lookup f) (mA f))∧PySem.Within mA (fs.map (·.1))∧fs.length≤1000∧H dx=some (.own a):=by
 obtain⟨d,z,ne,ob,mA,n,r,q⟩:=(show ObjOk P w H h a (.ins C dx fs) from hok a _ e)
 exact⟨mA,⟨ob,n,ne⟩,r,q,z,d⟩
end
structure Cls (K:PySem.W.Frag) (C:Addr):Prop where
 pg:PySem.W.plainGet K C Str.empty=true
 hd:PySem.W.hasDictIn K C=true
 po:PySem.W.plainOver K C=true
 sa:PySem.W.findIn K (.ref C) "__setattr__" = some (some (.builtin "object.__setattr__"))
theorem Cls.get {K:PySem.W.Frag}{C:Addr}(c:Cls K C) (f:Str):PySem.W.plainGet K C f=true:=c.pg
def NoAttr (K:PySem.W.Frag) (C:Addr) (f:Str):Prop:=PySem.W.findIn K (.ref C) f=some none
theorem NoAttr.taker {K:PySem.W.Frag}{C:Addr}{f:Str}(n:NoAttr K C f):PySem.W.takerIn K C f=some none:=by
 unfold PySem.W.takerIn
 rw[show PySem.W.findIn K (.ref C) f=some none from n]
 rfl
structure Meth (K:PySem.W.Frag) (C:Addr) (m:Str) (f:Addr):Prop where
 at_:PySem.W.findIn K (.ref C) m=some (some (.ref f))
 fn:PySem.W.isFn K (.ref f)=true
 kp:PySem.W.keepIn K (.ref f)=true
section
variable {X:Cx}{pins:List (Addr×Obj)}{σ:St}{H:Hp}{s:Shared}{a C dx:Addr}{fs:List (Str×V)}{f:Str}{v:V}{A:Around}{E:Value→Shared→Prop}
theorem ZL {b:Bool}{Q:Value→Shared→Prop}(I:Inv X pins σ H s) (e:H a=some (.ins C dx fs)) (c:Cls X.K C) (n:NoAttr X.K C f) (l:fs.lookup f=some v)
  (h:∀ u s',Inv X pins σ H s'→RelV v u→Q u s'):wpAny (model X.prog X.w) A (getAttr (.ref a) f b) Q E s:=by
 obtain⟨mA,O,r,_,_,_⟩:=vn I.hok e
 obtain⟨u,hu,ru⟩:=RelO.some_of (v:=v) (o:=mA f) (by rw[← l];exact r f)
 exact Vr I.kIn O (c.get f) c.hd n hu (YT ru) (h u _ (I.tok _) ru)
theorem xw {m:Str}{g:Addr}{pl:Sem Bool}{Q:Value×List Value→Shared→Prop}(I:Inv X pins σ H s) (e:H a=some (.ins C dx fs)) (c:Cls X.K C) (k:Meth X.K C m g) (l:fs.lookup m=none)
  (h:Q (.ref g,[.ref a]) s):wpAny (model X.prog X.w) A (getMethod (.ref a) m pl) Q E s:=by
 obtain⟨mA,O,r,_,_,_⟩:=vn I.hok e
 have hn:mA m=none:=RelO.none_of (by rw[← l];exact r m)
 exact XR I.kIn O (c.get m) k.at_ k.fn hn h
theorem ZE {y:V}{u:Value}{Q:Unit→Shared→Prop}(I:Inv X pins σ H s) (e:H a=some (.ins C dx fs)) (c:Cls X.K C) (n:NoAttr X.K C f) (hl:fs.length<1000) (ry:RelV y u)
  (h:∀ s',Inv X pins σ (upd H a (.ins C dx (putF f y fs))) s'→Q () s'):wpAny (model X.prog X.w) A (setAttr (.ref a) f u) Q E s:=by
 obtain⟨mA,O,r,wi,_,ho⟩:=vn I.hok e
 have hz:(fs.map (·.1)).length≤sizeLine:=by rw[List.length_map,sizeLine_eq];omega
 refine WQ I.kIn O c.sa c.po n.taker c.hd wi hz fun h' O' sb=>h _ ?_
 have hd:∃ o,h'.get? dx=some o:=let ⟨o,_,_,e',_⟩:=O'.ns;⟨o,e'⟩
 refine I.write (x:=a) (e:=dx) (by rw[e];exact True.intro) (.inr ho) (fun b q hb z=>(sb.2 b hb).trans z) hd ?_
 refine⟨by rw[upd_ne O.ne];exact ho,?_,O.ne,O'.obj,_,O'.ns,fun g=>?_,fun g hg=>?_⟩
 ·have:=wv f y fs;omega
 ·show RelO ((putF f y fs).lookup g) (if g=f then some u else mA g)
  rw[wu]
  by_cases q:g=f
  ·rw[if_pos q,if_pos q];exact ry
  ·rw[if_neg q,if_neg q];exact r g
 ·by_cases q:g=f
  ·rw[q];exact(ww f y fs).1
  ·refine(ww f y fs).2 g (wi g fun z=>hg ?_)
   show(if g=f then some u else mA g)=none
   rw[if_neg q];exact z
theorem Inv.made (I:Inv X pins σ H s):Inv X pins σ (upd (upd H s.heap.objs.size (.own (s.heap.objs.size+1))) (s.heap.objs.size+1) (.ins C s.heap.objs.size []))
  { s with heap:=(s.heap.push PySem.W.emptyDict).push (PySem.W.instObj C s.heap.objs.size) }:=by
 have e1:(s.heap.push PySem.W.emptyDict).get? s.heap.objs.size=some PySem.W.emptyDict:=Heap.get?_push_size s.heap rfl
 have e2:((s.heap.push PySem.W.emptyDict).push (PySem.W.instObj C s.heap.objs.size)).get? (s.heap.objs.size+1)=some (PySem.W.instObj C s.heap.objs.size):=by
  have:=Heap.get?_push_size (s.heap.push PySem.W.emptyDict) (o:=PySem.W.instObj C s.heap.objs.size) rfl
  rwa [Heap.size_push] at this
 have e3:(s.heap.push PySem.W.emptyDict).Ns s.heap.objs.size (fun _=>none):=⟨PySem.W.emptyDict,#[],_,e1,rfl,(fun e he=>absurd he (by simp)),fun _=>rfl⟩
 have I1:=I.laid (a:=s.heap.objs.size) (o:=.own (s.heap.objs.size+1)) (h':=s.heap.push PySem.W.emptyDict) (t':=s.toks) (fun b u q=>Heap.get?_push_of_some _ q) (Nat.le_refl _) ⟨_,e1⟩
 refine I1.laid (a:=s.heap.objs.size+1) (o:=.ins C s.heap.objs.size []) (t':=s.toks) (fun b u q=>Heap.get?_push_of_some _ q) (Nat.le_of_eq (Heap.size_push _ _)) ?_
 have ne:s.heap.objs.size≠s.heap.objs.size+1:=Nat.ne_of_lt (Nat.lt_succ_self _)
 refine⟨by rw[upd_ne ne,upd_same],Nat.zero_le _,ne,e2,fun _=>none,(Heap.Ns1.of_empty e3).at fun o q=>Heap.get?_push_of_some _ q,fun _=>True.intro,fun y hy=>absurd rfl hy⟩
theorem attr_of {prog:Program}{w:World}{env:Env}{e:Expr}{f:Str}{pos:Pos}{s:Shared}{Q:Value→Shared→Prop}(hb:attributeBase e f env (eval e env)=eval e env)
  (h:wpAny (model prog w) A (eval e env) (fun o s₁=>wpAny (model prog w) A (getAttr o f true) Q E s₁) E s):wpAny (model prog w) A (eval (.Attribute e f pos) env) Q E s :=
 Attribute_any_ h (by rw[arm_eval_Attribute,hb])
end
def zbz (K:PySem.W.Frag) (ta:TE) (f:Str):TE:=fun σ H Q=>ta σ H fun x H1=>∃ a C dx fs v,x=.ref a∧H1 a=some (.ins C dx fs)∧Cls K C∧NoAttr K C f∧fs.lookup f=some v∧Q v H1
def zbi (K:PySem.W.Frag) (ta tv:TE) (f:Str):TS:=fun D σ H=>tv σ H fun y H1=>ta σ H1 fun x H2=>∃ a C dx fs,x=.ref a∧H2 a=some (.ins C dx fs)∧Cls K C∧NoAttr K C f∧fs.length<1000 ∧
 D.nx σ (upd H2 a (.ins C dx (putF f y fs)))
section
variable {X:Cx}{o e value:Expr}{f:Str}{pos pos' tpos:Pos}{ta tv:TE}
theorem yJ (he:Bx (PE X e ta)) (hb:attributeBase e f X.env (eval e X.env)=eval e X.env):Bx (PE X (.Attribute e f pos) (zbz X.K ta f)):=by
 have he:=he.of
 refine⟨?_⟩
 intro pins s σ H Q I h
 refine attr_of hb (thn (he pins s σ H _ I h) fun u s1 hq0=>?_)
 obtain⟨x,H1,I1,rx,a,C,dx,fs,v,ex,ea,c,n,l,q⟩:=hq0
 subst ex
 obtain rfl:u=Value.ref a:=rx
 exact ZL I1 ea c n l fun u' s2 I2 ru=>⟨v,H1,I2,ru,q⟩
theorem u8 (ha:PE X o ta) (hv:PE X value tv) (hs:swapsWith value (some (.Attribute o f pos')) pos.line X.env=pure false):PS X (.Assign [.Attribute o f pos'] value pos) (zbi X.K ta tv f):=by
 intro pins s σ H D I h
 refine plainObj_wpAny_Assign_Attribute (thn (hv pins s σ H _ I h) fun u s1 ⟨y,H1,I1,ry,q⟩=>thn (ha pins s1 σ H1 _ I1 q) fun ov s2 hq0=>?_) hs
 obtain⟨x,H2,I2,rx,a,C,dx,fs,ex,ea,c,n,l,q2⟩:=hq0
 subst ex
 obtain rfl:ov=Value.ref a:=rx
 exact ZE I2 ea c n l ry fun s3 I3=>⟨σ,_,I3,q2⟩
theorem Vm {pl:Sem Bool}{m:Str}{apos:Pos}{args:List Expr}{pins:List (Addr×Obj)}{s:Shared}{σ:St}{H:Hp}{Q:Value→Shared→Prop}{te:TE}(he:PE X e te) (I:Inv X pins σ H s)
  (h:te σ H fun x H1=>∃ a C dx fs g,x=.ref a∧H1 a=some (.ins C dx fs)∧Cls X.K C∧Meth X.K C m g∧fs.lookup m=none ∧
   ∀ s1,Inv X pins σ H1 s1→wpAny (model X.prog X.w) X.A (callWith pos (.ref g) [.ref a] (backTo pos (starEach args X.env)) (backToKw pos (keywordEach [] X.env))) Q X.xe s1)
  (ht:eval (.Call (.Attribute e m apos) args [] pos) X.env=(do
   let ov ← eval e X.env
   standAt apos.atName
   let (f,first) ← holding [ov] (getMethod ov m pl)
   callWith pos f first (backTo pos (starEach args X.env)) (backToKw pos (keywordEach [] X.env)))) :
  wpAny (model X.prog X.w) X.A (eval (.Call (.Attribute e m apos) args [] pos) X.env) Q X.xe s:=by
 refine PySem.W.methodCall_KW (pl:=pl) (thn (he pins s σ H _ I h) fun u s1 hq0=>?_) ht
 obtain⟨x,H1,I1,rx,a,C,dx,fs,g,ex,ea,c,k,l,q⟩:=hq0
 subst ex
 obtain rfl:u=Value.ref a:=rx
 exact xw I1 ea c k l (q s1 I1)
end
section
variable {X:Cx}{pins:List (Addr×Obj)}{σ:St}{H:Hp}{s:Shared}{A:Around}{E:Value→Shared→Prop}{Q:Value→Shared→Prop}{c:Value}{b:Bool}
inductive TyOf (K:PySem.W.Frag) (H:Hp):V→Value→Prop where
 |non:TyOf K H .non (.type "NoneType")
 |bl (x:Bool):TyOf K H (.bl x) (.type "bool")
 |int (i:Int):TyOf K H (.int i) (.type "int")
 |str (x:Str):TyOf K H (.str x) (.type "str")
 |flt (x:UInt64):TyOf K H (.flt x) (.type "float")
 |lst {a:Addr}{xs:List V}(e:H a=some (.lst xs)):TyOf K H (.ref a) (.type "list")
 |frz {a:Addr}{o:Obj}{xs:List V}(e:H a=some (.frz o (.lst xs))):TyOf K H (.ref a) (.type "list")
 |tup {a:Addr}{xs:List V}(e:H a=some (.tup xs)):TyOf K H (.ref a) (.type "tuple")
 |dK {a:Addr}{kvs:List (Key×V)}(e:H a=some (.dK kvs)):TyOf K H (.ref a) (.type "dict")
 |dT {a:Addr}{kvs:List (List Key×V)}(e:H a=some (.dT kvs)):TyOf K H (.ref a) (.type "dict")
 |ins {a C dx:Addr}{fs:List (Str×V)}(e:H a=some (.ins C dx fs)) (cl:Cls K C) (ha:PySem.W.findIn K (.ref C) "__class__" = some (some (.builtin "object.__class__")))
   (hn:PySem.W.specialIn K (.builtin "object.__class__") "__get__" = some (some (.builtin "getset_descriptor.__get__"))) (htk:PySem.W.takesIn K (.builtin "object.__class__")=some true)
   (hm:PySem.W.mroIn K C (.type "object")=some true):TyOf K H (.ref a) (.ref C)
 |odd {a:Addr}{o:Obj}{φ:Heap→Prop}(e:H a=some (.frz o (.ext φ))) (x:o.ExactDict):TyOf K H (.ref a) (.type "dict")
theorem YO {x:V}{u t:Value}(I:Inv X pins σ H s) (rx:RelV x u) (ty:TyOf X.K H x t) (e:PySem.W.kitOne X.K t c=some b) (h:∀ tk,Q (.bool b) { s with toks:=tk }) :
  wpAny (model X.prog X.w) A (call (.builtin "isinstance") [u,c]) Q E s:=by
 cases ty with
 |non=>cases (show u=Value.none from rx);exact PySem.W.kia_one PySem.W.kitx_none I.kIn True.intro e (fun z=>nomatch z) h
 |bl y=>cases (show u=Value.bool y from rx);exact PySem.W.kia_one PySem.W.kitx_bool I.kIn True.intro e (fun z=>nomatch z) h
 |int i=>obtain⟨t,q⟩:=(show ∃ t,u=Value.int i t from rx);cases q;exact PySem.W.kia_one PySem.W.kitx_int I.kIn True.intro e (fun z=>nomatch z) h
 |str y=>obtain⟨t,q⟩:=(show ∃ t,u=Value.str y t from rx);cases q;exact PySem.W.kia_one PySem.W.kitx_str I.kIn True.intro e (fun z=>nomatch z) h
 |flt y=>obtain⟨t,q⟩:=(show ∃ t,u=Value.float y t from rx);cases q;exact PySem.W.kia_one PySem.W.kitx_float I.kIn True.intro e (fun z=>nomatch z) h
 | @lst a xs ea =>
  cases (show u=Value.ref a from rx)
  obtain⟨_,_,n,_,h1⟩:=(show ObjOk X.prog X.w H s.heap a (.lst xs) from I.hok a _ ea)
  exact PySem.W.kia_one PySem.W.kitx_list I.kIn ⟨_,h1,rfl⟩ e (fun z=>nomatch z) h
 | @frz a ob xs ea =>
  cases (show u=Value.ref a from rx)
  obtain⟨_,_,_,n,_,h1⟩:=(show ObjOk X.prog X.w H s.heap a (.frz ob (.lst xs)) from I.hok a _ ea)
  exact PySem.W.kia_one PySem.W.kitx_list I.kIn ⟨_,h1,rfl⟩ e (fun z=>nomatch z) h
 | @tup a xs ea =>
  cases (show u=Value.ref a from rx)
  obtain⟨_,_,_,p⟩:=(show ObjOk X.prog X.w H s.heap a (.tup xs) from I.hok a _ ea)
  obtain⟨o,h1,h2,_⟩:=p
  exact PySem.W.kia_one PySem.W.kitx_tuple I.kIn ⟨o,h1,h2⟩ e (fun z=>nomatch z) h
 | @dK a kvs ea =>
  cases (show u=Value.ref a from rx)
  obtain⟨_,_,vs,_,p⟩:=(show ObjOk X.prog X.w H s.heap a (.dK kvs) from I.hok a _ ea)
  obtain⟨o,es,ep,h1,h2,_⟩:=p
  exact PySem.W.kia_one PySem.W.kitx_dict I.kIn ⟨o,h1,h2.1⟩ e (fun z=>nomatch z) h
 | @dT a kvs ea =>
  cases (show u=Value.ref a from rx)
  obtain⟨_,_,xs,_,o,es,ep,h1,h2,_⟩:=(show ObjOk X.prog X.w H s.heap a (.dT kvs) from I.hok a _ ea)
  exact PySem.W.kia_one PySem.W.kitx_dict I.kIn ⟨o,h1,h2.1⟩ e (fun z=>nomatch z) h
 | @ins a C dx fs ea cl ha hn htk hm =>
  cases (show u=Value.ref a from rx)
  obtain⟨mA,O,_⟩:=vn I.hok ea
  obtain⟨od,J,_⟩:=O.look
  exact PySem.W.kia_one (PySem.W.kitx_own (cl.get _) cl.hd ha hn htk hm) I.kIn J e (fun z=>nomatch z) h
 | @odd a o φ ea x =>
  cases (show u=Value.ref a from rx)
  exact PySem.W.kia_one PySem.W.kitx_dict I.kIn ⟨o,(I.hok a _ ea).1,x.1⟩ e (fun z=>nomatch z) h
end
structure Room (k:Nat) (A:Around):Prop where
 hd:A.handled=none
 dp:A.depth+3*k+5<recursionLimit
 un:A.units+16*k+200<cLine
 gd:A.guards=some []
theorem Room.mono {j k:Nat}{A:Around}(r:Room k A) (h:j≤k):Room j A:=⟨r.hd,by have:=r.dp;omega,by have:=r.un;omega,r.gd⟩
theorem Room.m{j k:Nat}{A:Around}(r:Room k A)(h:j≤k:=by omega):Room j A:=r.mono h
theorem Room.deeper {k:Nat}{A:Around}(r:Room (k+1) A) (env:Env):Room k (A.deeper env) :=
 ⟨r.hd,by have:=r.dp;show A.depth+1+3*k+5<_;omega,by have:=r.un;show A.units+3+16*k+200<_;omega,r.gd⟩
theorem ZJ {A:Around}{C:Addr}{us:List Value}{kw:List (Str×Value)}:(A.under (.builtin "type.__call__" ⟨.ref C::us,kw⟩)).depth=A.depth+1:=by
 first | rfl | simp[Around.under,Code.weight,Code.isCreation,Code.isGuard,Code.isCaller,Code.frames,Code.isFrame,guardIds]
theorem ZI {A:Around}{C:Addr}{us:List Value}{kw:List (Str×Value)}:(A.under (.builtin "type.__call__" ⟨.ref C::us,kw⟩)).units=A.units+1:=by
 first | rfl | simp[Around.under,Code.cUnits,Code.frames,Code.isFrame]
theorem uC {A:Around}{C:Addr}{us:List Value}{kw:List (Str×Value)}(h:A.guards=some []):(A.under (.builtin "type.__call__" ⟨.ref C::us,kw⟩)).guards=some []:=by
 have e:(Code.builtin "type.__call__" ⟨.ref C::us,kw⟩).guards=[]:=by
  unfold Code.guards Code.isGuard
  rw[if_neg (show ¬ guardIds.contains "type.__call__" = true by decide +kernel)]
 simp only[Around.under,e,h,pushGuards]
theorem Room.make {k:Nat}{A:Around}(r:Room (k+1) A) (C:Addr) (us:List Value) (kw:List (Str×Value)):Room k (A.under (.builtin "type.__call__" ⟨.ref C::us,kw⟩)) :=
 ⟨r.hd,by have:=r.dp;rw[ZJ];omega,by have:=r.un;rw[ZI];omega,uC r.gd⟩
theorem Room.depth {k:Nat}{A:Around}(r:Room k A):A.depth<recursionLimit:=by have:=r.dp;omega
theorem Room.units {k:Nat}{A:Around}(r:Room k A):A.units+64<cLine:=by have:=r.un;omega
def yQ:TA:=fun _ H Q=>Q [] H
def zD (ta:TE) (tr:TA):TA:=fun σ H Q=>ta σ H fun x H1=>tr σ H1 fun xs H2=>Q (x::xs) H2
section
variable {X:Cx}{e:Expr}{es:List Expr}{te:TE}{t:TA}{pos:Pos}
theorem yr:PA X [] yQ:=fun _ _ _ _ H Q I h=>Calls.spliced_nil ⟨[],H,I,.nil,h⟩
theorem yY (ha:PE X e te) (hr:PA X es t) (hs:starEach (e::es) X.env=(false,eval e X.env)::starEach es X.env:=by rfl):PA X (e::es) (zD te t):=by
 intro pos pins s σ H Q I h
 rw[hs]
 show wpAny _ _ (spliced ((false,eval e X.env)::backTo pos (starEach es X.env))) _ _ s
 refine Calls.spliced_cons (thn (ha pins s σ H _ I h) fun u s1 hq0=>?_)
 obtain⟨x,H1,I1,r1,q1⟩:=hq0
 exact thn (hr pos pins s1 σ H1 _ I1 q1) fun us s2 ⟨xs,H2,I2,r2,q2⟩=>⟨x::xs,H2,I2,.cons r1 r2,q2⟩
def Xl (t:TA):TE:=fun σ H Q=>t σ H fun xs H1=>xs.length≤sizeLine∧∀ p,H1 p=none→Q (.ref p) (upd H1 p (.tup xs))
def ud (t:TA):TE:=fun σ H Q=>t σ H fun xs H1=>xs.length≤sizeLine∧∀ p,H1 p=none→Q (.ref p) (upd H1 p (.lst xs))
theorem zJ {x1}(h:Bx (PA X es t)):Bx (PE X (.Tuple es x1 pos) (Xl t)):=by
 have h:=h.of
 refine⟨?_⟩
 intro pins s σ H Q I hq
 refine wpAny_Tuple_spliced (thn (h pos pins s σ H _ I hq) fun us s1 ⟨xs,H1,I1,r,z,q⟩=>⟨by rw[← r.length];exact z,?_⟩)
 have hf:H1 s1.heap.objs.size=none:=I1.hok.fresh (Nat.le_refl _)
 refine⟨.ref s1.heap.objs.size,upd H1 s1.heap.objs.size (.tup xs),I1.laid (t':=s1.toks) (fun b u e=>Heap.get?_push_of_some _ e) (Nat.le_refl _) ?_,rfl,q _ hf⟩
 exact⟨z,us,r,⟨_,Heap.get?_push_size _ rfl,rfl,_,rfl⟩⟩
theorem Wl (h:PA X es t):PE X (.List es pos) (ud t):=by
 intro pins s σ H Q I hq
 refine wpAny_List_spliced (thn (h pos pins s σ H _ I hq) fun us s1 ⟨xs,H1,I1,r,z,q⟩=>⟨by rw[← r.length];exact z,?_⟩)
 have hf:H1 s1.heap.objs.size=none:=I1.hok.fresh (Nat.le_refl _)
 refine⟨.ref s1.heap.objs.size,upd H1 s1.heap.objs.size (.lst xs),I1.laid (t':=s1.toks) (fun b u e=>Heap.get?_push_of_some _ e) (Nat.le_refl _) ?_,rfl,q _ hf⟩
 exact⟨z,us,0,r,Heap.get?_push_size _ rfl⟩
end
abbrev Sp:=List V→Hp→VK→XK→Prop
abbrev CXT:=List Env→Hp→Shared→XK→Value→Shared→Prop
structure Env0 (P:Program) (w:World) (K:PySem.W.Frag) (mg:Str→Option Value) (base:Heap) (A:Around) (outer:List Env) (s:Shared) (H:Hp):Prop where
 frames:A.frames=some outer
 mod:Mod K mg base
 bs:∀ b o,base.get? b=some o→s.heap.get? b=some o∧H b=none
 bsz:base.objs.size≤s.heap.objs.size
 funs:s.heap.FunFrames base outer
 frf:∀ b∈frs outer,H b=none
 hok:HOk P w H s.heap
 bare:AllBare s.gens
def CE (outer:List Env) (P:Program) (w:World) (H:Hp) (s:Shared) (Q:VK) (u:Value) (s':Shared):Prop :=
 ∃ v H',s'.os=s.os∧AllBare s'.gens∧Un (frs outer) [] H H' s.heap s'.heap∧HOk P w H' s'.heap∧RelV v u∧Q v H'
def CR (CX:CXT) (outer:List Env) (P:Program) (w:World) (H:Hp) (s:Shared) (Q:VK) (E:XK) (r:Result) (s':Shared):Prop :=
 match r with
 |.ok (.ret u)=>CE outer P w H s Q u s'
 |.ok _=>False
 |.error e=>CX outer H s E e s'
structure FnOk (P:Program) (w:World) (K:PySem.W.Frag) (mg:Str→Option Value) (base:Heap) (CX:CXT) (k:Nat) (f:Addr) (fd:FuncData) (ps:List Str) (sp:Sp):Prop where
 len:∀ vs H Q E,sp vs H Q E→vs.length=ps.length
 run:∀ (A:Around) (outer:List Env) (s:Shared) (H:Hp) (args:Args) (us:List Value) (vs:List V) (Q:VK) (E:XK),Room k A→Env0 P w K mg base A outer s H→BindsTo s fd args (ps.zip us)→Vals vs us→sp vs H Q E →
  codeAny (model P w) A (.call (.ref f) args) (CR CX outer P w H s Q E) s
theorem FnOk.imp {P:Program}{w:World}{K:PySem.W.Frag}{mg:Str→Option Value}{base:Heap}{CX:CXT}{k:Nat}{f:Addr}{fd:FuncData}{ps:List Str}{sp sp':Sp}(F:FnOk P w K mg base CX k f fd ps sp)
  (h:∀ vs H Q E,sp' vs H Q E→sp vs H Q E):FnOk P w K mg base CX k f fd ps sp' :=
 ⟨fun vs H Q E q=>F.len vs H Q E (h _ _ _ _ q),fun A outer s H args us vs Q E hr he hb hv hs=>F.run A outer s H args us vs Q E hr he hb hv (h _ _ _ _ hs)⟩
theorem Env0.make {P:Program}{w:World}{K:PySem.W.Frag}{mg:Str→Option Value}{base:Heap}{A:Around}{outer:List Env}{s:Shared}{H:Hp}(e:Env0 P w K mg base A outer s H) (C:Addr) (us:List Value) (kw:List (Str×Value)) :
  Env0 P w K mg base (A.under (.builtin "type.__call__" ⟨.ref C::us,kw⟩)) outer s H:=⟨by first | exact e.frames | (simpa[Around.under,Code.envs,Code.isFrame,pushEnvs] using e.frames),e.mod,e.bs,e.bsz,e.funs,e.frf,e.hok,e.bare⟩
section
variable {X:Cx}{pins:List (Addr×Obj)}{σ:St}{H:Hp}{s s':Shared}
theorem Inv.env0 (I:Inv X pins σ H s):Env0 X.prog X.w X.K X.mg X.base X.A X.stack s H :=
 ⟨I.ok.frames,I.ok.mod,I.bs,Nat.le_trans I.ok.bsz I.sz,I.stack,I.stkFree,I.hok,I.bare⟩
theorem Inv.after {Q:VK}{u:Value}(I:Inv X pins σ H s) (h:CE X.stack X.prog X.w H s Q u s'):EP X pins σ Q u s':=by
 obtain⟨v,H',os,bare,un,hok,r,q⟩:=h
 obtain⟨hh,g,d,t,os'⟩:=s'
 obtain rfl:os'=s.os:=os
 exact⟨v,H',I.call (h':=hh) (g':=g) (d':=d) (t':=t) (ch:=[]) un hok bare (fun b z=>absurd z (by simp)),r,q⟩
end
def wG (sp:Sp) (dvs:List V) (E:XK) (t:TA):TE:=fun σ H Q=>t σ H fun vs H1=>sp (vs++dvs) H1 Q E
def VP (C:Addr) (m:Str) (sp:Sp) (dvs:List V) (E:XK) (ta:TE) (t:TA):TE:=fun σ H Q=>ta σ H fun x H1=>∃ a dx fs,x=.ref a∧H1 a=some (.ins C dx fs)∧fs.lookup m=none ∧
 t σ H1 fun vs H2=>sp (x::(vs++dvs)) H2 Q E
def VQ (C:Addr) (sp:Sp) (dvs:List V) (E:XK) (t:TA):TE:=fun σ H Q=>t σ H fun vs H1=>∀ x dx,H1 x=none→H1 dx=none→dx≠x →
 sp (.ref x::(vs++dvs)) (upd (upd H1 dx (.own x)) x (.ins C dx [])) (fun v H2=>v=.non∧Q (.ref x) H2) E
def Binds (K:PySem.W.Frag) (fd:FuncData) (ps:List Str) (ds:List Value):Prop :=
 ∀ (s:Shared) (us:List Value),K.In s.heap→(us++ds).length=ps.length→BindsTo s fd ⟨us,[]⟩ (ps.zip (us++ds))
theorem Binds.all {K:PySem.W.Frag}{fd:FuncData}{ps:List Str}(h:∀ us:List Value,us.length=ps.length→bindArgs fd ⟨us,[]⟩=pure (ps.zip us)):Binds K fd ps []:=fun s us _ hl=>by
 rw[List.append_nil] at hl ⊢
 exact .of_eq (h us hl)
def wF (CX:CXT) (X:Cx) (E:XK):Prop:=∀ (pins:List (Addr×Obj)) (σ:St) (H:Hp) (s:Shared) (e:Value) (s':Shared),Inv X pins σ H s→CX X.stack H s E e s'→X.xe e s'
section
variable {X:Cx}{CX:CXT}{k:Nat}{f C:Addr}{fd:FuncData}{ps:List Str}{sp:Sp}{dvs:List V}{ds:List Value}{E:XK}{x m:Str}{p pos apos:Pos}{e o:Expr}{es:List Expr}{ta:TE}{t:TA}
theorem u3 {pins:List (Addr×Obj)}{σ:St}{H:Hp}{s:Shared}{Q:VK}{us:List Value}{vs:List V}(F:FnOk X.prog X.w X.K X.mg X.base CX k f fd ps sp) (hr:Room k X.A) (hb:Binds X.K fd ps ds) (hd:Vals dvs ds) (hx:wF CX X E)
  (I:Inv X pins σ H s) (r:Vals vs us) (h:sp (vs++dvs) H Q E):wpAny (model X.prog X.w) X.A (call (.ref f) us) (EP X pins σ Q) X.xe s:=by
 have r2:Vals (vs++dvs) (us++ds):=r.append hd
 have hl:(us++ds).length=ps.length:=by rw[← r2.length];exact F.len _ _ _ _ h
 refine wpAny_call (codeAny_mono (F.run X.A X.stack s H ⟨us,[]⟩ (us++ds) (vs++dvs) Q E hr I.env0 (hb s us I.kIn hl) r2 h) fun r s' hq=>?_)
 cases r with
 |error e=>exact hx pins σ H s e s' I hq
 |ok fl =>
  cases fl with
  |ret u=>exact I.after hq
  |next=>exact False.elim hq
  |brk=>exact False.elim hq
  |cont=>exact False.elim hq
theorem Vb (F:FnOk X.prog X.w X.K X.mg X.base CX k f fd ps sp) (hr:Room k X.A) (hg:Gl X x) (hm:X.mg x=some (.ref f)) (hk:PySem.W.keepIn X.K (.ref f)=true) (hb:Binds X.K fd ps ds) (hd:Vals dvs ds) (hx:wF CX X E)
  (ha:PA X (e::es) t) (hdb:(x == ("__debug__" : Str))=false:=by decide) (he:starEach (e::es) X.env=(false,eval e X.env)::starEach es X.env:=by rfl) (hpl:(backTo pos (starEach es X.env)).any (·.1)=false:=by rfl) :
  PE X (.Call (.Name x p) (e::es) [] pos) (wG sp dvs E t):=by
 intro pins s σ H Q I h
 refine wpAny_Call_Name_kw (ld_glob I hg hm ?_ hdb)
 refine PySem.W.callWith_K (h₀:=X.base) I.ok.mod.kin hk (thn (ha pos pins s σ H _ I h) fun us s1 ⟨vs,H1,I1,r,q⟩=>⟨I1.kIn,?_⟩) he hpl
 exact u3 F hr hb hd hx I1 r q
theorem W9 {pl:Sem Bool}(he:PE X o ta) (c:Cls X.K C) (hm:Meth X.K C m f) (F:FnOk X.prog X.w X.K X.mg X.base CX k f fd ps sp) (hr:Room k X.A) (hb:Binds X.K fd ps ds) (hd:Vals dvs ds) (hx:wF CX X E) (ha:PA X (e::es) t)
  (hst:starEach (e::es) X.env=(false,eval e X.env)::starEach es X.env:=by rfl) (hpl:(backTo pos (starEach es X.env)).any (·.1)=false:=by rfl)
  (ht:eval (.Call (.Attribute o m apos) (e::es) [] pos) X.env=(do
   let ov ← eval o X.env
   standAt apos.atName
   let (f,first) ← holding [ov] (getMethod ov m pl)
   callWith pos f first (backTo pos (starEach (e::es) X.env)) (backToKw pos (keywordEach [] X.env))):=by rfl) :
  PE X (.Call (.Attribute o m apos) (e::es) [] pos) (VP C m sp dvs E ta t):=by
 intro pins s σ H Q I h
 refine PySem.W.methodCall_KW (pl:=pl) (thn (he pins s σ H _ I h) fun u s1 hq0=>?_) ht
 obtain⟨x,H1,I1,rx,a,dx,fs,ex,ea,l,q⟩:=hq0
 subst ex
 obtain rfl:u=Value.ref a:=rx
 refine xw I1 ea c hm l ?_
 refine PySem.W.callWith_K (first:=[.ref a]) (h₀:=X.base) I.ok.mod.kin hm.kp (thn (ha pos pins s1 σ H1 _ I1 q) fun us s2 ⟨vs,H2,I2,r,q2⟩=>⟨I2.kIn,?_⟩) hst hpl
 exact u3 (us:=.ref a::us) (vs:=.ref a::vs) F hr hb hd hx I2 (.cons rfl r) q2
structure Mk (K:PySem.W.Frag) (C f:Addr):Prop where
 makes:PySem.W.makesIn K C=true
 init:PySem.W.findIn K (.ref C) "__init__" = some (some (.ref f))
 fn:PySem.W.isFn K (.ref f)=true
 kp:PySem.W.keepIn K (.ref C)=true
theorem Xo {pins:List (Addr×Obj)}{σ:St}{H:Hp}{s:Shared}{Q:VK}{us:List Value}{vs:List V}(M:Mk X.K C f) (F:FnOk X.prog X.w X.K X.mg X.base CX k f fd ps sp) (hr:Room (k+1) X.A) (hb:Binds X.K fd ps ds) (hd:Vals dvs ds)
  (hx:wF CX X E) (I:Inv X pins σ H s) (r:Vals vs us)
  (h:∀ x dx,H x=none→H dx=none→dx≠x→sp (.ref x::(vs++dvs)) (upd (upd H dx (.own x)) x (.ins C dx [])) (fun v H2=>v=.non∧Q (.ref x) H2) E) :
  wpAny (model X.prog X.w) X.A (call (.ref C) us) (EP X pins σ Q) X.xe s:=by
 have hq:=h (s.heap.objs.size+1) s.heap.objs.size (I.hok.fresh (Nat.le_succ _)) (I.hok.fresh (Nat.le_refl _)) (Nat.ne_of_lt (Nat.lt_succ_self _))
 have I2:=Inv.made (C:=C) I
 have r2:Vals (V.ref (s.heap.objs.size+1)::(vs++dvs)) (Value.ref (s.heap.objs.size+1)::(us++ds)):=.cons rfl (r.append hd)
 have hl:(Value.ref (s.heap.objs.size+1)::us++ds).length=ps.length:=by
  have e:=r2.length
  rw[F.len _ _ _ _ hq] at e
  exact e.symm
 refine wpAny_call (XE (f:=f) I.kIn M.makes M.init (beq_iff_eq.mp M.fn) (codeAny_mono (F.run _ X.stack _ _ ⟨Value.ref (s.heap.objs.size+1)::us,[]⟩ (Value.ref (s.heap.objs.size+1)::(us++ds)) _ _ E (hr.make C us [])
  (I2.env0.make C us []) (hb _ (Value.ref (s.heap.objs.size+1)::us) I2.kIn hl) r2 hq) fun r s' hq'=>?_))
 cases r with
 |error e=>exact hx pins σ _ _ e s' I2 hq'
 |ok fl =>
  cases fl with
  |ret u =>
   obtain⟨v,H',I3,rv,ev,q3⟩:=I2.after hq'
   subst ev
   exact⟨rv,⟨V.ref (s.heap.objs.size+1),H',I3,rfl,q3⟩⟩
  |next=>exact False.elim hq'
  |brk=>exact False.elim hq'
  |cont=>exact False.elim hq'
theorem Va (M:Mk X.K C f) (F:FnOk X.prog X.w X.K X.mg X.base CX k f fd ps sp) (hr:Room (k+1) X.A) (hg:Gl X x) (hm:X.mg x=some (.ref C)) (hb:Binds X.K fd ps ds) (hd:Vals dvs ds) (hx:wF CX X E)
  (ha:PA X (e::es) t) (hdb:(x == ("__debug__" : Str))=false:=by decide) (he:starEach (e::es) X.env=(false,eval e X.env)::starEach es X.env:=by rfl) (hpl:(backTo pos (starEach es X.env)).any (·.1)=false:=by rfl) :
  PE X (.Call (.Name x p) (e::es) [] pos) (VQ C sp dvs E t):=by
 intro pins s σ H Q I h
 refine wpAny_Call_Name_kw (ld_glob I hg hm ?_ hdb)
 refine PySem.W.callWith_K (h₀:=X.base) I.ok.mod.kin M.kp (thn (ha pos pins s σ H _ I h) fun us s1 ⟨vs,H1,I1,r,q⟩=>⟨I1.kIn,?_⟩) he hpl
 exact Xo M F hr hb hd hx I1 r q
end
structure FnScope (N P:List Str) (sc:Scope):Prop where
 kind:sc.kind=.function
 co:sc.isCoroutine=false
 gen:sc.isGenerator=false
 nd:N.Nodup
 pre:N.take P.length=P
 par:∀ x∈P,sc.names.lookup x=some .local∨sc.names.lookup x=some .cell
 nofree:∀ y∈sc.names,y.2≠.free
theorem ua {kindOf:Str→Option NameKind}{x:Str}:∀ {binds:List (Str×Value)}{m:Str→Option Value},(∀ v,(x,v)∉binds)→bindL kindOf binds m x=m x
 |[],_,_=>rfl
 |(n,v)::r,m,h=>by
  unfold bindL
  rw[ua fun w hw=>h w (List.mem_cons_of_mem _ hw)]
  split
  ·have:x≠n:=by rintro rfl;exact h v List.mem_cons_self
   simp[this]
  ·rfl
theorem bindC_out {kindOf:Str→Option NameKind}{x:Str}:∀ {binds:List (Str×Value)}{m:Str→Option Value},(∀ v,(x,v)∉binds)→bindC kindOf binds m x=m x
 |[],_,_=>rfl
 |(n,v)::r,m,h=>by
  unfold bindC
  rw[bindC_out fun w hw=>h w (List.mem_cons_of_mem _ hw)]
  split
  ·rfl
  ·have:x≠n:=by rintro rfl;exact h v List.mem_cons_self
   simp[this]
theorem bindL_get {kindOf:Str→Option NameKind}{x:Str}{v:Value}:∀ {P:List Str}{vs:List Value}{i:Nat}{m:Str→Option Value},P.Nodup→P[i]?=some x→vs[i]?=some v→kindOf x=some .local →
  bindL kindOf (P.zip vs) m x=some v
 |[],_,_,_,_,h,_,_=>by simp at h
 |_::_,[],_,_,_,_,h,_=>by simp at h
 |p::P,w::vs,0,m,nd,h1,h2,hk=>by
  simp at h1 h2;subst h1;subst h2
  show bindL kindOf ((p,w)::P.zip vs) m p=_
  unfold bindL
  rw[ua fun v hv=>(List.nodup_cons.mp nd).1 (List.of_mem_zip hv).1,if_pos hk]
  simp
 |p::P,w::vs,i+1,m,nd,h1,h2,hk=>by
  show bindL kindOf ((p,w)::P.zip vs) m x=_
  unfold bindL
  exact bindL_get (i:=i) (List.nodup_cons.mp nd).2 (by simpa using h1) (by simpa using h2) hk
theorem ub {kindOf:Str→Option NameKind}{x:Str}{v:Value}:∀ {P:List Str}{vs:List Value}{i:Nat}{m:Str→Option Value},P.Nodup→P[i]?=some x→vs[i]?=some v→kindOf x≠some .local →
  bindC kindOf (P.zip vs) m x=some v
 |[],_,_,_,_,h,_,_=>by simp at h
 |_::_,[],_,_,_,_,h,_=>by simp at h
 |p::P,w::vs,0,m,nd,h1,h2,hk=>by
  simp at h1 h2;subst h1;subst h2
  show bindC kindOf ((p,w)::P.zip vs) m p=_
  unfold bindC
  rw[bindC_out fun v hv=>(List.nodup_cons.mp nd).1 (List.of_mem_zip hv).1,if_neg hk]
  simp
 |p::P,w::vs,i+1,m,nd,h1,h2,hk=>by
  show bindC kindOf ((p,w)::P.zip vs) m x=_
  unfold bindC
  exact ub (i:=i) (List.nodup_cons.mp nd).2 (by simpa using h1) (by simpa using h2) hk
def start (N:List Str) (vs:List V):St:=vs.map some++List.replicate (N.length-vs.length) none
def VB (CX:CXT) (P:Program) (w:World) (K:PySem.W.Frag) (mg:Str→Option Value) (base:Heap) (N:List Str) (qual:Str) (scope:Scope) (f:Addr) (cd:Value) (A:Around) (outer:List Env) (s:Shared) (H:Hp) (E:XK):Cx where
 prog:=P
 w:=w
 K:=K
 mg:=mg
 base:=base
 A:=A.deeper (envOfC qual scope s.heap.objs.size f cd)
 N:=N
 s₀:=s
 H₀:=H
 env:=envOfC qual scope s.heap.objs.size f cd
 outer:=outer
 stack:=envOfC qual scope s.heap.objs.size f cd::outer
 ex:=[]
 calm:=true
 fn:=fun _=>true
 pn:=[]
 xe:=fun e s'=>wpAny (model P w) (A.deeper (envOfC qual scope s.heap.objs.size f cd)) (leaving (envOfC qual scope s.heap.objs.size f cd) e) (fun _ s''=>CX outer H s E e s'') (fun e' s''=>CX outer H s E e' s'') s'
theorem Zp {sc:Scope}{n:Nat}{x:Str}(h:sc.names.lookup x=some .cell):∃ c,(cellsFrom n sc.names []).lookup x=some c:=by
 have q:=PySem.W.cellsFrom_some sc.names n [] (.inl h)
 exact Option.isSome_iff_exists.mp q
theorem YR {CX:CXT}{P:Program}{w:World}{K:PySem.W.Frag}{mg:Str→Option Value}{base:Heap}{N ps:List Str}{qual:Str}{scope:Scope}{f:Addr}{cd:Value}{A:Around}{outer:List Env}{s s1:Shared}{H:Hp}{E:XK}{us:List Value}{vs:List V}
  (S:FnScope N ps scope) (hd:A.handled=none) (e0:Env0 P w K mg base A outer s H) (hl:vs.length=ps.length) (r:Vals vs us)
  (x:InCallC s s.heap.objs.size (bindL (envOfC qual scope s.heap.objs.size f cd).kindOf (ps.zip us) fun _=>none) (cellsFrom (s.heap.objs.size+1) scope.names []) (bindC (envOfC qual scope s.heap.objs.size f cd).kindOf (ps.zip us) fun _=>none) s1) :
  Inv (VB CX P w K mg base N qual scope f cd A outer s H E) [] (start N vs) H s1:=by
 have hpl:ps.length≤N.length:=by have:=congrArg List.length S.pre;rw[List.length_take] at this;omega
 obtain⟨h1,tk,rfl,hk⟩:=x.done
 have noA:∀ b:Addr,b∉(VB CX P w K mg base N qual scope f cd A outer s H E).ex:=fun b z=>absurd (show b∈([]:List Addr) from z) (by simp)
 refine⟨⟨e0.mod,S.kind,rfl,rfl,Nat.le_refl _,fun y z c h1 h2=>?_,fun y hy=>?_,fun y c _ h=>?_,fun _=>hd,Around.frames_deeper e0.frames,.inr ⟨rfl,rfl⟩,fun b z=>absurd z (noA b),e0.bs,e0.bsz,fun b _ _=>noA b,fun b z=>absurd z (noA b),e0.funs,e0.frf⟩,
  rfl,e0.bare,Un.kept hk,⟨_,x.toInCall.ns,fun i y v h1 h2 h3=>?_⟩,fun y c h=>⟨_,x.cell y c h⟩,e0.hok.fresh (Nat.le_refl _),fun y c h=>?_,fun p hp=>absurd (show p∈([]:List (Addr×Obj)) from hp) (by simp),e0.hok.kept hk,?_⟩
 ·exact name_of_addr x.apart (PySem.mem_of_lookup h1) (PySem.mem_of_lookup h2)
 ·have hy:scope.names.lookup y=some .cell∨scope.names.lookup y=some .free:=hy
  rcases hy with hy | hy
  ·exact Zp hy
  ·exact absurd rfl (S.nofree _ (PySem.mem_of_lookup hy))
 ·exact Nat.le_of_lt (x.above y c (PySem.mem_of_lookup h))
 ·have hi:i<vs.length:=by
   unfold start at h2
   by_cases hi:i<vs.length
   ·exact hi
   ·rw[List.getElem?_append_right (by simpa using hi)] at h2
    rw[List.getElem?_replicate] at h2
    split at h2<;>cases h2
  have ha:vs[i]?=some v:=by
   unfold start at h2
   rw[List.getElem?_append_left (by simpa using hi),List.getElem?_map] at h2
   cases e:vs[i]? with
   |none=>rw[e] at h2;cases h2
   |some a=>rw[e] at h2;cases h2;rfl
  obtain⟨u,hu,rv⟩:=r.get ha
  have hp:ps[i]?=some y:=by
   rw[← S.pre,List.getElem?_take_of_lt (by omega)];exact h1
  have ndP:ps.Nodup:=by rw[← S.pre];exact S.nd.sublist (List.take_sublist _ _)
  refine⟨u,rv,?_⟩
  rcases S.par y (List.mem_of_getElem? hp) with k | k
  ·exact .inl ⟨k,bindL_get ndP hp hu k⟩
  ·obtain⟨c,e⟩:=Zp (n:=s.heap.objs.size+1) k
   refine .inr ⟨.inl k,c,e,?_⟩
   have q:=x.cell y c e
   rw[ub ndP hp hu (by show scope.names.lookup y≠_;rw[k];decide)] at q
   exact q
 ·exact e0.hok.fresh (Nat.le_of_lt (x.above y c (PySem.mem_of_lookup h)))
 ·unfold start
  show _=N.length
  rw[List.length_append,List.length_map,List.length_replicate]
  omega
theorem zaC {CX:CXT}{P:Program}{w:World}{K:PySem.W.Frag}{mg:Str→Option Value}{base:Heap}{k:Nat}{f:Addr}{name qual:Str}{params:Arguments}{body:List Stmt}{scope:Scope}{dV kV doc pm cdv ct oc:Value}{an od:Option Addr}
  {osl:Array (Option Value)}{N ps:List Str}{sp:Sp}(lk:K.lookup f=some ⟨oc,od,.func (PySem.W.fnOf name qual params body scope dV kV doc pm an cdv ct),osl⟩) (hcd:PySem.W.codeIn K cdv qual=true) (S:FnScope N ps scope)
  (len:∀ vs H Q E,sp vs H Q E→vs.length=ps.length)
  (hbody:∀ (A:Around) (outer:List Env) (s:Shared) (H:Hp) (vs:List V) (Q:VK) (E:XK),Room k (A.deeper (envOfC qual scope s.heap.objs.size f cdv))→sp vs H Q E →
   ∃ t,PSs (VB CX P w K mg base N qual scope f cdv A outer s H E) body t∧t { nx:=fun _ H'=>Q .non H',rt:=Q } (start N vs) H) :
  FnOk P w K mg base CX (k+1) f (PySem.W.fnOf name qual params body scope dV kV doc pm an cdv ct) ps sp:=by
 refine⟨len,fun A outer s H args us vs Q E hr e0 hb r hsp=>?_⟩
 have hl:=len _ _ _ _ hsp
 have KX:K.In s.heap:=e0.mod.kin.keeps fun b o e=>(e0.bs b o e).1
 have lim:s.heap.NoLimit:=e0.mod.nolimit.keeps fun b o e=>(e0.bs b o e).1
 have hkind:∀ y∈ps.zip us,scope.names.lookup y.1=some .local∨(scope.names.lookup y.1=some .cell∧((cellsFrom (s.heap.objs.size+1) scope.names []).lookup y.1).isSome=true):=fun⟨n,v⟩ hy=>by
  rcases S.par n (List.of_mem_zip hy).1 with q | q
  ·exact .inl q
  ·exact .inr ⟨q,PySem.W.cellsFrom_some _ _ _ (.inl q)⟩
 refine codeAny_call_function hr.depth (KX _ _ lk) rfl S.co S.gen rfl (PySem.W.codeRec_of KX hcd) (hb _ _ _ _ ?_)
 refine wpAny_newFunctionEnv_cells S.kind hkind fun env he s1 x=>?_
 subst he
 refine⟨lim.keeps x.toInCall.keep,codeAny_func ?_⟩
 obtain⟨t,ht,hq⟩:=hbody A outer s H vs Q E (hr.deeper _) hsp
 have I:Inv (VB CX P w K mg base N qual scope f cdv A outer s H E) [] (start N vs) H s1:=YR S hr.hd e0 hl r x
 refine wpAny_mono (ht [] s1 (start N vs) H _ I hq) (fun fl s' hs=>?_) fun e s' hs=>hs
 have fin:∀ {σ':St}{H':Hp}{v:V}{u:Value},Inv (VB CX P w K mg base N qual scope f cdv A outer s H E) [] σ' H' s'→RelV v u→Q v H'→CE outer P w H s Q u s' :=
  fun {σ' H' v u} J rv q=>⟨v,H',J.os,J.bare,J.base,J.hok,rv,q⟩
 cases fl with
 |ret u =>
  obtain⟨v,σ',H',J,rv,q⟩:=hs
  exact fin J rv q
 |next =>
  obtain⟨σ',H',J,q⟩:=hs
  exact fin (v:=V.non) (u:=Value.none) J rfl q
 |brk =>
  obtain⟨_,_,_,q⟩:=hs
  exact False.elim q
 |cont =>
  obtain⟨_,_,_,q⟩:=hs
  exact False.elim q
section
variable {X:Cx}{x:Str}{p pos:Pos}{e:Expr}{es:List Expr}{t:TA}{id T:String}{r:List V→Hp→VK→Prop}
def tCB (r:List V→Hp→VK→Prop) (t:TA):TE:=fun σ H Q=>t σ H fun vs H1=>r vs H1 Q
theorem yE (hc:xb X (.builtin id) r) (hg:Gl X x) (hm:X.mg x=none) (hv:bootBuiltins x=some (.builtin id)) (ha:PA X (e::es) t) (hn:x ≠ "__name__" := by decide) (hdb:(x == ("__debug__" : Str))=false:=by decide)
  (he:starEach (e::es) X.env=(false,eval e X.env)::starEach es X.env:=by rfl) (hpl:(backTo pos (starEach es X.env)).any (·.1)=false:=by rfl):PE X (.Call (.Name x p) (e::es) [] pos) (tCB r t):=by
 intro pins s σ H Q I h
 refine wpAny_Call_Name_kw (ld_blt I hg hm hv ?_ hn hdb)
 exact PyProof.Rows.callWith_builtin1 (thn (ha pos pins s σ H _ I h) fun us s1 ⟨vs,H1,I1,r1,q1⟩=>hc pins s1 σ H1 vs us Q I1 r1 q1) he hpl
theorem vN (hc:xb X (.type T) r) (hg:Gl X x) (hm:X.mg x=none) (hv:bootBuiltins x=some (.type T)) (ha:PA X (e::es) t) (hn:x ≠ "__name__" := by decide) (hdb:(x == ("__debug__" : Str))=false:=by decide)
  (he:starEach (e::es) X.env=(false,eval e X.env)::starEach es X.env:=by rfl) (hpl:(backTo pos (starEach es X.env)).any (·.1)=false:=by rfl):PE X (.Call (.Name x p) (e::es) [] pos) (tCB r t):=by
 intro pins s σ H Q I h
 refine wpAny_Call_Name_kw (ld_blt I hg hm hv ?_ hn hdb)
 exact PyProof.Rows.callWith_type1 (thn (ha pos pins s σ H _ I h) fun us s1 ⟨vs,H1,I1,r1,q1⟩=>hc pins s1 σ H1 vs us Q I1 r1 q1) he hpl
end
end L2
namespace HT
open PySem PyProof.Rows
section
variable {prog:Program}{w:World}{A:Around}{E:Value→Shared→Prop}{s:Shared}
theorem cat_tup {t b:Addr}{vs ws:List Value}{Q:Value→Shared→Prop}(ht:IsTup s.heap t vs.toArray) (hb:IsTup s.heap b ws.toArray) (hv:vs≠[])
  (h1:ws=[]→Q (.ref t) s) (h2:ws≠[]→Q (.ref s.heap.objs.size) { s with heap:=s.heap.push { cls:=.type "tuple",data:=.seq (vs++ws).toArray } })
  (hsz:vs.length+ws.length≤sizeLine):wpAny (model prog w) A (binaryOp .Add (.ref t) (.ref b)) Q E s:=by
 obtain⟨⟨cls,dd,data,sl⟩,ho,hc,n,hd⟩:=id ht
 obtain⟨⟨cls2,dd2,data2,sl2⟩,ho2,hc2,n2,hd2⟩:=id hb
 simp only at hc hd hc2 hd2
 subst hc hd hc2 hd2
 have e:vs.toArray++ws.toArray=(vs++ws).toArray:=by simp
 by_cases hw:ws=[]
 ·exact concat_meets ⟨_,ho,rfl⟩ ⟨_,ho2,rfl⟩ noFill_tuple_add seq_tuple_add PySem.F.slot_tuple_add PySem.F.entry_tuple_add (PySem.F.args_tuple_add_2 _ _)
   (tuple_addW1 t b vs.toArray ws.toArray n n2 dd dd2 sl sl2 (by simpa using hv) (by simp[hw])) ⟨ho,ho2,h1 hw⟩
 ·refine concat_meets ⟨_,ho,rfl⟩ ⟨_,ho2,rfl⟩ noFill_tuple_add seq_tuple_add PySem.F.slot_tuple_add PySem.F.entry_tuple_add (PySem.F.args_tuple_add_2 _ _)
   (tuple_addW2 t b vs.toArray ws.toArray n n2 dd dd2 sl sl2 (by simpa using hv) (by simpa using hw) (by rw[List.size_toArray,List.size_toArray];exact hsz)) ⟨ho,ho2,?_⟩
  rw[e]
  exact h2 hw
def sIx (n d:Nat):Option Int→Nat
 |none=>d
 |some v=>if v<0 then(v+(n:Int)).toNat else min v.toNat n
end
end HT
namespace L2
open PySem PySem.Spec PyProof.Rows
abbrev TO:=St→Hp→(Option Int→Hp→Prop)→Prop
def PO (X:Cx) (e:Option Expr) (t:TO):Prop :=
 ∀ (pins:List (Addr×Obj)) (s:Shared) (σ:St) (H:Hp) (Q:Option Int→Hp→Prop),Inv X pins σ H s→t σ H Q →
  wpAny (model X.prog X.w) X.A (evalPart e X.env) (fun u s'=>∃ o H',Inv X pins σ H' s'∧IsPart u o∧Q o H') X.xe s
def wk:TO:=fun _ H Q=>Q none H
def Z0 (t:TE):TO:=fun σ H Q=>t σ H fun x H1=>∃ i,x=.int i∧Q (some i) H1
section
variable {X:Cx}{e:Expr}{te:TE}{lo hi:Option Expr}{tl th:TO}{pos p2:Pos}
theorem yf  : Bx (PO X none wk):=by
 refine⟨?_⟩
 intro pins s σ H Q I h
 rw[evalPart_none]
 exact wpAny_pure ⟨none,H,I,.none,h⟩
theorem w_po_some (h:Bx (PE X e te)):Bx (PO X (some e) (Z0 te)):=by
 have h:=h.of
 refine⟨?_⟩
 intro pins s σ H Q I hw
 rw[evalPart_some]
 refine thn (h pins s σ H _ I hw) fun u s1 hq0=>?_
 obtain⟨x,H1,I1,r1,q1⟩:=hq0
 obtain⟨i,rfl,q⟩:=q1
 obtain⟨t,rfl⟩:=r1
 exact⟨some i,H1,I1,.int i t,q⟩
def SlR (X:Cx) (r:V→Option Int→Option Int→Hp→VK→Prop):Prop :=
 ∀ (pins:List (Addr×Obj)) (s:Shared) (σ:St) (H:Hp) (x:V) (v vl vu:Value) (lo hi:Option Int) (sl:Addr) (Q:VK),Inv X pins σ H s→RelV x v→s.heap.IsSliceOf sl vl vu .none→IsPart vl lo→IsPart vu hi→r x lo hi H Q →
  ∃ T id,typeLookup (.type T) "__getitem__" = pure (some (.builtin id))∧s.TypeIs v T∧wpAny (model X.prog X.w) X.A (getItem v (.ref sl)) (EP X pins σ Q) X.xe s
def tSl (r:V→Option Int→Option Int→Hp→VK→Prop) (te:TE) (tl th:TO):TE:=fun σ H Q=>te σ H fun x H1=>tl σ H1 fun l H2=>th σ H2 fun u H3=>r x l u H3 Q
theorem zP {r:V→Option Int→Option Int→Hp→VK→Prop}(hr:SlR X r) (he:Bx (PE X e te)) (hl:Bx (PO X lo tl)) (hu:Bx (PO X hi th)):Bx (PE X (.Subscript e (.Slice lo hi none p2) pos) (tSl r te tl th)):=by
 have he:=he.of
 have hl:=hl.of
 have hu:=hu.of
 refine⟨?_⟩
 intro pins s σ H Q I h
 refine Subscript_ (thn (he pins s σ H _ I h) fun v s1 hq0=>?_)
 obtain⟨x,H1,I1,r1,q1⟩:=hq0
 refine wpAny_Slice (thn (hl pins s1 σ H1 _ I1 q1) fun vl s2 ⟨l,H2,I2,pl,q2⟩=>thn (hu pins s2 σ H2 _ I2 q2) fun vu s3 hq0=>?_)
 obtain⟨u,H3,I3,pu,q3⟩:=hq0
 rw[evalPart_none]
 refine wpAny_pure ?_
 have I4:Inv X pins σ H3 { s3 with heap:=s3.heap.push { cls:=.type "slice",data:=.fields #[vl,vu,.none] } }:=I3.kept (t':=s3.toks) fun b ob q=>Heap.get?_push_of_some _ q
 obtain⟨T,id,hT,ht,hg⟩:=hr pins { s3 with heap:=s3.heap.push { cls:=.type "slice",data:=.fields #[vl,vu,.none] } } σ H3 x v vl vu l u s3.heap.objs.size Q I4 r1 (Heap.IsSliceOf.new ..) pl pu q3
 show wpAny (model X.prog X.w) X.A (subscriptTail e (.Slice lo hi none p2) v (.ref s3.heap.objs.size)) (EP X pins σ Q) X.xe { s3 with heap:=s3.heap.push { cls:=.type "slice",data:=.fields #[vl,vu,.none] } }
 exact tail_any (ops:=[.ref s3.heap.objs.size,v]) ht hT hg (by with_unfolding_all rfl)
def cutV (xs:List V) (lo hi:Option Int):List V:=(xs.drop (HT.sIx xs.length 0 lo)).take (HT.sIx xs.length xs.length hi-HT.sIx xs.length 0 lo)
theorem yB (xs:List V) (lo hi:Option Int):(cutV xs lo hi).length≤xs.length:=by
 unfold cutV
 rw[List.length_take,List.length_drop]
 omega
def V8 (K:PySem.W.Frag):R2:=fun x y H Q=>∃ a b xs ys,x=.ref a∧y=.ref b∧SqT K H a xs∧SqT K H b ys∧xs≠[]∧xs.length+ys.length≤sizeLine ∧
 (ys=[]→Q (.ref a) H)∧(ys≠[]→∀ p,H p=none→Q (.ref p) (upd H p (.tup (xs++ys))))
theorem Vals.nil_iff {xs:List V}{us:List Value}(r:Vals xs us):us=[]↔xs=[]:=by
 cases r with
 |nil=>simp
 |cons _ _=>simp
theorem Vf:OpR X (binaryOp .Add) (V8 X.K):=by
 intro pins s σ H x y v u Q I rx ry h
 obtain⟨a,b,xs,ys,rfl,rfl,ha,hb,hx,hz,q1,q2⟩:=h
 cases rx
 cases ry
 obtain⟨its,r1,p1,_⟩:=I.tuple ha
 obtain⟨its2,r2,p2,_⟩:=I.tuple hb
 refine HT.cat_tup p1 p2 (fun z=>hx (r1.nil_iff.mp z)) (fun z=>⟨.ref a,H,I,rfl,q1 (r2.nil_iff.mp z)⟩) (fun z=>?_) (by rw[← r1.length,← r2.length];exact hz)
 refine⟨.ref s.heap.objs.size,_,I.laid (t':=s.toks) (o:=.tup (xs++ys)) (fun b ob q=>Heap.get?_push_of_some _ q) (Nat.le_refl _) ?_,rfl,q2 (fun w=>z (r2.nil_iff.mpr w)) _ (I.hok.fresh (Nat.le_refl _))⟩
 exact⟨by rw[List.length_append];exact hz,_,r1.append r2,IsTup.new _ _⟩
end
def ixN (n:Nat) (i:Int):Option Nat:=if 0≤i then(if i<n then some i.toNat else none) else if -(n:Int)≤i then some (i+n).toNat else none
def atI {α:Type}(xs:List α) (i:Int):Option α:=(ixN xs.length i).bind fun j=>xs[j]?
theorem YN {n:Nat}{i:Int}{j:Nat}(h:ixN n i=some j):seqIndex? i n=some j∧j<n∧-(n:Int)≤i∧i<n:=by
 unfold ixN at h
 by_cases h0:0≤i
 ·rw[if_pos h0] at h
  by_cases h1:i<n
  ·rw[if_pos h1] at h
   have e:i.toNat=j:=Option.some.inj h
   exact⟨by rw[seqIndex_of h0 h1,e],by omega,by omega,h1⟩
  ·rw[if_neg h1] at h;cases h
 ·rw[if_neg h0] at h
  by_cases h1 : -(n:Int)≤i
  ·rw[if_pos h1] at h
   have e:(i+n).toNat=j:=Option.some.inj h
   exact⟨by rw[seqIndex_neg (by omega) h1,e],by omega,h1,by omega⟩
  ·rw[if_neg h1] at h;cases h
theorem Y6 {α:Type}{xs:List α}{i:Int}{v:α}(h:atI xs i=some v):∃ j,seqIndex? i xs.length=some j∧xs[j]?=some v∧j<xs.length∧-(xs.length:Int)≤i∧i<xs.length:=by
 unfold atI at h
 cases e:ixN xs.length i with
 |none=>rw[e] at h;cases h
 |some j =>
  rw[e] at h
  obtain⟨h1,h2,h3,h4⟩:=YN e
  exact⟨j,h1,h,h2,h3,h4⟩
theorem zW {α:Type}{xs:List α}{j:Nat}{v:α}(h:xs[j]?=some v):atI xs (j:Int)=some v:=by
 have hj:j<xs.length:=(List.getElem?_eq_some_iff.mp h).1
 have e:ixN xs.length (j:Int)=some j:=by
  unfold ixN
  rw[if_pos (by omega),if_pos (by omega)];simp
 unfold atI;rw[e];exact h
def Xa (b:Expr):Prop:=∀ o i,subscripted b false o i=operate [o,i] (getItem o i)
def IxR (X:Cx) (r:R2):Prop :=
 ∀ (value slice:Expr) (pins:List (Addr×Obj)) (s:Shared) (σ:St) (H:Hp) (x y:V) (v u:Value) (Q:VK),Inv X pins σ H s→RelV x v→RelV y u→r x y H Q →
  subscripted slice false v u=operate [v,u] (getItem v u)→wpAny (model X.prog X.w) X.A (subscriptTail value slice v u) (EP X pins σ Q) X.xe s
def MtR (X:Cx) (id:String) (r:V→List V→Hp→VK→Prop):Prop :=
 ∀ (pins:List (Addr×Obj)) (s:Shared) (σ:St) (H:Hp) (x:V) (xs:List V) (v:Value) (us:List Value) (Q:VK),Inv X pins σ H s→RelV x v→Vals xs us→r x xs H Q →
  wpAny (model X.prog X.w) X.A (call (.builtin id) (v::us)) (EP X pins σ Q) X.xe s
section
variable {X:Cx}{a b:Expr}{ta tb:TE}{pos:Pos}
theorem ur {r:R2}(hr:IxR X r) (ha:PE X a ta) (hb:PE X b tb) (hs:Xa b):PE X (.Subscript a b pos) (tOp r ta tb):=by
 intro pins s σ H Q I h
 exact Subscript_ (binT ha hb I h fun v u s2 x y H2 I2 rx ry q=>hr a b pins s2 σ H2 x y v u Q I2 rx ry q (hs _ _))
def u6 (K:PySem.W.Frag):R2:=fun x y H Q=>∃ p xs i v,x=.ref p∧y=.int i∧SqL K H p xs∧atI xs i=some v∧Q v H
def WZ (K:PySem.W.Frag):R2:=fun x y H Q=>∃ p xs i v,x=.ref p∧y=.int i∧SqT K H p xs∧atI xs i=some v∧Q v H
theorem zF:IxR X (u6 X.K):=by
 intro value slice pins s σ H x y v u Q I rx ry h hs
 obtain⟨p,xs,i,z,rfl,rfl,hq,he,q⟩:=h
 cases rx
 obtain⟨t,rfl⟩:=ry
 obtain⟨its,r,pl,hz⟩:=I.list hq
 obtain⟨j,h1,h2,h3,h4,h5⟩:=Y6 he
 obtain⟨w,ew,rw'⟩:=r.get h2
 have hl:=r.length
 have hn:=Zi
 have fin:EP X pins σ Q w s:=⟨z,H,I,rw',q⟩
 by_cases h0:0≤i
 ·have hj:i.toNat=j:=by
   rw[seqIndex_of h0 h5] at h1
   exact Option.some.inj h1
  exact item_listR pl.isList h0 (by omega) (by rw[hj];simpa using ew) fin hs
 ·have hj:(i+(its.toArray.size:Int)).toNat=j:=by
   rw[seqIndex_neg (by omega) h4] at h1
   rw[List.size_toArray,← hl]
   exact Option.some.inj h1
  exact subscriptTail_builtinR (x:=w) pl.isList.typeIs slot_list_getitem.lookup
   (wpAny_getItem_list_neg (Q:=fun r s'=>r=w∧EP X pins σ Q r s') pl.isList (by omega) (by rw[List.size_toArray]<;>omega) (by omega) (by rw[hj];simpa using ew) ⟨rfl,fin⟩) hs
theorem yc:IxR X (WZ X.K):=by
 intro value slice pins s σ H x y v u Q I rx ry h hs
 obtain⟨p,xs,i,z,rfl,rfl,hq,he,q⟩:=h
 cases rx
 obtain⟨t,rfl⟩:=ry
 obtain⟨its,r,pl,hz⟩:=I.tuple hq
 obtain⟨j,h1,h2,h3,h4,h5⟩:=Y6 he
 obtain⟨w,ew,rw'⟩:=r.get h2
 have hl:=r.length
 have hn:=Zi
 have fin:EP X pins σ Q w s:=⟨z,H,I,rw',q⟩
 exact subscriptTail_builtinR (x:=w) pl.typeIs slot_tuple_getitem.lookup
  (getItem_tuple (j:=j) (Q:=fun r s'=>r=w∧EP X pins σ Q r s') pl (by omega) (by omega) (by rw[List.size_toArray,← hl];exact h1) (by simpa using ew) ⟨rfl,fin⟩) hs
theorem ZH (its:List Value) (n j:Nat) (u:Value):Obj.mapSeq (·.setIfInBounds j u) { cls:=.type "list",data:=.seq its.toArray n }={ cls:=.type "list",data:=.seq (its.set j u).toArray n }:=by
 simp[Obj.mapSeq]
theorem Inv.lst {pins:List (Addr×Obj)}{σ:St}{H:Hp}{s:Shared}{p:Addr}{xs:List V}(I:Inv X pins σ H s) (h:H p=some (.lst xs)) :
  ∃ (its:List Value) (n:Nat),Vals xs its∧s.heap.get? p=some { cls:=.type "list",data:=.seq its.toArray n }∧xs.length≤sizeLine:=by
 obtain⟨z,its,n,r,e⟩:=I.hok p _ h
 exact⟨its,n,r,e,z⟩
theorem Inv.lstUpd {pins:List (Addr×Obj)}{σ:St}{H:Hp}{s:Shared}{p:Addr}{xs ys:List V}{its its':List Value}{n n':Nat}{f:Obj→Obj}(I:Inv X pins σ H s) (h:H p=some (.lst xs))
  (ho:s.heap.get? p=some { cls:=.type "list",data:=.seq its.toArray n }) (hf:f { cls:=.type "list",data:=.seq its.toArray n }={ cls:=.type "list",data:=.seq its'.toArray n' }) (r:Vals ys its') (hz:ys.length≤sizeLine) (t:Nat) :
  Inv X pins σ (upd H p (.lst ys)) { s with heap:=s.heap.update p f,toks:=t }:=by
 have e:(s.heap.update p f).get? p=some { cls:=.type "list",data:=.seq its'.toArray n' }:=by
  rw[Heap.get?_update_self f ho (by rw[hf]<;>rfl),hf]
 refine I.write (x:=p) (e:=p) (by rw[h];trivial) (.inl rfl) (fun b u hb q=>(Heap.get?_update_other _ _ (Ne.symm hb)).trans q) ⟨_,e⟩ ?_
 exact⟨hz,its',n',r,e⟩
def WX:V→V→V→Hp→(Hp→Prop)→Prop:=fun o i v H Q=>∃ p xs k j,o=.ref p∧i=.int k∧H p=some (.lst xs)∧ixN xs.length k=some j∧Q (upd H p (.lst (xs.set j v)))
theorem u0:zaI X WX:=by
 intro pins s σ H o i v ov iv u Q I ro ri rv h
 obtain⟨p,xs,k,j,rfl,rfl,hp,hj,q⟩:=h
 cases ro
 obtain⟨t,rfl⟩:=ri
 obtain⟨its,n,r,ho,hz⟩:=I.lst hp
 obtain⟨h1,h2,h3,h4⟩:=YN hj
 have hl:=r.length
 have hn:=Zi
 have I':Inv X pins σ (upd H p (.lst (xs.set j v))) { s with heap:=s.heap.update p (Obj.mapSeq (·.setIfInBounds j u)) } :=
  I.lstUpd hp ho (ZH its n j u) (r.set rv j) (by rw[List.length_set];exact hz) s.toks
 by_cases h0:0≤k
 ·have hk:k.toNat=j:=by
   rw[seqIndex_of h0 h4] at h1
   exact Option.some.inj h1
  exact PySem.W.ki_setAt ho h0 (by omega) (by rw[List.size_toArray,← hl];exact h4) (by rw[hk];exact⟨_,I',q⟩)
 ·have hk:(k+(its.toArray.size:Int)).toNat=j:=by
   rw[seqIndex_neg (by omega) h3] at h1
   rw[List.size_toArray,← hl]
   exact Option.some.inj h1
  exact PySem.W.ki_setBack ho (by omega) (by rw[List.size_toArray,← hl];exact h3) (by omega) (by rw[hk];exact⟨_,I',q⟩)
theorem vG (lo hi:Option Int) (n:Nat):(sliceBounds lo hi none n).1=((HT.sIx n 0 lo:Nat):Int)∧(sliceBounds lo hi none n).2.1=((HT.sIx n n hi:Nat):Int)∧(sliceBounds lo hi none n).2.2=1:=by
 refine⟨?_,?_,rfl⟩
 ·cases lo with
  |none=>simp[sliceBounds,HT.sIx]
  |some i =>
   simp only[sliceBounds,HT.sIx,Option.getD_none,show(1:Int)>0 by decide,if_true]
   by_cases h:i<0
   ·simp only[h,if_true]<;>omega
   ·simp only[h,if_false]<;>omega
 ·cases hi with
  |none=>simp[sliceBounds,HT.sIx]
  |some i =>
   simp only[sliceBounds,HT.sIx,Option.getD_none,show(1:Int)>0 by decide,if_true]
   by_cases h:i<0
   ·simp only[h,if_true]<;>omega
   ·simp only[h,if_false]<;>omega
theorem vd (its:List Value) (lo hi:Option Int):slicePick its.toArray lo hi none=((its.drop (HT.sIx its.length 0 lo)).take (HT.sIx its.length its.length hi-HT.sIx its.length 0 lo)).toArray:=by
 obtain⟨h1,h2,h3⟩:=vG lo hi its.toArray.size
 unfold slicePick
 rw[h1,h2,h3]
 simp only[sliceRange_one,pick_run,List.size_toArray]<;>rfl
def Vz (K:PySem.W.Frag):V→Option Int→Option Int→Hp→VK→Prop:=fun x lo hi H Q=>∃ a xs,x=.ref a∧SqL K H a xs∧∀ p,H p=none→Q (.ref p) (upd H p (.lst (cutV xs lo hi)))
theorem yz:SlR X (Vz X.K):=by
 intro pins s σ H x v vl vu lo hi sl Q I rx hs pl pu h
 obtain⟨a,xs,rfl,hx,q⟩:=h
 cases rx
 obtain⟨its,r,ht,hz⟩:=I.list hx
 have hlen:=r.length
 refine⟨"list",_,slot_list_getitem.lookup,ht.isList.typeIs,?_⟩
 refine wpAny_getItem_list_slice ht.isList hs pl pu .none (by simp) ?_ (by rw[List.size_toArray]<;>omega)
 rw[vd,← hlen]
 refine⟨.ref s.heap.objs.size,_,I.laid (t':=s.toks) (o:=.lst (cutV xs lo hi)) (fun b ob q=>Heap.get?_push_of_some _ q) (Nat.le_refl _) ?_,rfl,q _ (I.hok.fresh (Nat.le_refl _))⟩
 exact⟨Nat.le_trans (yB xs lo hi) hz,_,0,(r.drop (HT.sIx xs.length 0 lo)).take (HT.sIx xs.length xs.length hi-HT.sIx xs.length 0 lo),Heap.get?_push_size _ rfl⟩
def wC:V→Bool
 |.non=>true
 |.bl _=>true
 |.int _=>true
 |.str _=>true
 |_=>false
def eqV:V→V→Bool
 |.non,.non=>true
 |.bl a,.bl b=>a == b
 |.bl a,.int b=>(if a then 1 else 0) == b
 |.int a,.bl b=>a == (if b then 1 else 0)
 |.int a,.int b=>a == b
 |.str a,.str b=>a == b
 |_,_=>false
theorem eqAt_V {A:Around}{s:Shared}{y x:V}{u v:Value}(ry:RelV y u) (rx:RelV x v) (fy:wC y=true) (fx:wC x=true):SeqAt.EqAt A s u v (eqV y x):=by
 cases y with
 |non =>
  cases ry
  cases x with
  |non=>cases rx;exact SeqAt.EqAt.same _
  |bl b=>cases rx;exact SeqAt.EqAt.none_bool b
  |int b=>obtain⟨t,rfl⟩:=rx;exact SeqAt.EqAt.none_int b t
  |str b=>obtain⟨t,rfl⟩:=rx;exact SeqAt.EqAt.none_str b t
  |_=>exact absurd (show false=true from fx) Bool.false_ne_true
 |bl a =>
  cases ry
  cases x with
  |non=>cases rx;exact SeqAt.EqAt.bool_none a
  |bl b=>cases rx;exact SeqAt.EqAt.bool_bool a b
  |int b=>obtain⟨t,rfl⟩:=rx;exact SeqAt.EqAt.bool_int a b t
  |str b=>obtain⟨t,rfl⟩:=rx;exact SeqAt.EqAt.bool_str a b t
  |_=>exact absurd (show false=true from fx) Bool.false_ne_true
 |int a =>
  obtain⟨t',rfl⟩:=ry
  cases x with
  |non=>cases rx;exact SeqAt.EqAt.int_none a t'
  |bl b=>cases rx;exact SeqAt.EqAt.int_bool a t' b
  |int b=>obtain⟨t,rfl⟩:=rx;exact SeqAt.EqAt.int_int a t' b t
  |str b=>obtain⟨t,rfl⟩:=rx;exact SeqAt.EqAt.int_str a t' b t
  |_=>exact absurd (show false=true from fx) Bool.false_ne_true
 |str a =>
  obtain⟨t',rfl⟩:=ry
  cases x with
  |non=>cases rx;exact SeqAt.EqAt.str_none a t'
  |bl b=>cases rx;exact SeqAt.EqAt.str_bool a t' b
  |int b=>obtain⟨t,rfl⟩:=rx;exact SeqAt.EqAt.str_int a t' b t
  |str b=>obtain⟨t,rfl⟩:=rx;exact SeqAt.EqAt.str_str a t' b t
  |_=>exact absurd (show false=true from fx) Bool.false_ne_true
 |_=>exact absurd (show false=true from fy) Bool.false_ne_true
def eqU (x:V) (u:Value):Bool:=match u with
 |.none=>eqV .non x
 |.bool b=>eqV (.bl b) x
 |.int i _=>eqV (.int i) x
 |.str z _=>eqV (.str z) x
 |_=>false
theorem WA {x y:V}{u:Value}(r:RelV y u) (f:wC y=true):eqU x u=eqV y x:=by
 cases y with
 |non=>cases r;rfl
 |bl b=>cases r;rfl
 |int i=>obtain⟨t,rfl⟩:=r;rfl
 |str z=>obtain⟨t,rfl⟩:=r;rfl
 |_=>exact absurd (show false=true from f) Bool.false_ne_true
theorem wE {x:V}:∀ {xs:List V}{us:List Value},Vals xs us→xs.all wC=true→us.any (eqU x)=xs.any fun y=>eqV y x
 |_,_,.nil,_=>rfl
 |y::xs,u::us,.cons r t,f=>by
  rw[List.all_cons,Bool.and_eq_true] at f
  rw[List.any_cons,List.any_cons,WA r f.1,wE t f.2]
theorem xI {A:Around}{s:Shared}{x:V}{v:Value}(rx:RelV x v) (fx:wC x=true):∀ {xs:List V}{us:List Value},Vals xs us→xs.all wC=true→∀ u∈us,SeqAt.EqAt A s u v (eqU x u)
 |_,_,.nil,_=>fun u hu=>by cases hu
 |y::xs,u::us,.cons r t,f=>fun u' hu=>by
  rw[List.all_cons,Bool.and_eq_true] at f
  rcases List.mem_cons.mp hu with rfl | hu
  ·rw[WA r f.1];exact eqAt_V r rx f.1 fx
  ·exact xI rx fx t f.2 u' hu
def inV (x:V) (xs:List V):Bool:=xs.any fun y=>eqV y x
def rIn (K:PySem.W.Frag) (neg:Bool):R2:=fun x y H Q=>∃ p xs,y=.ref p∧(SqL K H p xs∨SqT K H p xs)∧wC x=true∧xs.all wC=true∧Q (.bl (if neg then !inV x xs else inV x xs)) H
theorem wp:OpR X (compareOp .In) (rIn X.K false):=by
 intro pins s σ H x y v u Q I rx ry h
 obtain⟨p,xs,rfl,hq,fx,fs,q⟩:=h
 cases ry
 rcases hq with hq | hq
 ·obtain⟨its,r,pl,hz⟩:=I.list hq
  refine SeqAt.in_listAt (eqU x) pl.isList (fun w hw=>xI rx fx r fs w (by simpa using hw)) ⟨.bl _,H,I,rfl,?_⟩
  rw[show its.toArray.any (eqU x)=its.any (eqU x) by simp,wE r fs]
  exact q
 ·obtain⟨its,r,pl,hz⟩:=I.tuple hq
  refine SeqAt.in_tupleAt (eqU x) pl (fun w hw=>xI rx fx r fs w (by simpa using hw)) ⟨.bl _,H,I,rfl,?_⟩
  rw[show its.toArray.any (eqU x)=its.any (eqU x) by simp,wE r fs]
  exact q
theorem vQ:OpR X (compareOp .NotIn) (rIn X.K true):=by
 intro pins s σ H x y v u Q I rx ry h
 obtain⟨p,xs,rfl,hq,fx,fs,q⟩:=h
 cases ry
 rcases hq with hq | hq
 ·obtain⟨its,r,pl,hz⟩:=I.list hq
  refine SeqAt.notIn_listAt (eqU x) pl.isList (fun w hw=>xI rx fx r fs w (by simpa using hw)) ⟨.bl _,H,I,rfl,?_⟩
  rw[show its.toArray.any (eqU x)=its.any (eqU x) by simp,wE r fs]
  exact q
 ·obtain⟨its,r,pl,hz⟩:=I.tuple hq
  refine SeqAt.notIn_tupleAt (eqU x) pl (fun w hw=>xI rx fx r fs w (by simpa using hw)) ⟨.bl _,H,I,rfl,?_⟩
  rw[show its.toArray.any (eqU x)=its.any (eqU x) by simp,wE r fs]
  exact q
theorem zw:xb X (.builtin "len") (fun xs H Q=>∃ p ys,xs=[.ref p]∧(SqL X.K H p ys∨SqT X.K H p ys)∧Q (.int ys.length) H):=by
 intro pins s σ H xs us Q I r h
 obtain⟨p,ys,rfl,hq,q⟩:=h
 obtain⟨u,rfl,rx⟩:=ZY r
 cases rx
 have hn:=Zi
 rcases hq with hq | hq
 ·obtain⟨its,r',pl,hz⟩:=I.list hq
  have hlen:=r'.length
  exact Calls.call_len_list pl.isList (by simp only[List.size_toArray]<;>omega) ⟨.int ys.length,H,I.tok _,⟨s.toks+1,by rw[List.size_toArray,hlen]⟩,q⟩
 ·obtain⟨its,r',pl,hz⟩:=I.tuple hq
  have hlen:=r'.length
  exact len_tuple pl (by simp only[List.size_toArray]<;>omega) ⟨.int ys.length,H,I.tok _,⟨s.toks+1,by rw[List.size_toArray,hlen]⟩,q⟩
theorem yp:xb X (.type "list") (fun xs H Q=>∃ p ys,xs=[.ref p]∧(SqL X.K H p ys∨SqT X.K H p ys)∧∀ l,H l=none→Q (.ref l) (upd H l (.lst ys))):=by
 intro pins s σ H xs us Q I r h
 obtain⟨p,ys,rfl,hq,q⟩:=h
 obtain⟨u,rfl,rx⟩:=ZY r
 cases rx
 have fin:∀ (its:List Value),Vals ys its→ys.length≤sizeLine→∀ (h':Heap) (c':Nat),(∀ b o',s.heap.get? b=some o'→h'.get? b=some o') →
   h'.get? s.heap.objs.size=some { cls:=.type "list",dict:=none,data:=.seq its.toArray c',slots:=#[] }→EP X pins σ Q (.ref s.heap.objs.size) { s with heap:=h' }:=fun its r' hz h' c' kp e =>
  ⟨.ref s.heap.objs.size,_,I.laid (t':=s.toks) kp (Nat.le_refl _) (show ObjOk X.prog X.w _ h' _ (.lst ys) from⟨hz,its,c',r',e⟩),rfl,q _ (I.hok.fresh (Nat.le_refl _))⟩
 rcases hq with hq | hq
 ·obtain⟨its,r',pl,hz⟩:=I.list hq
  have hlen:=r'.length
  obtain⟨o,ho,hc,n,hd⟩:=pl.isList
  exact call_list_seq p (.inl rfl) ho hc hd (fun h' c' kp e=>fin its r' hz h' c' kp e) (by simp only[List.size_toArray]<;>omega)
 ·obtain⟨its,r',pl,hz⟩:=I.tuple hq
  have hlen:=r'.length
  obtain⟨o,ho,hc,n,hd⟩:=pl
  exact call_list_seq p (.inr rfl) ho hc hd (fun h' c' kp e=>fin its r' hz h' c' kp e) (by simp only[List.size_toArray]<;>omega)
theorem yZ:xb X (.type "tuple") (fun xs H Q=>∃ p ys,xs=[.ref p]∧((SqL X.K H p ys∧∀ l,H l=none→Q (.ref l) (upd H l (.tup ys)))∨(SqT X.K H p ys∧Q (.ref p) H))):=by
 intro pins s σ H xs us Q I r h
 obtain⟨p,ys,rfl,h⟩:=h
 obtain⟨u,rfl,rx⟩:=ZY r
 cases rx
 rcases h with⟨hq,q⟩ | ⟨hq,q⟩
 ·obtain⟨its,r',pl,hz⟩:=I.list hq
  have hlen:=r'.length
  refine call_tuple_list pl.isList (fun h' kp=>?_) (by simp only[List.size_toArray]<;>omega)
  have I1:Inv X pins σ H { s with heap:=h' }:=I.kept (t':=s.toks) kp
  have I2:Inv X pins σ (upd H h'.objs.size (.tup ys)) { s with heap:=h'.push { cls:=.type "tuple",data:=.seq its.toArray } } :=
   I1.laid (t':=s.toks) (fun b o e=>Heap.get?_push_of_some _ e) (Nat.le_refl _) (show ObjOk X.prog X.w _ _ _ (.tup ys) from⟨hz,its,r',IsTup.new _ _⟩)
  exact⟨.ref h'.objs.size,_,I2,rfl,q _ (I1.hok.fresh (Nat.le_refl _))⟩
 ·obtain⟨its,r',pl,hz⟩:=I.tuple hq
  exact call_tuple_same pl ⟨.ref p,H,I,rfl,q⟩
def tyV (K:PySem.W.Frag) (T:String) (x:V) (H:Hp):Prop:=match x with
 |.str _=>T = "str"
 |.int _=>T = "int"
 |.ref p=>(T = "list" ∧ ∃ xs,SqL K H p xs)∨(T = "tuple" ∧ ∃ o,K.lookup p=some o∧o.cls=.type "tuple" ∧ o.dict=none) ∨
   (T = "dict" ∧ ((∃ kvs,H p=some (.dK kvs))∨∃ kvs,H p=some (.dT kvs)))∨(T = "set" ∧ ∃ S n,H p=some (.set S n))
 |_=>False
theorem X8 {pins:List (Addr×Obj)}{σ:St}{H:Hp}{s:Shared}{T:String}{x:V}{v:Value}(I:Inv X pins σ H s) (r:RelV x v) (ty:tyV X.K T x H) :
  s.TypeIs v T∧∀ a,v=.ref a→∃ ob,s.heap.get? a=some ob∧ob.dict=none:=by
 cases x with
 |str z =>
  obtain⟨t,rfl⟩:=r
  cases (show T = "str" from ty)
  exact⟨typeIs_str s z t,fun _ e=>nomatch e⟩
 |int i =>
  obtain⟨t,rfl⟩:=r
  cases (show T = "int" from ty)
  exact⟨typeIs_int s i t,fun _ e=>nomatch e⟩
 |ref p =>
  cases r
  rcases ty with⟨rfl,xs,hq⟩ | ⟨rfl,o,hk,hc,hd⟩ | ⟨rfl,hk⟩ | ⟨rfl,S,n,hk⟩
  ·obtain⟨its,_,pl,_⟩:=I.list hq
   refine⟨pl.isList.typeIs,fun a e=>?_⟩
   cases e
   obtain⟨o,n,e,c,hd,_⟩:=pl
   exact⟨o,e,hd⟩
  ·refine⟨⟨o,I.kIn p o hk,hc⟩,fun a e=>?_⟩
   cases e
   exact⟨o,I.kIn _ o hk,hd⟩
  ·have z:∃ o,s.heap.get? p=some o∧o.ExactDict:=by
    rcases hk with⟨kvs,hk⟩ | ⟨kvs,hk⟩
    ·obtain⟨_,_,_,_,o,_,_,e,ex,_⟩:=I.hok p _ hk
     exact⟨o,e,ex⟩
    ·obtain⟨_,_,_,_,o,_,_,e,ex,_⟩:=I.hok p _ hk
     exact⟨o,e,ex⟩
   obtain⟨o,e,ex⟩:=z
   refine⟨⟨o,e,ex.1⟩,fun a e2=>?_⟩
   cases e2
   exact⟨o,e,ex.2.1⟩
  ·obtain⟨o,_,_,_,e,ex,_⟩:=I.hok p _ hk
   refine⟨⟨o,e,ex.1⟩,fun a e2=>?_⟩
   cases e2
   exact⟨o,e,ex.2.1⟩
 |_=>exact False.elim ty
def zaU (K:PySem.W.Frag) (T:String) (r:V→List V→Hp→VK→Prop) (to:TE):TE:=fun σ H Q=>to σ H fun x H1=>tyV K T x H1∧r x [] H1 Q
def tBM (K:PySem.W.Frag) (T:String) (r:V→List V→Hp→VK→Prop) (to:TE) (t:TA):TE:=fun σ H Q=>to σ H fun x H1=>tyV K T x H1∧t σ H1 fun xs H2=>r x xs H2 Q
variable {o e:Expr}{es:List Expr}{to:TE}{t:TA}{name:Str}{apos cpos:Pos}{T id:String}{r:V→List V→Hp→VK→Prop}
theorem Xf (pa:PlainAttrs T) (slot:Slot T name id) (hty:typeOf (.builtin id)=pure (.type "method_descriptor")) (hm:MtR X id r) (ho:Bx (PE X o to)) (hbase:attributeBase o name X.env (eval o X.env)=eval o X.env:=by rfl) (hline:(apos.endLine == cpos.line)=true:=by rfl):Bx (PE X (.Call (.Attribute o name apos) [] [] cpos) (zaU X.K T r to)):=by
 have ho:=ho.of
 refine⟨?_⟩
 intro pins s σ H Q I h
 refine wpAny_Call_method0_late hbase hline (thn (ho pins s σ H _ I h) fun v s1 hq0=>?_)
 obtain⟨x,H1,I1,r1,ty,q1⟩:=hq0
 obtain⟨h1,h2⟩:=X8 I1 r1 ty
 exact⟨T,id,pa,slot,hty,h1,h2,Calls.callWith_builtin rfl (PySem.evalArgs_none (hm pins s1 σ H1 x [] v [] Q I1 r1 .nil q1))⟩
theorem Vc (pa:PlainAttrs T) (slot:Slot T name id) (hty:typeOf (.builtin id)=pure (.type "method_descriptor")) (hm:MtR X id r) (ho:PE X o to) (ha:PA X (e::es) t)
  (hbase:attributeBase o name X.env (eval o X.env)=eval o X.env:=by rfl)
  (hfew:((backTo cpos (starEach (e::es) X.env)).all (fun x=>!x.1)&&(backToKw cpos (keywordEach [] X.env)).all (fun x=>x.1.isSome)
   && decide ((e::es).length+([]:List Keyword).length+(if ([]:List Keyword).isEmpty then 0 else 1)<30))=true:=by rfl)
  (hline:(apos.endLine == cpos.line)=true:=by rfl) (hs:starEach (e::es) X.env=(false,eval e X.env)::starEach es X.env:=by rfl) (hplain:(backTo cpos (starEach es X.env)).any (·.1)=false:=by rfl) :
  PE X (.Call (.Attribute o name apos) (e::es) [] cpos) (tBM X.K T r to t):=by
 intro pins s σ H Q I h
 refine wpAny_Call_method_late hbase hfew hline rfl (thn (ho pins s σ H _ I h) fun v s1 hq0=>?_)
 obtain⟨x,H1,I1,r1,ty,q1⟩:=hq0
 obtain⟨h1,h2⟩:=X8 I1 r1 ty
 refine⟨T,id,pa,slot,hty,h1,h2,?_⟩
 have hA:=ha cpos pins s1 σ H1 _ I1 q1
 rw[hs] at hA ⊢
 refine Calls.callWith_builtin (by show(false||(backTo cpos (starEach es X.env)).any (·.1))=false;rw[hplain]<;>rfl) (Calls.evalArgs_plain ?_)
 exact thn hA fun us s2 ⟨vs,H2,I2,r2,q2⟩=>hm pins s2 σ H2 x vs v us Q I2 r1 r2 q2
end
def MtM (X:Cx) (id:String) (r:V→List V→Hp→VK→Prop):Prop :=
 ∀ (pins:List (Addr×Obj)) (s:Shared) (σ:St) (H:Hp) (x:V) (xs:List V) (v:Value) (us:List Value) (Q:VK),Inv X pins σ H s→RelV x v→Vals xs us→r x xs H Q →
  wpAny (model X.prog X.w) X.A (call (.builtin id) (v::us)) (EP X pins σ Q) X.xe s
theorem Vals.one:∀ {x:V}{us:List Value},Vals [x] us→∃ u,us=[u]∧RelV x u
 |_,_,.cons r .nil=>⟨_,rfl,r⟩
theorem Vals.two:∀ {x y:V}{us:List Value},Vals [x,y] us→∃ u v,us=[u,v]∧RelV x u∧RelV y v
 |_,_,_,.cons r (.cons q .nil)=>⟨_,_,rfl,r,q⟩
theorem Vals.zero:∀ {us:List Value},Vals [] us→us=[]
 |_,.nil=>rfl
theorem Vals.dropLast {xs:List V}{us:List Value}(h:Vals xs us):Vals xs.dropLast us.dropLast:=by
 induction h with
 |nil=>exact .nil
 |cons r t ih =>
  cases t with
  |nil=>exact .nil
  |cons q t'=>exact .cons r ih
theorem Vals.eraseIdx:∀ {xs:List V}{us:List Value}(i:Nat),Vals xs us→Vals (xs.eraseIdx i) (us.eraseIdx i)
 |_,_,_,.nil=>.nil
 |_,_,0,.cons _ t=>t
 |_,_,i+1,.cons r t=>.cons r (Vals.eraseIdx i t)
theorem Vals.reverse {xs:List V}{us:List Value}(h:Vals xs us):Vals xs.reverse us.reverse:=by
 induction h with
 |nil=>exact .nil
 |cons r t ih=>rw[List.reverse_cons,List.reverse_cons];exact Vals.append ih (.cons r .nil)
theorem ZM {α:Type}(l:List α):l.eraseIdx (l.length-1)=l.dropLast:=by
 induction l with
 |nil=>rfl
 |cons a r ih =>
  cases r with
  |nil=>rfl
  |cons b r =>
   have e:(a::b::r).length-1=((b::r).length-1)+1:=by
    have h1:(a::b::r).length=r.length+2:=rfl
    have h2:(b::r).length=r.length+1:=rfl
    omega
   rw[e,List.eraseIdx_cons_succ,ih]
   all_goals rfl
theorem vW {α:Type}:∀ (l:List α) (i:Nat),(l.eraseIdx i).length≤l.length
 |[],_=>Nat.le_refl _
 |_::_,0=>Nat.le_succ _
 |_::r,i+1=>Nat.succ_le_succ (vW r i)
section
variable {X:Cx}{pins:List (Addr×Obj)}{σ:St}{H:Hp}{s:Shared}{l b:Addr}{xs ys zs:List V}
theorem Inv.lset {its its':List Value}{n:Nat}{f:Array Value→Array Value}{t':Nat}(I:Inv X pins σ H s) (hH:H l=some (.lst xs))
  (e:s.heap.get? l=some { cls:=.type "list",data:=.seq its.toArray n }) (hf:f its.toArray=its'.toArray) (hv:Vals ys its') (hz:ys.length≤sizeLine) :
  Inv X pins σ (upd H l (.lst ys)) { s with heap:=s.heap.update l (Obj.mapSeq f),toks:=t' }:=by
 have q:=PySem.IsL.update e f
 rw[hf] at q
 refine I.write (x:=l) (e:=l) (by rw[hH];exact trivial) (.inl rfl) (fun b' u hb hu=>(Heap.get?_update_other s.heap (Obj.mapSeq f) (Ne.symm hb)).trans hu) ⟨_,q⟩ ?_
 exact⟨hz,its',_,hv,q⟩
theorem Inv.lnew {its:List Value}{t':Nat}(I:Inv X pins σ H s) (hv:Vals ys its) (hz:ys.length≤sizeLine) :
  Inv X pins σ (upd H s.heap.objs.size (.lst ys)) { s with heap:=s.heap.push { cls:=.type "list",data:=.seq its.toArray },toks:=t' } :=
 I.laid (fun _ _ q=>Heap.get?_push_of_some _ q) (Nat.le_refl _) ⟨hz,its,0,hv,Heap.get?_push_size _ rfl⟩
theorem Inv.fresh (I:Inv X pins σ H s):H s.heap.objs.size=none:=I.hok.fresh (Nat.le_refl _)
theorem Inv.lstM (I:Inv X pins σ H s) (hH:H l=some (.lst xs)):xs.length≤sizeLine∧∃ (its:List Value) (n:Nat),Vals xs its∧xs.length=its.length∧s.heap.get? l=some { cls:=.type "list",data:=.seq its.toArray n }:=by
 obtain⟨z,its,n,r,e⟩:=I.hok l _ hH
 exact⟨z,its,n,r,r.length,e⟩
theorem Xz {n:Nat}(h:n≤sizeLine):Builtin.List.listTooLong n=false:=by
 unfold Builtin.List.listTooLong
 exact decide_eq_false (by omega)
end
section
variable {X:Cx}
def W5:V→List V→Hp→VK→Prop:=fun x vs H Q=>∃ l xs y,x=.ref l∧vs=[y]∧H l=some (.lst xs)∧xs.length<sizeLine∧Q .non (upd H l (.lst (xs++[y])))
theorem zU:MtM X "list.append" W5:=by
 intro pins s σ H x vs v us Q I rx rv h
 obtain⟨l,xs,y,rfl,rfl,hH,hz,q⟩:=h
 cases rx
 obtain⟨u,rfl,ru⟩:=rv.one
 obtain⟨z,its,n,r,hl,e⟩:=I.lstM hH
 refine call_meets F.slot_list_append ⟨_,e,rfl⟩ F.entry_list_append (F.args_list_append_2 _ _) (PySem.list_append l its.toArray n u (by rw[List.size_toArray];omega)) ⟨e,?_⟩
 refine⟨.non,_,I.lset (its':=its++[u]) hH e (by simp) (r.append (.cons ru .nil)) ?_,rfl,q⟩
 rw[List.length_append,List.length_singleton]
 omega
def W0:V→List V→Hp→VK→Prop:=fun x vs H Q=>∃ l b xs zs,x=.ref l∧vs=[.ref b]∧H l=some (.lst xs)∧H b=some (.lst zs)∧xs.length+zs.length≤sizeLine∧Q .non (upd H l (.lst (xs++zs)))
theorem Uq:MtM X "list.extend" W0:=by
 intro pins s σ H x vs v us Q I rx rv h
 obtain⟨l,b,xs,zs,rfl,rfl,hH,hB,hz,q⟩:=h
 cases rx
 obtain⟨u,rfl,ru⟩:=rv.one
 cases ru
 obtain⟨z,its,n,r,hl,e⟩:=I.lstM hH
 obtain⟨z2,its2,n2,r2,hl2,e2⟩:=I.lstM hB
 have hsz:its.toArray.size+its2.toArray.size≤sizeLine:=by rw[List.size_toArray,List.size_toArray];omega
 have hlong:¬ (!its.toArray.isEmpty&&Builtin.List.listTooLong (its.toArray.size+its2.toArray.size))=true:=by
  rw[Xz hsz,Bool.and_false]
  exact Bool.false_ne_true
 refine call_meets F.slot_list_extend ⟨_,e,rfl⟩ F.entry_list_extend (F.args_list_extend_2 _ _)
  (AutoSeq1.list_extend_list_list_0 l its.toArray n b its2.toArray n2 hlong (by rw[List.size_toArray];omega) (by omega)) ⟨e,e2,?_⟩
 refine⟨.non,_,I.lset (its':=its++its2) hH e (by simp) (r.append r2) ?_,rfl,q⟩
 rw[List.length_append]
 omega
def zbF:V→List V→Hp→VK→Prop:=fun x vs H Q=>∃ l xs y,x=.ref l∧vs=[]∧H l=some (.lst xs)∧xs[xs.length-1]?=some y∧Q y (upd H l (.lst xs.dropLast))
theorem zbo:MtM X "list.pop" zbF:=by
 intro pins s σ H x vs v us Q I rx rv h
 obtain⟨l,xs,y,rfl,rfl,hH,hy,q⟩:=h
 cases rx
 have hus:=rv.zero
 subst hus
 obtain⟨z,its,n,r,hl,e⟩:=I.lstM hH
 obtain⟨u,hu,ru⟩:=r.get hy
 have hy':its.toArray[its.toArray.size-1]?=some u:=by
  show its.toArray[its.length-1]?=some u
  rw[← Array.getElem?_toList,← hl]
  exact hu
 refine call_meets F.slot_list_pop ⟨_,e,rfl⟩ F.entry_list_pop (F.args_list_pop_1 _) (MeetsSeq.list_pop_last l its.toArray n u hy' (by rw[List.size_toArray];omega)) ⟨e,?_⟩
 refine⟨y,_,I.lset (its':=its.dropLast) hH e ?_ r.dropLast ?_,ru,q⟩
 ·show its.toArray.eraseIdxIfInBounds (its.toArray.size-1)=its.dropLast.toArray
  rw[List.size_toArray,List.eraseIdxIfInBounds_toArray,ZM]
 ·rw[List.length_dropLast]
  omega
def V6:V→List V→Hp→VK→Prop:=fun x vs H Q=>∃ l xs i k y,x=.ref l∧vs=[.int i]∧H l=some (.lst xs)∧-(2 ^ 63)≤i∧i<2 ^ 63∧seqIndex? i xs.length=some k∧xs[k]?=some y∧Q y (upd H l (.lst (xs.eraseIdx k)))
theorem Zg:MtM X "list.pop" V6:=by
 intro pins s σ H x vs v us Q I rx rv h
 obtain⟨l,xs,i,k,y,rfl,rfl,hH,h1,h2,hk,hy,q⟩:=h
 cases rx
 obtain⟨u,rfl,ru⟩:=rv.one
 obtain⟨t,rfl⟩:=ru
 obtain⟨z,its,n,r,hl,e⟩:=I.lstM hH
 obtain⟨w,hw,rw'⟩:=r.get hy
 refine call_meets F.slot_list_pop ⟨_,e,rfl⟩ F.entry_list_pop (F.args_list_pop_2 _ _)
  (MeetsSeq.list_pop_at l its.toArray n i t k w (fitsIndex_both h1 h2) (by rw[List.size_toArray,← hl];exact hk) (by rw[← Array.getElem?_toList];exact hw) (by rw[List.size_toArray];omega)) ⟨e,?_⟩
 refine⟨y,_,I.lset (its':=its.eraseIdx k) hH e ?_ (r.eraseIdx k) ?_,rw',q⟩
 ·show its.toArray.eraseIdxIfInBounds k=(its.eraseIdx k).toArray
  rw[List.eraseIdxIfInBounds_toArray]
 ·have:=vW xs k
  omega
def u4:V→List V→Hp→VK→Prop:=fun x vs H Q=>∃ l xs,x=.ref l∧vs=[]∧H l=some (.lst xs)∧Q .non (upd H l (.lst xs.reverse))
theorem ZF:MtM X "list.reverse" u4:=by
 intro pins s σ H x vs v us Q I rx rv h
 obtain⟨l,xs,rfl,rfl,hH,q⟩:=h
 cases rx
 have hus:=rv.zero
 subst hus
 obtain⟨z,its,n,r,hl,e⟩:=I.lstM hH
 refine call_meets F.slot_list_reverse ⟨_,e,rfl⟩ F.entry_list_reverse (F.args_list_reverse_1 _) (AutoSeq1.list_reverse_list_0 l its.toArray n (by rw[List.size_toArray];omega)) ⟨e,?_⟩
 refine⟨.non,_,I.lset (its':=its.reverse) hH e (by simp) r.reverse ?_,rfl,q⟩
 rw[List.length_reverse]
 omega
def VA:R2:=fun x y H Q=>∃ l b xs zs,x=.ref l∧y=.ref b∧H l=some (.lst xs)∧H b=some (.lst zs)∧xs.length+zs.length≤sizeLine∧∀ p,H p=none→Q (.ref p) (upd H p (.lst (xs++zs)))
theorem yO:OpR X (binaryOp .Add) VA:=by
 intro pins s σ H x y v u Q I rx ry h
 obtain⟨l,b,xs,zs,rfl,rfl,hH,hB,hz,q⟩:=h
 cases rx
 cases ry
 obtain⟨z,its,n,r,hl,e⟩:=I.lstM hH
 obtain⟨z2,its2,n2,r2,hl2,e2⟩:=I.lstM hB
 refine PySem.P.add_list e e2 ?_ (by rw[List.size_toArray,List.size_toArray];omega)
 have ea:its.toArray++its2.toArray=(its++its2).toArray:=by simp
 rw[ea]
 exact⟨.ref _,_,I.lnew (t':=s.toks) (r.append r2) (by rw[List.length_append];omega),rfl,q _ I.fresh⟩
end
section
variable {κ:Type} [DecidableEq κ]
def yM (kvs:List (κ×V)) (k:κ):Option V:=(kvs.find? fun kv=>decide (kv.1=k)).map (·.2)
def putK (kvs:List (κ×V)) (k:κ) (v:V):List (κ×V) :=
 if (kvs.any fun kv=>decide (kv.1=k))=true then kvs.map (fun kv=>if kv.1=k then(kv.1,v) else kv) else kvs++[(k,v)]
theorem xF {p:κ×V}{r:List (κ×V)}{k:κ}(e:p.1=k):yM (p::r) k=some p.2:=by simp[yM,List.find?_cons,e]
theorem xH {p:κ×V}{r:List (κ×V)}{k:κ}(e:¬ p.1=k):yM (p::r) k=yM r k:=by simp[yM,List.find?_cons,e]
theorem yD (k:κ):∀ kvs:List (κ×V),(kvs.any fun kv=>decide (kv.1=k))=(yM kvs k).isSome
 |[]=>rfl
 |p::r=>by
  rw[List.any_cons]
  by_cases e:p.1=k
  ·simp only[xF e,decide_eq_true e,Bool.true_or,Option.isSome_some]
  ·rw[xH e,decide_eq_false e,Bool.false_or];exact yD k r
theorem yP (kvs:List (κ×V)) (k:κ) (v:V):(putK kvs k v).length≤kvs.length+1:=by
 unfold putK
 split
 ·rw[List.length_map];omega
 ·rw[List.length_append,List.length_cons,List.length_nil];omega
theorem putK_new {kvs:List (κ×V)}{k:κ}(v:V) (h:yM kvs k=none):putK kvs k v=kvs++[(k,v)]:=by
 unfold putK
 rw[yD,h]
 exact if_neg (by decide)
theorem RelO.isSome_eq {o:Option V}{u:Option Value}(r:RelO o u):o.isSome=u.isSome:=by
 cases o with
 |none=>cases u with
  |none=>rfl
  |some _=>exact(show False from r).elim
 |some _=>cases u with
  |none=>exact(show False from r).elim
  |some _=>rfl
theorem RelO.getD {o:Option V}{u:Option Value}{d:V}{d':Value}(r:RelO o u) (rd:RelV d d'):RelV (o.getD d) (u.getD d'):=by
 cases o with
 |none=>cases u with
  |none=>exact rd
  |some _=>exact(show False from r).elim
 |some _=>cases u with
  |none=>exact(show False from r).elim
  |some _=>exact r
theorem KV.val {kvs:List (κ×V)}{vs:List (κ×Value)}(r:KV kvs vs) (k:κ):RelO (yM kvs k) (valueAt vs k):=by
 unfold KV at r
 induction r with
 |nil=>exact True.intro
 | @cons p q ps qs h t ih =>
  obtain⟨h1,h2⟩:=h
  by_cases e:p.1=k
  ·have e':q.1=k:=h1.symm.trans e
   have b:valueAt (q::qs) k=some q.2:=by simp[valueAt,List.find?_cons,e']
   rw[xF e,b];exact h2
  ·have e':¬ q.1=k:=fun z=>e (h1.trans z)
   have b:valueAt (q::qs) k=valueAt qs k:=by simp[valueAt,List.find?_cons,e']
   rw[xH e,b];exact ih
theorem KV.any {kvs:List (κ×V)}{vs:List (κ×Value)}(r:KV kvs vs) (k:κ):(kvs.any fun kv=>decide (kv.1=k))=vs.any fun kv=>decide (kv.1=k):=by
 unfold KV at r
 induction r with
 |nil=>rfl
 |cons h t ih=>rw[List.any_cons,List.any_cons,ih,h.1]
theorem KV.repl {kvs:List (κ×V)}{vs:List (κ×Value)}(r:KV kvs vs) (k:κ){y:V}{u:Value}(ry:RelV y u) :
  KV (kvs.map fun kv=>if kv.1=k then(kv.1,y) else kv) (vs.map fun kv=>if kv.1=k then(kv.1,u) else kv):=by
 unfold KV at r ⊢
 induction r with
 |nil=>exact .nil
 | @cons p q ps qs h t ih =>
  rw[List.map_cons,List.map_cons]
  refine .cons ?_ ih
  obtain⟨h1,h2⟩:=h
  by_cases e:p.1=k
  ·rw[if_pos e,if_pos (h1.symm.trans e)];exact⟨h1,ry⟩
  ·rw[if_neg e,if_neg (fun z=>e (h1.trans z))];exact⟨h1,h2⟩
theorem KV.put {kvs:List (κ×V)}{vs:List (κ×Value)}(r:KV kvs vs) (k:κ){y:V}{u:Value}(ry:RelV y u):KV (putK kvs k y) (stored vs k u):=by
 unfold putK stored
 rw[r.any k]
 by_cases e:(vs.any fun kv=>decide (kv.1=k))=true
 ·rw[if_pos e,if_pos e];exact r.repl k ry
 ·rw[if_neg e,if_neg e];exact Paired.snoc r ⟨rfl,ry⟩
theorem KV.length {kvs:List (κ×V)}{vs:List (κ×Value)}(r:KV kvs vs):kvs.length=vs.length:=Paired.length r
end
theorem vk {P:Program}{w:World}{k:Key}{u:Value}(r:RelV (kV k) u):(zx P w).is k u=true:=by
 cases k with
 |inl i=>obtain⟨t,e⟩:=(show ∃ t,u=Value.int i t from r);subst e;exact uB P w i t
 |inr x=>obtain⟨t,e⟩:=(show ∃ t,u=Value.str x t from r);subst e;exact uA P w x t
theorem vX {P:Program}{w:World}:∀ {ks:List Key}{us:List Value},Vals (ks.map kV) us→ItemsAre (zx P w) ks us
 |[],_,r=>by rw[List.map_nil] at r;cases r;exact .nil
 |k::ks,_,r=>by
  rw[List.map_cons] at r
  cases r with
  |cons h t=>exact .cons (vk h) (vX t)
abbrev KT (H:Hp):List (List Key×V)→List (List Key×Addr×Value)→Prop:=Paired fun p q=>p.1=q.1∧H q.2.1=some (.tup (p.1.map kV))∧RelV p.2 q.2.2
theorem KT.val {H:Hp}{kvs:List (List Key×V)}{xs:List (List Key×Addr×Value)}(r:KT H kvs xs) (k:List Key):RelO (yM kvs k) ((atKey xs k).map (·.2)):=by
 induction r with
 |nil=>exact True.intro
 | @cons p q ps qs h t ih =>
  obtain⟨h1,_,h2⟩:=h
  by_cases e:p.1=k
  ·have e':q.1=k:=h1.symm.trans e
   have b:atKey (q::qs) k=some q.2:=by simp[atKey,List.find?_cons,e']
   rw[xF e,b];exact h2
  ·have e':¬ q.1=k:=fun z=>e (h1.trans z)
   have b:atKey (q::qs) k=atKey qs k:=by simp[atKey,List.find?_cons,e']
   rw[xH e,b];exact ih
theorem KT.repl {H:Hp}{kvs:List (List Key×V)}{xs:List (List Key×Addr×Value)}(r:KT H kvs xs) (k:List Key){y:V}{u:Value}(ry:RelV y u) :
  KT H (kvs.map fun kv=>if kv.1=k then(kv.1,y) else kv) (xs.map (putAt k u)):=by
 induction r with
 |nil=>exact .nil
 | @cons p q ps qs h t ih =>
  rw[List.map_cons,List.map_cons]
  refine .cons ?_ ih
  obtain⟨h1,h2,h3⟩:=h
  unfold putAt
  by_cases e:p.1=k
  ·rw[if_pos e,if_pos (h1.symm.trans e)];exact⟨h1,h2,ry⟩
  ·rw[if_neg e,if_neg (fun z=>e (h1.trans z))];exact⟨h1,h2,h3⟩
theorem KT.put {H:Hp}{kvs:List (List Key×V)}{xs:List (List Key×Addr×Value)}(r:KT H kvs xs) (k:List Key){b:Addr}{y:V}{u:Value}(hb:H b=some (.tup (k.map kV))) (ry:RelV y u) :
  KT H (putK kvs k y) (storedH xs k b u):=by
 have e:(kvs.any fun kv=>decide (kv.1=k))=(atKey xs k).isSome:=by
  rw[yD,(r.val k).isSome_eq,Option.isSome_map]
 unfold putK storedH
 rw[e]
 by_cases q:(atKey xs k).isSome=true
 ·rw[if_pos q,if_pos q];exact r.repl k ry
 ·rw[if_neg q,if_neg q];exact Paired.snoc r ⟨rfl,hb,ry⟩
theorem KT.keeps {H H':Hp}{kvs:List (List Key×V)}{xs:List (List Key×Addr×Value)}(r:KT H kvs xs) (ht:∀ b ys,H b=some (.tup ys)→H' b=some (.tup ys)):KT H' kvs xs :=
 Paired.mapP r fun _ _ z=>⟨z.1,ht _ _ z.2.1,z.2.2⟩
section
variable {P:Program}{w:World}{H:Hp}{h:Heap}{a:Addr}
theorem V3 {u:HO}(ok:HOk P w H h) (e:Rd H a u):ObjOk P w H h a u:=e.ok ok
theorem vo {kvs:List (Key×V)}(ok:HOk P w H h) (e:Rd H a (.dK kvs)):kvs.length≤sizeLine∧(a == sysModules)=false∧∃ vs,KV kvs vs∧h.DictOf (zx P w) a vs :=
 show ObjOk P w H h a (.dK kvs) from V3 ok e
theorem Vt {kvs:List (Key×V)}(ok:HOk P w H h) (e:H a=some (.dK kvs)):kvs.length≤sizeLine∧(a == sysModules)=false∧∃ vs,KV kvs vs∧h.DictOf (zx P w) a vs:=vo ok (.inl e)
theorem xm {ks:List Key}(ok:HOk P w H h) (e:H a=some (.tup (ks.map kV))):(tupleKind (zx P w)).is h ks a:=by
 obtain⟨_,its,r,o,h1,h2,n,h3⟩:=(show ObjOk P w H h a (.tup (ks.map kV)) from ok a _ e)
 exact⟨o,its.toArray,n,h1,h2,h3,by simpa using vX r⟩
theorem v0 {kvs:List (List Key×V)}(ok:HOk P w H h) (e:Rd H a (.dT kvs)):kvs.length≤sizeLine∧(a == sysModules)=false ∧
  ∃ xs,KT H kvs xs∧h.DictOfH (tupleKind (zx P w)) a xs:=by
 obtain⟨z,y,xs,r,o,es,ep,h1,h2,h3,h4,h5⟩:=(show ObjOk P w H h a (.dT kvs) from V3 ok e)
 refine⟨z,y,xs,r,o,es,ep,h1,h2,h3,h4,fun x hx=>?_,h5⟩
 have all:∀ {l:List (List Key×V)}{m:List (List Key×Addr×Value)},KT H l m→∀ x∈m,(tupleKind (zx P w)).is h x.1 x.2.1:=by
  intro l m q
  induction q with
  |nil=>intro x hx;exact nomatch hx
  | @cons p q ps qs hq t ih =>
   intro x hx
   rcases List.mem_cons.mp hx with e | hx
   ·subst e
    exact xm ok (by rw[← hq.1];exact hq.2.1)
   ·exact ih x hx
 exact all r x hx
theorem uG {kvs:List (List Key×V)}(ok:HOk P w H h) (e:H a=some (.dT kvs)):kvs.length≤sizeLine∧(a == sysModules)=false ∧
  ∃ xs,KT H kvs xs∧h.DictOfH (tupleKind (zx P w)) a xs:=v0 ok (.inl e)
end
def DGet (H:Hp) (a:Addr) (y:V) (r:Option V):Prop :=
 (∃ kvs k,Rd H a (.dK kvs)∧y=kV k∧r=yM kvs k)∨∃ kvs k b,Rd H a (.dT kvs)∧y=.ref b∧H b=some (.tup (k.map kV))∧r=yM kvs k
def DPut (H:Hp) (a:Addr) (y v:V) (H':Hp):Prop :=
 (∃ kvs k,H a=some (.dK kvs)∧y=kV k∧kvs.length<sizeLine∧H'=upd H a (.dK (putK kvs k v))) ∨
 ∃ kvs k b,H a=some (.dT kvs)∧y=.ref b∧H b=some (.tup (k.map kV))∧kvs.length<sizeLine∧H'=upd H a (.dT (putK kvs k v))
theorem DGet.k {H:Hp}{a:Addr}{kvs:List (Key×V)}{k:Key}(e:H a=some (.dK kvs)):DGet H a (kV k) (yM kvs k):=.inl ⟨kvs,k,.inl e,rfl,rfl⟩
theorem DGet.t {H:Hp}{a b:Addr}{kvs:List (List Key×V)}{k:List Key}(e:H a=some (.dT kvs)) (eb:H b=some (.tup (k.map kV))):DGet H a (.ref b) (yM kvs k):=.inr ⟨kvs,k,b,.inl e,rfl,eb,rfl⟩
theorem DPut.k {H:Hp}{a:Addr}{kvs:List (Key×V)}{k:Key}{v:V}(e:H a=some (.dK kvs)) (hl:kvs.length<sizeLine):DPut H a (kV k) v (upd H a (.dK (putK kvs k v))):=.inl ⟨kvs,k,e,rfl,hl,rfl⟩
theorem DPut.t {H:Hp}{a b:Addr}{kvs:List (List Key×V)}{k:List Key}{v:V}(e:H a=some (.dT kvs)) (eb:H b=some (.tup (k.map kV))) (hl:kvs.length<sizeLine) :
  DPut H a (.ref b) v (upd H a (.dT (putK kvs k v))):=.inr ⟨kvs,k,b,e,rfl,eb,hl,rfl⟩
section
variable {X:Cx}{pins:List (Addr×Obj)}{σ:St}{H:Hp}{s:Shared}{a:Addr}{y v:V}{u r:Value}{o:Option V}{A:Around}{E:Value→Shared→Prop}
theorem Inv.big (I:Inv X pins σ H s):sysModules<s.heap.objs.size:=by
 have h:mainGlobals<s.heap.objs.size:=(I.mod.glob.keeps I.bk).lt
 exact Nat.lt_trans (by decide) h
theorem Y0 {Q:Value→Shared→Prop}(hu:A.units+1<cLine) (I:Inv X pins σ H s) (g:DGet H a y (some v)) (ry:RelV y u) (h:∀ w' s',Inv X pins σ H s'→RelV v w'→Q w' s') :
  wpAny (model X.prog X.w) A (getItem (.ref a) u) Q E s:=by
 rcases g with⟨kvs,k,e,ey,l⟩ | ⟨kvs,k,b,e,ey,eb,l⟩
 ·subst ey
  obtain⟨z,hd,vs,rel,dd⟩:=vo I.hok e
  obtain⟨w',hw,rw'⟩:=RelO.some_of (v:=v) (o:=valueAt vs k) (by rw[l];exact rel.val k)
  exact wpAny_getItem_of (vk ry) dd.mapOf hw (h w' _ (I.tok _) rw')
 ·subst ey
  cases (show u=Value.ref b from ry)
  obtain⟨z,hd,xs,rel,dd⟩:=v0 I.hok e
  obtain⟨w',hw,rw'⟩:=RelO.some_of (v:=v) (o:=(atKey xs k).map (·.2)) (by rw[l];exact rel.val k)
  obtain⟨p,hp,hp2⟩:=Option.map_eq_some_iff.mp hw
  refine wpAny_getItem_heap (tupleKind_room_in1 hu) (xm I.hok eb) dd hp ?_
  rw[hp2]
  exact h w' _ (I.tok _) rw'
theorem zbQ {Q:Value→Shared→Prop}(hu:A.units+1<cLine) (I:Inv X pins σ H s) (g:DGet H a y o) (ry:RelV y u) (h:∀ s',Inv X pins σ H s'→Q (.bool o.isSome) s') :
  wpAny (model X.prog X.w) A (compareOp .In u (.ref a)) Q E s:=by
 rcases g with⟨kvs,k,e,ey,l⟩ | ⟨kvs,k,b,e,ey,eb,l⟩
 ·subst ey
  obtain⟨z,hd,vs,rel,dd⟩:=vo I.hok e
  refine wpAny_in_of (vk ry) hd dd.mapOf ?_
  rw[← (rel.val k).isSome_eq,← l]
  exact h _ (I.tok _)
 ·subst ey
  cases (show u=Value.ref b from ry)
  obtain⟨z,hd,xs,rel,dd⟩:=v0 I.hok e
  refine wpAny_in_heap (tupleKind_room_in1 hu) (xm I.hok eb) hd dd ?_
  have q:=(rel.val k).isSome_eq
  rw[Option.isSome_map] at q
  rw[← q,← l]
  exact h _ (I.tok _)
theorem Vv {Q:Value→Shared→Prop}(hu:A.units+1<cLine) (I:Inv X pins σ H s) (g:DGet H a y o) (ry:RelV y u) (h:∀ s',Inv X pins σ H s'→Q (.bool (!o.isSome)) s') :
  wpAny (model X.prog X.w) A (compareOp .NotIn u (.ref a)) Q E s:=by
 rcases g with⟨kvs,k,e,ey,l⟩ | ⟨kvs,k,b,e,ey,eb,l⟩
 ·subst ey
  obtain⟨z,hd,vs,rel,dd⟩:=vo I.hok e
  refine wpAny_notIn_of (vk ry) hd dd.mapOf ?_
  rw[← (rel.val k).isSome_eq,← l]
  exact h _ (I.tok _)
 ·subst ey
  cases (show u=Value.ref b from ry)
  obtain⟨z,hd,xs,rel,dd⟩:=v0 I.hok e
  refine wpAny_notIn_heap (tupleKind_room_in1 hu) (xm I.hok eb) hd dd ?_
  have q:=(rel.val k).isSome_eq
  rw[Option.isSome_map] at q
  rw[← q,← l]
  exact h _ (I.tok _)
theorem xS {h':Heap}{t':Nat}{ob:HO}(I:Inv X pins σ H s) (mu:Mut (H a)) (hs:Heap.SameBut a s.heap h') (he:∃ q,h'.get? a=some q) (new:ObjOk X.prog X.w (upd H a ob) h' a ob) :
  Inv X pins σ (upd H a ob) { s with heap:=h',toks:=t' } :=
 I.write (x:=a) (e:=a) mu (.inl rfl) (fun b q hb z=>(hs.2 b hb).trans z) he new
theorem YW {P:Program}{w:World}{H':Hp}{h':Heap}{kvs:List (Key×V)}{vs:List (Key×Value)}(z:kvs.length≤sizeLine) (hd:(a == sysModules)=false) (rel:KV kvs vs) (dd:h'.DictOf (zx P w) a vs) :
  ObjOk P w H' h' a (.dK kvs):=⟨z,hd,vs,rel,dd⟩
theorem v4 {H':Hp}{Q:Unit→Shared→Prop}(hu:A.units+1<cLine) (I:Inv X pins σ H s) (g:DPut H a y v H') (ry:RelV y u) (rv:RelV v r) (h:∀ s',Inv X pins σ H' s'→Q () s') :
  wpAny (model X.prog X.w) A (setItem (.ref a) u r) Q E s:=by
 rcases g with⟨kvs,k,e,ey,l,eH⟩ | ⟨kvs,k,b,e,ey,eb,l,eH⟩
 ·subst ey eH
  obtain⟨z,hd,vs,rel,dd⟩:=Vt I.hok e
  have hz:vs.length≤sizeLine:=by rw[← rel.length];exact z
  have hl:(putK kvs k v).length≤sizeLine:=by have:=yP kvs k v;omega
  refine wpAny_setItem_pairs (hsz:=hz) (vk ry) dd fun h' dd' hs=>h _ ?_
  have he:∃ q,h'.get? a=some q:=let ⟨q,_,_,hq,_⟩:=dd';⟨q,hq⟩
  exact xS I (by rw[e];exact True.intro) hs he (YW hl hd (rel.put k rv) dd')
 ·subst ey eH
  cases (show u=Value.ref b from ry)
  obtain⟨z,hd,xs,rel,dd⟩:=uG I.hok e
  have hz:xs.length≤sizeLine:=by rw[← Paired.length rel];exact z
  have hl:(putK kvs k v).length≤sizeLine:=by have:=yP kvs k v;omega
  refine wpAny_setItem_heap (hsz:=hz) (tupleKind_room_in1 hu) (xm I.hok eb) dd fun h' dd' hs=>h _ ?_
  obtain⟨q,es,ep,hq,h2,h3,h4,_,h5⟩:=dd'
  refine xS I (by rw[e];exact True.intro) hs ⟨q,hq⟩ ⟨hl,hd,_,(rel.put k eb rv).keeps fun c ys ec=>?_,q,es,ep,hq,h2,h3,h4,h5⟩
  rw[upd_ne (XA ec e (fun z=>nomatch z))]
  exact ec
end
section
variable {X:Cx}{pins:List (Addr×Obj)}{σ:St}{H:Hp}{s:Shared}{a:Addr}{kvs:List (Key×V)}{k:Key}{u:Value}{A:Around}{E:Value→Shared→Prop}
theorem zaE {Q:Value→Shared→Prop}(I:Inv X pins σ H s) (e:Rd H a (.dK kvs)) (h:∀ t s',Inv X pins σ H s'→Q (.int kvs.length t) s'):wpAny (model X.prog X.w) A (call (.builtin "len") [.ref a]) Q E s:=by
 obtain⟨z,hd,vs,rel,dd⟩:=vo I.hok e
 refine call_len_dict hd dd (by rw[← rel.length];rw[sizeLine_eq] at z;omega) ?_
 rw[← rel.length]
 exact h _ _ (I.tok _)
end
def zaJ (i:Expr):Prop:=∀ ov iv,subscripted i false ov iv=operate [ov,iv] (getItem ov iv)
theorem subD_of {prog:Program}{w:World}{A:Around}{E:Value→Shared→Prop}{s:Shared}{env:Env}{value slice:Expr}{pos:Pos}{T id:String}{Q:Value→Shared→Prop}
  (hl:typeLookup (.type T) "__getitem__" = pure (some (.builtin id))) (hs:zaJ slice)
  (h:wpAny (model prog w) A (eval value env) (fun o s₁=>wpAny (model prog w) A (eval slice env) (fun i s₂=>s₂.TypeIs o T∧wpAny (model prog w) A (getItem o i) Q E s₂) E s₁) E s) :
  wpAny (model prog w) A (eval (.Subscript value slice pos) env) Q E s:=by
 refine Subscript_ (wpAny_mono h (fun o s₁ h₁=>wpAny_mono h₁ (fun i s₂ h₂=>?_) fun _ _ x=>x) fun _ _ x=>x)
 obtain⟨hT,h₂⟩:=h₂
 unfold subscriptTail
 refine wpAny_bind ?_
 rw[getitemInPython_of_ne hT.not_modules]
 refine wpAny_bind (wpAny_specialOf hT hl ?_)
 have fin:wpAny (model prog w) A (subscripted slice false o i) (fun r s₃=>wpAny (model prog w) A (letTemporaryGo value o r >>= fun _=>pure r) Q E s₃) E s₂:=by
  rw[hs o i]
  exact wpAny_operating (wpAny_mono h₂ (fun r s₃ h₃=>wpAny_bind (wpAny_letTemporaryGo (wpAny_pure h₃))) fun _ _ x=>x)
 first
  |exact wpAny_pure (wpAny_bind fin)
  |exact wpAny_bind (wpAny_pure (wpAny_bind fin))
  |exact wpAny_bind fin
theorem uH {X:Cx}{pins:List (Addr×Obj)}{σ:St}{H:Hp}{s:Shared}{a:Addr}{y:V}{o:Option V}(I:Inv X pins σ H s) (g:DGet H a y o):s.TypeIs (.ref a) "dict" := by
 rcases g with⟨kvs,k,e,_,_⟩ | ⟨kvs,k,b,e,_,_,_⟩
 ·obtain⟨_,_,vs,_,dd⟩:=vo I.hok e
  exact dd.typeIs
 ·obtain⟨_,_,xs,_,dd⟩:=v0 I.hok e
  exact dd.typeIs
def WL (td ty:TE):TE:=fun σ H Q=>td σ H fun x H1=>ty σ H1 fun y H2=>∃ a v,x=.ref a∧DGet H2 a y (some v)∧Q v H2
def zaT (ty td:TE):TE:=fun σ H Q=>ty σ H fun y H1=>td σ H1 fun x H2=>∃ a o,x=.ref a∧DGet H2 a y o∧Q (.bl o.isSome) H2
def Z2 (ty td:TE):TE:=fun σ H Q=>ty σ H fun y H1=>td σ H1 fun x H2=>∃ a o,x=.ref a∧DGet H2 a y o∧Q (.bl (!o.isSome)) H2
def vH (td ty tv:TE):TS:=fun D σ H=>tv σ H fun v H1=>td σ H1 fun x H2=>ty σ H2 fun y H3=>∃ a H4,x=.ref a∧DPut H3 a y v H4∧D.nx σ H4
section
variable {X:Cx}{o i e value:Expr}{pos pos' tpos:Pos}{td ty tv:TE}
theorem uu (hu:X.A.units+1<cLine) (ho:PE X o td) (hi:PE X i ty) (hs:zaJ i):PE X (.Subscript o i pos) (WL td ty):=by
 intro pins s σ H Q I h
 refine subD_of PySem.F.slot_dict_getitem.lookup hs (thn (ho pins s σ H _ I h) fun u s1 ⟨x,H1,I1,rx,q1⟩=>thn (hi pins s1 σ H1 _ I1 q1) fun iv s2 hq0=>?_)
 obtain⟨y,H2,I2,ry,a,v,ex,g,q2⟩:=hq0
 subst ex
 obtain rfl:u=Value.ref a:=rx
 exact⟨uH I2 g,Y0 hu I2 g ry fun w' s3 I3 rw'=>⟨v,H2,I3,rw',q2⟩⟩
theorem Wn (hu:X.A.units+1<cLine) (hi:PE X i ty) (ho:PE X o td):PC X .In i o (zaT ty td):=by
 intro pins s σ H Q I h
 refine thn (hi pins s σ H _ I h) fun iv s1 ⟨y,H1,I1,ry,q1⟩=>thn (ho pins s1 σ H1 _ I1 q1) fun u s2 hq0=>?_
 obtain⟨x,H2,I2,rx,a,ov,ex,g,q2⟩:=hq0
 subst ex
 obtain rfl:u=Value.ref a:=rx
 exact zbQ hu I2 g ry fun s3 I3=>⟨.bl ov.isSome,H2,I3,rfl,q2⟩
theorem wg (hu:X.A.units+1<cLine) (hi:Bx (PE X i ty)) (ho:Bx (PE X o td)):Bx (PC X .NotIn i o (Z2 ty td)):=by
 have hi:=hi.of
 have ho:=ho.of
 refine⟨?_⟩
 intro pins s σ H Q I h
 refine thn (hi pins s σ H _ I h) fun iv s1 ⟨y,H1,I1,ry,q1⟩=>thn (ho pins s1 σ H1 _ I1 q1) fun u s2 hq0=>?_
 obtain⟨x,H2,I2,rx,a,ov,ex,g,q2⟩:=hq0
 subst ex
 obtain rfl:u=Value.ref a:=rx
 exact Vv hu I2 g ry fun s3 I3=>⟨.bl (!ov.isSome),H2,I3,rfl,q2⟩
theorem uq (hu:X.A.units+1<cLine) (ho:PE X o td) (hi:PE X i ty) (hv:PE X value tv) (hs:swapsWith value (some (.Subscript o i pos')) pos.line X.env=pure false) :
  PS X (.Assign [.Subscript o i pos'] value pos) (vH td ty tv):=by
 intro pins s σ H D I h
 refine wpAny_Assign_Subscript (thn (hv pins s σ H _ I h) fun r s1 ⟨v,H1,I1,rv,q1⟩=>thn (ho pins s1 σ H1 _ I1 q1) fun u s2 ⟨x,H2,I2,rx,q2⟩=>thn (hi pins s2 σ H2 _ I2 q2) fun iv s3 hq0=>?_) hs
 obtain⟨y,H3,I3,ry,a,H4,ex,g,q3⟩:=hq0
 subst ex
 obtain rfl:u=Value.ref a:=rx
 exact v4 hu I3 g ry rv fun s4 I4=>⟨σ,H4,I4,q3⟩
end
theorem XU {P:Program}{w:World}{H:Hp}(h:Heap) (hb:sysModules<h.objs.size):ObjOk P w H (h.push { cls:=.type "dict",data:=.dict #[] }) h.objs.size (.dK []) :=
 ⟨Nat.zero_le _,beq_eq_false_iff_ne.mpr (Ne.symm (Nat.ne_of_lt hb)),[],.nil,Heap.DictOf.new h⟩
theorem XS {P:Program}{w:World}{H:Hp}(h:Heap) (hb:sysModules<h.objs.size):ObjOk P w H (h.push { cls:=.type "dict",data:=.dict #[] }) h.objs.size (.dT []) :=
 ⟨Nat.zero_le _,beq_eq_false_iff_ne.mpr (Ne.symm (Nat.ne_of_lt hb)),[],.nil,_,#[],0,Heap.get?_push_size _ rfl,⟨rfl,rfl,rfl⟩,rfl,rfl,List.nodup_nil⟩
def uW:TE:=fun _ H Q=>∀ p,H p=none→Q (.ref p) (upd H p (.dK []))
def Wb:TE:=fun _ H Q=>∀ p,H p=none→Q (.ref p) (upd H p (.dT []))
section
variable {X:Cx}{pos:Pos}
theorem Zc:PE X (.Dict [] [] pos) uW:=fun pins s σ H Q I h =>
 wpAny_Dict_empty ⟨.ref s.heap.objs.size,_,I.laid (a:=s.heap.objs.size) (o:=.dK []) (t':=s.toks) (fun _ _ q=>Heap.get?_push_of_some _ q) (Nat.le_refl _) (XU s.heap I.big),rfl,h _ (I.hok.fresh (Nat.le_refl _))⟩
theorem Zb:PE X (.Dict [] [] pos) Wb:=fun pins s σ H Q I h =>
 wpAny_Dict_empty ⟨.ref s.heap.objs.size,_,I.laid (a:=s.heap.objs.size) (o:=.dT []) (t':=s.toks) (fun _ _ q=>Heap.get?_push_of_some _ q) (Nat.le_refl _) (XS s.heap I.big),rfl,h _ (I.hok.fresh (Nat.le_refl _))⟩
end
def mergeK (kvs more:List (Key×V)):List (Key×V):=more.foldl (fun acc kv=>putK acc kv.1 kv.2) kvs
theorem KV.merge:∀ {more:List (Key×V)}{rs:List (Key×Value)}{kvs:List (Key×V)}{vs:List (Key×Value)},KV more rs→KV kvs vs→KV (mergeK kvs more) (merged vs rs):=by
 intro more rs kvs vs r
 unfold KV at r
 induction r generalizing kvs vs with
 |nil=>intro q;exact q
 | @cons p q ps qs h t ih =>
  intro r0
  have e:KV (putK kvs p.1 p.2) (stored vs q.1 q.2):=by
   have:=r0.put p.1 h.2
   rw[← h.1];exact this
  exact ih e
structure M1 (X:Cx) (o:Expr) (m:Str) (apos:Pos) (e:Expr) (cpos:Pos):Prop where
 base:attributeBase o m X.env (eval o X.env)=eval o X.env
 few:((backTo cpos (starEach [e] X.env)).all (fun x=>!x.1)&&(backToKw cpos (keywordEach [] X.env)).all (fun x=>x.1.isSome)
  && decide (([e]:List Expr).length+([]:List Keyword).length+(if ([]:List Keyword).isEmpty then 0 else 1)<30))=true
 line:(apos.endLine == cpos.line)=true
 trees:backTo cpos (starEach [e] X.env)=[(false,eval e X.env)]
structure M2 (X:Cx) (o:Expr) (m:Str) (apos:Pos) (e f:Expr) (cpos:Pos):Prop where
 base:attributeBase o m X.env (eval o X.env)=eval o X.env
 few:((backTo cpos (starEach [e,f] X.env)).all (fun x=>!x.1)&&(backToKw cpos (keywordEach [] X.env)).all (fun x=>x.1.isSome)
  && decide (([e,f]:List Expr).length+([]:List Keyword).length+(if ([]:List Keyword).isEmpty then 0 else 1)<30))=true
 line:(apos.endLine == cpos.line)=true
 trees:backTo cpos (starEach [e,f] X.env)=[(false,eval e X.env),(false,eval f X.env)]
def IsD (H:Hp) (a:Addr):Prop:=(∃ kvs,Rd H a (.dK kvs))∨∃ kvs,Rd H a (.dT kvs)
theorem wS {X:Cx}{pins:List (Addr×Obj)}{σ:St}{H:Hp}{s:Shared}{a:Addr}(I:Inv X pins σ H s) (d:IsD H a) :
  s.TypeIs (.ref a) "dict" ∧ (∀ b,Value.ref a=.ref b→∃ ob,s.heap.get? b=some ob∧ob.dict=none)∧(a == sysModules)=false:=by
 rcases d with⟨kvs,e⟩ | ⟨kvs,e⟩
 ·obtain⟨_,hd,vs,_,dd⟩:=vo I.hok e
  refine⟨dd.typeIs,fun b q=>?_,hd⟩
  cases q
  obtain⟨ob,_,_,h1,h2,_⟩:=dd
  exact⟨ob,h1,h2.2.1⟩
 ·obtain⟨_,hd,xs,_,dd⟩:=v0 I.hok e
  refine⟨dd.typeIs,fun b q=>?_,hd⟩
  cases q
  obtain⟨ob,_,_,h1,h2,_⟩:=dd
  exact⟨ob,h1,h2.2.1⟩
section
variable {X:Cx}{pins:List (Addr×Obj)}{σ:St}{H:Hp}{s:Shared}{a:Addr}{y d:V}{u r:Value}{o:Option V}{A:Around}{E:Value→Shared→Prop}
theorem UF {Q:Value→Shared→Prop}(hu:A.units+1<cLine) (I:Inv X pins σ H s) (g:DGet H a y o) (ry:RelV y u) (h:∀ w' s',Inv X pins σ H s'→RelV (o.getD .non) w'→Q w' s') :
  wpAny (model X.prog X.w) A (call (.builtin "dict.get") [.ref a,u]) Q E s:=by
 rcases g with⟨kvs,k,e,ey,l⟩ | ⟨kvs,k,b,e,ey,eb,l⟩
 ·subst ey
  obtain⟨z,hd,vs,rel,dd⟩:=vo I.hok e
  refine call_meetsIn PySem.F.slot_dict_get dd.typeIs PySem.F.entry_dict_get (PySem.F.args_dict_get_2 _ _) (meets_dict_get (zx X.prog X.w) a (vk ry) hd) ⟨_,dd.mapOf,h _ _ (I.tok _) ?_⟩
  rw[l]
  exact(rel.val k).getD rfl
 ·subst ey
  cases (show u=Value.ref b from ry)
  obtain⟨z,hd,xs,rel,dd⟩:=v0 I.hok e
  refine call_meetsIn PySem.F.slot_dict_get dd.typeIs PySem.F.entry_dict_get (PySem.F.args_dict_get_2 _ _) (meetsH_dict_get (tupleKind (zx X.prog X.w)) a b hd) ⟨tupleKind_room_in1 hu,k,xs,xm I.hok eb,dd,h _ _ (I.tok _) ?_⟩
  rw[l]
  exact(rel.val k).getD rfl
theorem UE {Q:Value→Shared→Prop}(hu:A.units+1<cLine) (I:Inv X pins σ H s) (g:DGet H a y o) (ry:RelV y u) (rd:RelV d r) (h:∀ w' s',Inv X pins σ H s'→RelV (o.getD d) w'→Q w' s') :
  wpAny (model X.prog X.w) A (call (.builtin "dict.get") [.ref a,u,r]) Q E s:=by
 rcases g with⟨kvs,k,e,ey,l⟩ | ⟨kvs,k,b,e,ey,eb,l⟩
 ·subst ey
  obtain⟨z,hd,vs,rel,dd⟩:=vo I.hok e
  refine call_meetsIn PySem.F.slot_dict_get dd.typeIs PySem.F.entry_dict_get (PySem.F.args_dict_get_3 _ _ _) (meets_dict_get_default (zx X.prog X.w) a (vk ry) hd r) ⟨_,dd.mapOf,h _ _ (I.tok _) ?_⟩
  rw[l]
  exact(rel.val k).getD rd
 ·subst ey
  cases (show u=Value.ref b from ry)
  obtain⟨z,hd,xs,rel,dd⟩:=v0 I.hok e
  refine call_meetsIn PySem.F.slot_dict_get dd.typeIs PySem.F.entry_dict_get (PySem.F.args_dict_get_3 _ _ _) (meetsH_dict_get_default (tupleKind (zx X.prog X.w)) a b hd r) ⟨tupleKind_room_in1 hu,k,xs,xm I.hok eb,dd,h _ _ (I.tok _) ?_⟩
  rw[l]
  exact(rel.val k).getD rd
end
def VS (td ty:TE):TE:=fun σ H Q=>td σ H fun x H1=>∃ a,x=.ref a∧IsD H1 a∧ty σ H1 fun y H2=>∃ o,DGet H2 a y o∧Q (o.getD .non) H2
def VR (td ty tx:TE):TE:=fun σ H Q=>td σ H fun x H1=>∃ a,x=.ref a∧IsD H1 a∧ty σ H1 fun y H2=>tx σ H2 fun z H3=>∃ o,DGet H3 a y o∧Q (o.getD z) H3
section
variable {X:Cx}{o e f:Expr}{apos cpos:Pos}{td ty tx:TE}
theorem wL (hu:X.A.units+1<cLine) (ho:Bx (PE X o td)) (he:Bx (PE X e ty)) (m:M1 X o "get" apos e cpos):Bx (PE X (.Call (.Attribute o "get" apos) [e] [] cpos) (VS td ty)):=by
 have ho:=ho.of
 have he:=he.of
 refine⟨?_⟩
 intro pins s σ H Q I h
 refine wpAny_Call_method m.base m.few m.line PySem.F.plainAttrs_dict PySem.F.slot_dict_get PySem.F.type_dict_get (thn (ho pins s σ H _ I h) fun u s1 hq0=>?_)
 obtain⟨x,H1,I1,rx,a,ex,d,q1⟩:=hq0
 subst ex
 obtain rfl:u=Value.ref a:=rx
 obtain⟨t1,t2,_⟩:=wS I1 d
 refine⟨t1,t2,?_⟩
 rw[m.trees]
 refine Calls.callWith_builtin rfl (Calls.evalArgs_plain (Calls.spliced_cons (thn (he pins s1 σ H1 _ I1 q1) fun iv s2 ⟨y,H2,I2,ry,ov,g,q2⟩=>Calls.spliced_nil ?_)))
 exact UF hu I2 g ry fun w' s3 I3 rw'=>⟨_,H2,I3,rw',q2⟩
theorem Zx (hu:X.A.units+1<cLine) (ho:Bx (PE X o td)) (he:Bx (PE X e ty)) (hf:Bx (PE X f tx)) (m:M2 X o "get" apos e f cpos):Bx (PE X (.Call (.Attribute o "get" apos) [e,f] [] cpos) (VR td ty tx)):=by
 have ho:=ho.of
 have he:=he.of
 have hf:=hf.of
 refine⟨?_⟩
 intro pins s σ H Q I h
 refine wpAny_Call_method m.base m.few m.line PySem.F.plainAttrs_dict PySem.F.slot_dict_get PySem.F.type_dict_get (thn (ho pins s σ H _ I h) fun u s1 hq0=>?_)
 obtain⟨x,H1,I1,rx,a,ex,d,q1⟩:=hq0
 subst ex
 obtain rfl:u=Value.ref a:=rx
 obtain⟨t1,t2,_⟩:=wS I1 d
 refine⟨t1,t2,?_⟩
 rw[m.trees]
 refine Calls.callWith_builtin rfl (Calls.evalArgs_plain (Calls.spliced_cons (thn (he pins s1 σ H1 _ I1 q1) fun iv s2 ⟨y,H2,I2,ry,q2⟩ =>
  Calls.spliced_cons (thn (hf pins s2 σ H2 _ I2 q2) fun fv s3 ⟨z,H3,I3,rz,ov,g,q3⟩=>Calls.spliced_nil ?_))))
 exact UE hu I3 g ry rz fun w' s4 I4 rw'=>⟨_,H3,I4,rw',q3⟩
end
end L2
namespace Att
open PySem PySem.W PySem.Calls PyProof.Rows
theorem wA {P:Params}{h:Heap}:∀ (ns:LI) (vs:List Value),WellAll P h vs (ns.map WData.int)→IntsAre vs ns:=by
 intro ns
 induction ns with
 |nil =>
  intro vs w
  rw[List.map_nil] at w
  cases w
  exact .nil
 |cons n ns ih =>
  intro vs w
  rw[List.map_cons] at w
  cases w with
  |cons a b =>
   cases a
   exact .cons _ _ (ih _ b)
theorem Z9 {l:OpenLaw}{n:Nat}(hn:l.most=some n){P:Params}{h:Heap}{args:List WData}{vals:List Value}
  (hpre:l.row.toRowW.claim.pre args=true) (hwl:WellAll P h vals args) :
  ∃ a vs ns,vals=[Value.ref a]∧args=[WData.list (ns.map WData.int)]∧h.get? a=some { cls:=.type "list",data:=.seq vs.toArray }∧IntsAre vs ns∧ns.length≤n:=by
 have hsh:WShape.hasAll [] args [.list .int]=true:=(pre_splitW hpre).1
 have hc:l.pre.holds [] { args:=args }=true:=(pre_splitW hpre).2
 obtain⟨d,r,rfl,h1,h2⟩:=hasAllW_cons hsh
 obtain rfl:=hasAllW_nil h2
 obtain⟨xs,rfl,h3⟩:=hasW_list h1
 obtain⟨ns,rfl⟩:=items_int h3
 have hlen:ns.length≤n:=by
  unfold OpenLaw.pre at hc
  have h4:(WTm.not (.lt (.lit (.int (n:Int))) (.len (.arg 0)))).holds [] { args:=[.list (ns.map .int)] }=true:=by
   have h4:=(holds_andW hc).1
   rw[hn] at h4
   exact h4
  have h5:=condW_of h4 (w_not (w_lt w_lit (w_len_list (w_arg rfl))))
  rw[List.length_map] at h5
  refine Nat.le_of_not_lt fun q=>?_
  have q':(n:Int)<((ns.length:Nat):Int):=by omega
  first
   |(rw[decide_eq_true q'] at h5;exact absurd h5 (by decide))
   |(simp at h5;omega)
 cases hwl with
 |cons w1 w2 =>
  cases w2
  cases w1 with
  |list ho hall=>exact⟨_,_,ns,rfl,rfl,ho,wA ns _ hall,hlen⟩
theorem Yg (l:OpenLaw) (args:List WData):l.row.toRowW.claim.post args (.bool true) args=true :=
 postW_of (r:=l.row.toRowW) (X:=(true == true))
  (show WShape.has [] (.bool true) .bool=true by first | rfl | decide | simp[WShape.has,WShape.arms,WShape.armsAll])
  (show(WTm.eq .res (.lit (.bool true))).value [] { args:=args,res:=some (.bool true),after:=args }=some (.bool (true == true)) from w_eq_bool (w_res rfl) w_lit) rfl
theorem attach_call {l:OpenLaw}{n:Nat}{q:Program}{loose:List Str}{XP:(Str→Option Value)→Heap→Prop}{YP:World→Heap→Prop}{d:DefRec}
  (hn:l.most=some n) (hdf:d.params.defaults=[])
  (call:∀ (w:World) (s₀ s₁:Shared) (mg mb:Str→Option Value) (fa:Addr) (o:Obj) (pm cd doc:Value) (a:Addr) (vs:List Value) (ns:LI),
   Ground q loose [] XP w s₀ mg mb s₁.heap→YP w s₁.heap →
   s₁.heap.get? fa=some o→o.data=.func (docDef d.name d.params d.body d.scope pm cd doc)→s₁.heap.CodeRec cd d.name→mg d.name=some (.ref fa) →
   s₁.heap.get? a=some { cls:=.type "list",data:=.seq vs.toArray }→IntsAre vs ns→ns.length≤n→s₁.gens = #[] →
   codeAny (model l.prog w) callerA (.call (.ref fa) ⟨[.ref a],[]⟩) (fun r s'=>r=.ok (.ret (.bool true))∧OldK s₁.heap s'.heap∧s'.os=s₁.os∧AllBare s'.gens) s₁) :
  WalkO q loose XP YP l.row.toRowW d [] (fun f vs=>PySem.call f vs):=by
 intro w s₀ s₁ mg mb G Y fa o pm cd doc dV kV ho hd hcd hD hmg hg args vals as hpre hlay hrd hwl hlo
 obtain rfl:dV=.none:=Dflts.none hD hdf
 obtain rfl:kV=.none:=Dflts.noKw hD
 obtain⟨a,vs,ns,rfl,rfl,hobj,hints,hlen⟩:=Z9 hn hpre hwl
 refine enter_call (codeAny_mono (call w s₀ s₁ mg mb fa o pm cd doc a vs ns G Y ho (fd_plain hd) hcd hmg hobj hints hlen hg) fun r s' hq=>?_)
 obtain⟨rfl,h2,h3,h4⟩:=hq
 exact⟨.inl ⟨.bool true,.bool true,[],rfl,fun _=>rfl,.bool true,Yg l _,fun _=>⟨List.Pairwise.nil,fun _ hm=>(nomatch hm)⟩⟩,h2,h3,h4⟩
end Att
namespace L2
open PySem PySem.Spec PyProof.Rows
theorem vB:∀ {vs:List Value}{ns:LI},IntsAre vs ns→Vals (ns.map V.int) vs
 |_,_,.nil=>.nil
 |_,_,.cons n t h=>.cons ⟨t,rfl⟩ (vB h)
def UJ (H:Hp):Prop:=∀ b,H b=none∨∃ o xs,H b=some (.frz o (.lst xs))
theorem XJ {P:Program}{w:World}{K:PySem.W.Frag}{mg mb:Str→Option Value}{CX:CXT}{k:Nat}{fa a:Addr}{fd:FuncData}{x:Str}{sp:Sp}{s₁:Shared}{vs:List Value}{ns:LI}
  (KX:K.In s₁.heap) (hns:s₁.heap.Ns mainGlobals mg) (hb:s₁.heap.Ns builtinsNs mb) (hbb:∀ x:Str,x ≠ "__name__" → mb x=bootBuiltins x) (hlim:s₁.heap.NoLimit) (hg:s₁.gens = #[])
  (ha:s₁.heap.get? a=some { cls:=.type "list",data:=.seq vs.toArray }) (hi:IntsAre vs ns) (hl:ns.length≤sizeLine) (hr:Room k callerA)
  (F:∀ base:Heap,K.In base→base.Ns mainGlobals mg→FnOk P w K mg base CX k fa fd [x] sp) (hbind:∀ (s:Shared) (u:Value),BindsTo s fd ⟨[u],[]⟩ [(x,u)])
  (hsp:∀ H:Hp,UJ H→SqL K H a (ns.map V.int)→sp [.ref a] H (fun v _=>v=.bl true) fun _ _ _=>False)
  (hCX:∀ H e s',CX [] H s₁ (fun _ _ _=>False) e s'→False) :
  codeAny (model P w) callerA (.call (.ref fa) ⟨[.ref a],[]⟩) (fun r s'=>r=.ok (.ret (.bool true))∧OldK s₁.heap s'.heap∧s'.os=s₁.os∧AllBare s'.gens) s₁:=by
 have rv:=vB hi
 have lenV:=hi.length
 -- from an abstract heap in which nothing but the script may be tracked
 have core:∀ H:Hp,UJ H→SqL K H a (ns.map V.int)→HOk P w H s₁.heap→(∀ b,H b≠none→b=a)→(H a≠none→K.lookup a=none) →
   codeAny (model P w) callerA (.call (.ref fa) ⟨[.ref a],[]⟩) (fun r s'=>r=.ok (.ret (.bool true))∧OldK s₁.heap s'.heap∧s'.os=s₁.os∧AllBare s'.gens) s₁:=by
  intro H hO hS hok hA hK
  have base_of:∀ {b:Addr}{o:Obj},s₁.heap.get? b=some o→H b=none→(XN s₁.heap H).get? b=some o:=fun e n=>XM e n
  have noA:∀ {b:Addr}{o:Obj}{es:Array DictEntry}{ep:Nat},s₁.heap.get? b=some o→o.data=.dict es ep→H b=none:=fun {b o es ep} e d=>by
   cases q:H b with
   |none=>rfl
   |some u =>
    have e':b=a:=hA b (by rw[q];simp)
    subst e'
    rw[ha] at e;cases e
    have d':Data.seq vs.toArray _=Data.dict es ep:=d
    cases d'
  have nsK:∀ {b:Addr}{m:Str→Option Value},s₁.heap.Ns b m→(XN s₁.heap H).Ns b m:=fun {b m} ⟨o,es,ep,e,d,r⟩=>⟨o,es,ep,base_of e (noA e d),d,r⟩
  have hKb:K.In (XN s₁.heap H):=fun b o e=>base_of (KX b o e) (by
   cases q:H b with
   |none=>rfl
   |some u =>
    have e':b=a:=hA b (by rw[q];simp)
    subst e'
    rw[hK (by rw[q];simp)] at e;cases e)
  have hM:Mod K mg (XN s₁.heap H):=⟨hKb,nsK hns,⟨mb,nsK hb,hbb⟩,let ⟨mc,h1,h2⟩:=hlim;⟨mc,nsK h1,h2⟩⟩
  have e0:Env0 P w K mg (XN s₁.heap H) callerA [] s₁ H:=⟨rfl,hM,fun b o e=>Vk e,Nat.le_of_eq (YS _ _),trivial,fun b hb=>absurd (show b∈([]:List Addr) from hb) (by simp),hok,.of_eq hg⟩
  refine codeAny_mono ((F _ hKb (nsK hns)).run callerA [] s₁ H ⟨[.ref a],[]⟩ [.ref a] [.ref a] _ _ hr e0 (hbind s₁ (.ref a)) (.cons rfl .nil) (hsp H hO hS)) fun r s' h=>?_
  cases r with
  |error e=>exact(hCX H e s' h).elim
  |ok fl =>
   cases fl with
   |next=>exact False.elim h
   |brk=>exact False.elim h
   |cont=>exact False.elim h
   |ret u =>
    obtain⟨v,H',os,bare,un,hok',r',q⟩:=h
    have q':v=.bl true:=q
    subst q'
    obtain rfl:u=Value.bool true:=r'
    refine⟨rfl,OldK.of_keep fun b o e=>?_,os,bare⟩
    cases q:H b with
    |none=>exact un.keep b o e q (by intro z;exact absurd (show b∈([]:List Addr) from z) (by simp)) (by simp)
    |some u =>
     rcases hO b with z | ⟨ob,xs,z⟩
     ·rw[q] at z;cases z
     ·have z2:=un.frzs b ob _ z
      obtain⟨e1,_⟩:=hok b _ z
      obtain⟨e2,_⟩:=hok' b _ z2
      rw[e] at e1;cases e1
      exact e2
 cases hk:K.lookup a with
 |some o =>
  -- the script is one of the module's own objects
  have e:=KX a o hk
  rw[ha] at e
  cases e
  refine core (fun _=>none) (fun _=>.inl rfl) (.inr ⟨_,vs.toArray,_,hk,rfl,rfl,rfl,by rw[List.size_toArray,lenV];exact hl,by simpa using rv⟩) (fun b u z=>by have z':(none:Option HO)=some u:=z;cases z') (fun b z=>absurd rfl z) fun z=>absurd rfl z
 |none =>
  refine core (fun b=>if b=a then some (.frz { cls:=.type "list",data:=.seq vs.toArray } (.lst (ns.map V.int))) else none) (fun b=>?_) (.inl (.inr ⟨{ cls:=.type "list",data:=.seq vs.toArray },if_pos rfl⟩)) (fun b u z=>?_) (fun b z=>?_) fun _=>hk
  ·by_cases hb:b=a
   ·exact .inr ⟨_,_,if_pos hb⟩
   ·exact .inl (if_neg hb)
  ·by_cases hb:b=a
   ·have z':=(if_pos hb).symm.trans z
    cases z'
    subst hb
    exact⟨ha,by rw[List.length_map];exact hl,vs,_,rv,ha⟩
   ·have z':=(if_neg hb).symm.trans z
    cases z'
  ·by_cases hb:b=a
   ·exact hb
   ·exact absurd (if_neg hb) z
abbrev KOf {K:PySem.W.Frag}{h:Heap}(_:K.In h):PySem.W.Frag:=K
theorem WE {l:PySem.W.OpenLaw}{n k:Nat}{q:Program}{loose:List Str}{XP:(Str→Option Value)→Heap→Prop}{YP:World→Heap→Prop}{d:DefRec}{K:Params→PySem.W.Frag}{CX:World→CXT}{sp:World→Sp}{x:Str}
  (hn:l.most=some n) (hn2:n≤sizeLine) (hdf:d.params.defaults=[]) (hr:Room k callerA)
  (hY:∀ (w:World) (h:Heap),YP w h→(K w.params).In h)
  (F:∀ (w:World) (mg:Str→Option Value) (fa:Addr) (h:Heap),(K w.params).In h→h.Ns mainGlobals mg→mg d.name=some (.ref fa) →
   ∃ fd:FuncData,(∀ (s:Shared) (u:Value),BindsTo s fd ⟨[u],[]⟩ [(x,u)]) ∧
    ∀ base:Heap,(K w.params).In base→base.Ns mainGlobals mg→FnOk l.prog w (K w.params) mg base (CX w) k fa fd [x] (sp w))
  (hsp:∀ (w:World) (H:Hp) (a:Addr) (ns:LI),ns.length≤n→UJ H→SqL (K w.params) H a (ns.map V.int)→sp w [.ref a] H (fun v _=>v=.bl true) fun _ _ _=>False)
  (hCX:∀ (w:World) (H:Hp) (s:Shared) (e:Value) (s':Shared),CX w [] H s (fun _ _ _=>False) e s'→False) :
  PySem.W.WalkO q loose XP YP l.row.toRowW d [] (fun f vs=>PySem.call f vs):=by
 refine Att.attach_call hn hdf fun w s₀ s₁ mg mb fa o pm cd doc a vs ns G Y ho hd hcd hmg hobj hints hlen hg=>?_
 have KX:=hY w _ Y
 obtain⟨fd,hb,hF⟩:=F w mg fa _ KX G.T.g hmg
 exact XJ KX G.T.g G.T.b G.T.builtins G.T.nolimit hg hobj hints (Nat.le_trans hlen hn2) hr hF hb (fun H hO hS=>hsp w H a ns hlen hO hS) fun H e s'=>hCX w H s₁ e s'
theorem walk_ofK {l:PySem.W.OpenLaw}{n k:Nat}{q:Program}{loose:List Str}{XP:(Str→Option Value)→Heap→Prop}{YP:World→Heap→Prop}{d:DefRec}{K:Params→PySem.W.Frag}{CX:CXT}{sp:PySem.W.Frag→Sp}{x:Str}
  (hn:l.most=some n) (hn2:n≤sizeLine) (hdf:d.params.defaults=[]) (hr:Room k callerA)
  (hY:∀ (w:World) (h:Heap),YP w h→(K w.params).In h)
  (F:∀ (w:World) (mg:Str→Option Value) (fa:Addr) (h:Heap),(K w.params).In h→h.Ns mainGlobals mg→mg d.name=some (.ref fa) →
   ∃ fd:FuncData,(∀ (s:Shared) (u:Value),BindsTo s fd ⟨[u],[]⟩ [(x,u)]) ∧
    ∀ base:Heap,(K w.params).In base→base.Ns mainGlobals mg→FnOk l.prog w (K w.params) mg base CX k fa fd [x] (sp (K w.params)))
  (hsp:∀ (K:PySem.W.Frag) (H:Hp) (a:Addr) (ns:LI),ns.length≤n→UJ H→SqL K H a (ns.map V.int)→sp K [.ref a] H (fun v _=>v=.bl true) fun _ _ _=>False)
  (hCX:∀ (H:Hp) (s:Shared) (e:Value) (s':Shared),CX [] H s (fun _ _ _=>False) e s'→False) :
  PySem.W.WalkO q loose XP YP l.row.toRowW d [] (fun f vs=>PySem.call f vs) :=
 WE (K:=K) (CX:=fun _=>CX) (sp:=fun w=>sp (K w.params)) hn hn2 hdf hr hY F (fun w H a ns h1 h2 h3=>hsp (K w.params) H a ns h1 h2 h3) fun _ H s e s'=>hCX H s e s'
def inClass (s:Stmt) (j:Nat):Stmt:=match s with
 |.ClassDef _ _ _ body _ _ _ _ _ _ _=>body.getD j (.Pass ⟨0,0,0,0⟩)
 |_=>.Pass ⟨0,0,0,0⟩
def defArgs (s:Stmt):Arguments:=match s with
 |.FunctionDef _ a _ _ _ _ _ _ _ _=>a
 |_=>{ posonlyargs:=[],args:=[],vararg:=none,kwonlyargs:=[],kw_defaults:=[],kwarg:=none,defaults:=[] }
def defBody (s:Stmt):List Stmt:=match s with
 |.FunctionDef _ _ b _ _ _ _ _ _ _=>b
 |_=>[]
def defScope (s:Stmt):Scope:=match s with
 |.FunctionDef _ _ _ _ _ _ sc _ _ _=>sc
 |_=>{ kind:=.function,names:=[],isGenerator:=false,isCoroutine:=false }
abbrev CX0:CXT:=fun _ _ _ _ _ _=>False
abbrev E0:XK:=fun _ _ _=>False
theorem Xs {X:Cx}:wF CX0 X E0:=fun _ _ _ _ _ _ _ h=>h.elim
structure Fun (K:PySem.W.Frag) (x qual:Str) (st:Stmt) (f:Addr) (fd:FuncData):Prop where
 ex:∃ (oc:Value) (od:Option Addr) (kV doc pm:Value) (an:Option Addr) (cdv ct:Value) (osl:Array (Option Value)),
  fd=PySem.W.fnOf x qual (defArgs st) (defBody st) (defScope st) .none kV doc pm an cdv ct∧K.lookup f=some ⟨oc,od,.func fd,osl⟩∧PySem.W.codeIn K cdv qual=true
 kp:PySem.W.keepIn K (.ref f)=true
section
variable {P:Program}{w:World}{K:PySem.W.Frag}{mg:Str→Option Value}{base:Heap}
theorem Fun.ok {x qual:Str}{st:Stmt}{f:Addr}{fd:FuncData}{N ps:List Str}{k:Nat}{sp:Sp}(F:Fun K x qual st f fd) (S:FnScope N ps (defScope st)) (len:∀ vs H Q E,sp vs H Q E→vs.length=ps.length)
  (hbody:∀ (cdv:Value) (A:Around) (outer:List Env) (s:Shared) (H:Hp) (vs:List V) (Q:VK) (E:XK),Room k (A.deeper (envOfC qual (defScope st) s.heap.objs.size f cdv))→sp vs H Q E →
   ∃ t,PSs (VB CX0 P w K mg base N qual (defScope st) f cdv A outer s H E).nox (defBody st) t∧t { nx:=fun _ H'=>Q .non H',rt:=Q } (start N vs) H):FnOk P w K mg base CX0 (k+1) f fd ps sp:=by
 obtain⟨oc,od,kV,doc,pm,an,cdv,ct,osl,rfl,lk,hcd⟩:=F.ex
 refine zaC lk hcd S len fun A outer s H vs Q E hr hsp=>?_
 obtain⟨t,h,q⟩:=hbody cdv A outer s H vs Q E hr hsp
 exact⟨t,h.nox,q⟩
end
theorem xo {A:Around}{k:Nat}(hr:Room k A):A.units+1<cLine:=Nat.lt_of_le_of_lt (Nat.add_le_add_left (by decide:1≤64) _) hr.units
theorem zl {n:Nat}(h:n≤1000):n<sizeLine:=Nat.lt_of_le_of_lt h (by decide)
section
variable {X:Cx}
theorem pv (i:Nat){x:Str}{pos:Pos}(hN:X.N[i]?=some x:=by rfl) (hv:Vis X.env.scope x:=by first | exact Or.inl rfl | exact Or.inr (Or.inl rfl) | exact Or.inr (Or.inr rfl)) (hd:(x == ("__debug__" : Str))=false:=by decide)
  (hcd:(x == ("__classdict__" : Str))=false:=by decide):PE X (.Name x pos) (ya i):=Ub hN hv hd hcd
theorem v8:xb X (.builtin "len") (fun xs H Q=>∃ a kvs,xs=[V.ref a]∧H a=some (.dK kvs)∧Q (.int kvs.length) H):=by
 intro pins s σ H xs us Q I r h
 obtain⟨a,kvs,rfl,ha,q⟩:=h
 obtain⟨u,rfl,ru⟩:=ZY r
 cases ru
 exact zaE I (.inl ha) fun t s' I'=>⟨.int kvs.length,H,I',⟨t,rfl⟩,q⟩
end
theorem zbK {A B:Prop}(h:B):if false=true then A else B:=by
 rw[if_neg Bool.false_ne_true]
 exact h
theorem xn {A B:Prop}(h:A):if true=true then A else B:=by
 rw[if_pos rfl]
 exact h
theorem ite2 {c A B:Prop} [Decidable c] (h1:c→A) (h2:¬ c→B):if c then A else B:=by
 by_cases h:c
 ·rw[if_pos h]
  exact h1 h
 ·rw[if_neg h]
  exact h2 h
def Same (H H':Hp):Prop:=∀ b o,H b=some o→H' b=some o
theorem Same.refl (H:Hp):Same H H:=fun _ _ h=>h
theorem Same.trans {H H1 H2:Hp}(a:Same H H1) (b:Same H1 H2):Same H H2:=fun c o h=>b c o (a c o h)
theorem Same.free {H H':Hp}(e:Same H H'){l:Addr}(h:H' l=Option.none):H l=Option.none:=by
 cases q:H l with
 |none=>rfl
 |some o =>
  rw[e l o q] at h
  cases h
theorem Same.seq {K:PySem.W.Frag}{H H':Hp}{a:Addr}{xs:List V}(e:Same H H') (h:SqL K H a xs):SqL K H' a xs:=by
 rcases h with(h | ⟨o,h⟩) | h
 ·exact .inl (.inl (e _ _ h))
 ·exact .inl (.inr ⟨o,e _ _ h⟩)
 ·exact .inr h
section
variable {κ:Type} [DecidableEq κ]
theorem uV {kvs:List (κ×V)}{k:κ}(h:yM kvs k=none):¬ k∈kvs.map (·.1):=by
 intro m
 obtain⟨p,hp,e⟩:=List.mem_map.mp m
 have q:(kvs.any fun kv=>decide (kv.1=k))=true:=List.any_eq_true.mpr ⟨p,hp,decide_eq_true e⟩
 rw[yD,h] at q
 exact absurd q (by simp)
end
end L2
set_option maxHeartbeats 4000000
namespace L2
open PySem PySem.Spec PyProof.Rows
def VL (t u:TS):TS:=fun D σ H=>∃ M:St→Hp→Prop,t { D with nx:=M } σ H∧∀ σ' H',M σ' H'→u D σ' H'
theorem zX {X:Cx}{st:Stmt}{rest:List Stmt}{t u:TS}(h1:Bx (PS X st t)) (h2:Bx (PSs X rest u)):Bx (PSs X (st::rest) (VL t u)):=by
 have h1:=h1.of
 have h2:=h2.of
 refine⟨?_⟩
 intro pins s σ H D I h
 obtain⟨M,h,hM⟩:=h
 refine wpAny_execs_cons (thn (h1 pins s σ H { D with nx:=M } I h) fun f s1 q=>?_)
 cases f with
 |next =>
  obtain⟨σ',H',I',q⟩:=q
  exact h2 pins s1 σ' H' D I' (hM σ' H' q)
 |brk=>exact q
 |cont=>exact q
 |ret u=>exact q
theorem iteB {c:Bool}{A B:Prop}(hc:c=true) (h:A):if c=true then A else B:=by rw[if_pos hc];exact h
theorem iteN {c:Bool}{A B:Prop}(hc:c=false) (h:B):if c=true then A else B:=by rw[hc];exact zbK h
def PTs (X:Cx) (ifs:List Expr) (t:TT):Prop :=
 ∀ (pins:List (Addr×Obj)) (s:Shared) (σ:St) (H:Hp) (Q:Bool→Hp→Prop),Inv X pins σ H s→t σ H Q →
  wpAny (model X.prog X.w) X.A (forIn ifs true fun c r=>if r=true then do let ok ← isTrue c X.env (eval c X.env);pure (ForInStep.yield ok) else pure (ForInStep.yield r)) (TP X pins σ Q) X.xe s
def UK:TT:=fun _ H Q=>Q true H
theorem yes_if {τ:St}{H:Hp}{A B:Hp→Prop}(h:A H):UK τ H (fun b H5=>if b=true then A H5 else B H5):=by
 show if true=true then A H else B H
 exact xn h
theorem yF {X:Cx}:Bx (PTs X [] UK):=by
 exact⟨fun _ _ _ H _ I h=>wpAny_tests_nil ⟨H,I,h⟩⟩
theorem xi {X:Cx}{c:Expr}{t:TT}(h:Bx (PT X c t)):Bx (PTs X [c] t):=by
 have h:=h.of
 exact⟨fun pins s σ H Q I hw=>wpAny_tests_one (h pins s σ H Q I hw)⟩
section
variable {prog:Program}{w:World}{A:Around}{R:Result→Shared→Prop}{s:Shared}
abbrev NoE:Value→Shared→Prop:=fun _ _=>False
theorem zaA {α:Type}{m:Sem α}{Q:α→Shared→Prop}{E:Value→Shared→Prop}{s:Shared}(h:wpAny (model prog w) A m Q NoE s):wpAny (model prog w) A m Q E s :=
 wpAny_mono h (fun _ _ q=>q) fun _ _ z=>z.elim
def Y8 (prog:Program) (w:World) (A:Around) (env:Env) (tg:Expr) (ifs:List Expr) (elt:Expr) (it acc:Value) (again:Shared→Prop) (v:Value) (s1:Shared):Prop :=
 wpAny (model prog w) A (letOwnedTupleGo tg it v) (fun _ s2=>wpAny (model prog w) A (assign tg env v) (fun _ s3 =>
  wpAny (model prog w) A (forIn ifs true fun c r=>if r=true then do let ok ← isTrue c env (eval c env);pure (ForInStep.yield ok) else pure (ForInStep.yield r)) (fun ok s4 =>
   if ok=true then wpAny (model prog w) A (eval elt env) (fun x s5=>wpAny (model prog w) A (call (.builtin "list.append") [acc,x]) (fun _ s6=>again s6) NoE s5) NoE s4
   else again s4) NoE s3) NoE s2) NoE s1
theorem ZP {elt tg iter:Expr}{ifs:List Expr}{scope:Scope}{pos:Pos}{it acc:Value}{env:Env}(J:Nat→Shared→Prop)
  (turn:∀ n s,J n s→wpAny (model prog w) A (pyNext it) (fun r s1=>match r with
   |none=>R (.ok .next) s1
   |some v=>Y8 prog w A env tg ifs elt it acc (fun s6=>∃ m,m<n∧J m s6) v s1) NoE s)
  (n:Nat) (h:J n s):codeAny (model prog w) A (.compLoop (.ListComp elt [⟨tg,iter,ifs,0⟩] scope pos) 0 it acc env) R s:=by
 refine codeAny_loop rfl J (fun n s hJ=>?_) n h
 show wpAny _ A ((compTurn (.ListComp elt [⟨tg,iter,ifs,0⟩] scope pos) 0 it acc env).onRaise (fun x=>do noteFrame x env;theTreesLotGoes x)) _ _ s
 refine wpAny_noted (zaA ?_)
 rw[compTurn_list]
 refine wpAny_bind (wpAny_standAt (wpAny_bind (thn (turn n s hJ) fun r s1 h1=>?_)))
 cases r with
 |none=>exact wpAny_pure h1
 |some v =>
  refine wpAny_bind (thn h1 fun _ s2 h2=>wpAny_bind (thn h2 fun _ s3 h3=>wpAny_bind (thn h3 fun ok s4 h4=>?_)))
  cases ok with
  |false=>exact wpAny_pure ⟨rfl,h4⟩
  |true=>exact wpAny_bind (wpAny_bind (thn h4 fun x s5 h5=>wpAny_bind (thn h5 fun _ s6 h6=>wpAny_pure (wpAny_pure ⟨rfl,h6⟩))))
end
theorem uJ {env:Env}:∀ (names:List (Str×NameKind)) (acc:List (Str×Addr)),(∀ y∈names,y.2=.free→∃ c,env.cells.lookup y.1=some c)→(∀ x c,acc.lookup x=some c→env.cells.lookup x=some c) →
  ∃ cl,(forIn names acc (fun(y:Str×NameKind) (cs:List (Str×Addr))=>(if (y.2 == NameKind.free)=true then(do let c ← cellOf env y.1;pure (ForInStep.yield ((y.1,c)::cs))) else pure (ForInStep.yield cs):Sem (ForInStep (List (Str×Addr))))))=(pure cl:Sem (List (Str×Addr))) ∧
   (∀ x c,cl.lookup x=some c→env.cells.lookup x=some c)∧(∀ x,(acc.lookup x).isSome=true→(cl.lookup x).isSome=true)∧(∀ y∈names,y.2=.free→(cl.lookup y.1).isSome=true)
 |[],acc,_,h2=>⟨acc,rfl,h2,fun _ h=>h,fun y hy=>by cases hy⟩
 |(n,k)::r,acc,h1,h2=>by
  have h1':∀ y∈r,y.2=.free→∃ c,env.cells.lookup y.1=some c:=fun y hy=>h1 y (List.mem_cons_of_mem _ hy)
  by_cases hk:k=.free
  ·subst hk
   obtain⟨c,hc⟩:=h1 (n,.free) List.mem_cons_self rfl
   have h2':∀ x c',(((n,c)::acc:List (Str×Addr)).lookup x)=some c'→env.cells.lookup x=some c':=fun x c' e=>by
    rw[List.lookup_cons] at e
    by_cases hx:(x == n)=true
    ·rw[hx] at e
     cases e
     rw[beq_iff_eq.mp hx]
     exact hc
    ·rw[Bool.not_eq_true] at hx
     rw[hx] at e
     exact h2 x c' e
   obtain⟨cl,e,p1,p2,p3⟩:=uJ r ((n,c)::acc) h1' h2'
   refine⟨cl,?_,p1,fun x hx=>p2 x ?_,fun y hy hf=>?_⟩
   ·rw[List.forIn_cons]
    have q:cellOf env n=pure c:=by unfold cellOf;rw[hc]
    simp only[beq_self_eq_true,if_true,q,pure_bind]
    exact e
   ·rw[List.lookup_cons]
    cases q:x == n with
    |true=>rfl
    |false=>exact hx
   ·rcases List.mem_cons.mp hy with rfl | hy
    ·exact p2 n (by rw[List.lookup_cons,beq_self_eq_true];rfl)
    ·exact p3 y hy hf
  ·obtain⟨cl,e,p1,p2,p3⟩:=uJ r acc h1' h2
   have hb:(k == NameKind.free)=false:=by simpa using hk
   refine⟨cl,?_,p1,p2,fun y hy hf=>?_⟩
   ·rw[List.forIn_cons]
    simp only[hb,Bool.false_eq_true,if_false,pure_bind]
    exact e
   ·rcases List.mem_cons.mp hy with rfl | hy
    ·exact absurd hf hk
    ·exact p3 y hy hf
structure Clos (env:Env) (scope:Scope) (cl:List (Str×Addr)):Prop where
 eq:closureFor scope env=pure cl
 sub:∀ x c,cl.lookup x=some c→env.cells.lookup x=some c
 all:∀ y∈scope.names,y.2=.free→(cl.lookup y.1).isSome=true
theorem Y3 {env:Env}{scope:Scope}(h:∀ y∈scope.names,y.2=.free→∃ c,env.cells.lookup y.1=some c):∃ cl,Clos env scope cl:=by
 obtain⟨cl,e,p1,p2,p3⟩:=uJ (env:=env) scope.names [] h (fun x c z=>by simp at z)
 refine⟨cl,⟨?_,p1,p3⟩⟩
 have q:closureFor scope env=(forIn scope.names [] (fun(y:Str×NameKind) (cs:List (Str×Addr))=>(if (y.2 == NameKind.free)=true then(do let c ← cellOf env y.1;pure (ForInStep.yield ((y.1,c)::cs))) else pure (ForInStep.yield cs):Sem (ForInStep (List (Str×Addr))))) >>= fun s=>pure s):=rfl
 rw[q,e,pure_bind]
abbrev xB (X:Cx) (scope:Scope) (N':List Str) (cl:List (Str×Addr)) (C:Addr) (s₀:Shared) (H₀:Hp) (fp:List Addr):Cx :=
 { X with N:=N',s₀:=s₀,H₀:=H₀,env:=compEnvC scope cl C X.env,outer:=X.stack,ex:=fp,fn:=fun _=>false,pn:=[],xe:=NoE }
structure Blk where
 cl:List (Str×Addr)
 C:Addr
 s₀:Shared
 H₀:Hp
 fp:List Addr
abbrev cxB (X:Cx) (scope:Scope) (N':List Str) (b:Blk):Cx:=xB X scope N' b.cl b.C b.s₀ b.H₀ b.fp
def YQ:Option NameKind→Bool
 |some .cell=>true
 |some .free=>true
 |_=>false
theorem wf {k:Option NameKind}(h:YQ k=true):k=some .cell∨k=some .free:=by
 cases k with
 |none=>cases h
 |some k=>cases k<;>first | exact .inl rfl | exact .inr rfl | cases h
def X0 (N:List Str) (kd kd':Str→Option NameKind) (N':List Str) (t:Nat):List Nat→Nat→Bool
 |[],k=>N'.length == t+k
 |j::r,k=>(match N[j]?,N'[t+k]? with
  |some x,some y=>(x == y)&&YQ (kd x)&&YQ (kd' x)
  |_,_=>false)&&X0 N kd kd' N' t r (k+1)
theorem v7 {N:List Str}{kd kd':Str→Option NameKind}{N':List Str}{t:Nat}:∀ {caps:List Nat}{k:Nat},X0 N kd kd' N' t caps k=true→N'.length=t+k+caps.length
 |[],k,h=>by
  have:=beq_iff_eq.mp h
  simpa using this
 |j::r,k,h=>by
  have:=v7 (Bool.and_eq_true_iff.mp h).2
  rw[List.length_cons]
  omega
theorem Zq {N:List Str}{kd kd':Str→Option NameKind}{N':List Str}{t:Nat}:∀ {caps:List Nat}{k i j:Nat},X0 N kd kd' N' t caps k=true→caps[i]?=some j →
  ∃ x,N[j]?=some x∧N'[t+k+i]?=some x∧YQ (kd x)=true∧YQ (kd' x)=true
 |[],_,_,_,_,e=>by simp at e
 |j::r,k,0,j',h,e=>by
  simp at e
  subst e
  have h1:=(Bool.and_eq_true_iff.mp h).1
  cases q:N[j]? with
  |none=>rw[q] at h1;cases h1
  |some x =>
   cases q':N'[t+k]? with
   |none=>rw[q,q'] at h1;cases h1
   |some y =>
    rw[q,q'] at h1
    obtain⟨h2,h3⟩:=Bool.and_eq_true_iff.mp h1
    obtain⟨h4,h5⟩:=Bool.and_eq_true_iff.mp h2
    obtain rfl:x=y:=beq_iff_eq.mp h4
    exact⟨x,rfl,rfl,h5,h3⟩
 |j::r,k,i+1,j',h,e=>by
  obtain⟨x,a,b,c,d⟩:=Zq (i:=i) (Bool.and_eq_true_iff.mp h).2 (by simpa using e)
  refine⟨x,a,?_,c,d⟩
  have q:t+(k+1)+i=t+k+(i+1):=by omega
  rw[← q]
  exact b
structure CompOk (X:Cx) (scope:Scope) (N':List Str) (t:Nat) (caps:List Nat):Prop where
 kind:scope.kind=.function
 shape:(scope.names.all fun y=>(y.2 == .local&&scope.names.lookup y.1 == some .local)||(y.2 == .free&&YQ (X.env.kindOf y.1))||(y.2 == .globalImplicit))=true
 cap:X0 X.N X.env.kindOf (compEnvC scope [] 0 X.env).kindOf N' t caps 0=true
theorem CompOk.at {X:Cx}{scope:Scope}{N':List Str}{t:Nat}{caps:List Nat}(S:CompOk X scope N' t caps){y:Str×NameKind}(hy:y∈scope.names) :
  y.2≠.cell∧(y.2=.local→scope.names.lookup y.1=some .local)∧(y.2=.free→YQ (X.env.kindOf y.1)=true):=by
 have h:=List.all_eq_true.mp S.shape y hy
 obtain⟨n,k⟩:=y
 cases k<;>simp at h<;>simp[h]
def UH (t:Nat) (caps:List Nat) (σ:St):St:=List.replicate t none++caps.map fun j=>(σ[j]?).join
theorem xM {scope:Scope}{env:Env}{x:Str}:∀ {names:List (Str×NameKind)},(∀ y∈names,y.2≠.cell)→YQ ((names.map fun(y:Str×NameKind)=>if (y.2 == NameKind.free&&env.scope.kind == .function&&env.kindOf y.1 == some .cell)=true then(y.1,NameKind.cell) else(y.1,y.2)).lookup x)=true →
  (x,NameKind.free)∈names
 |[],_,h=>by simp[YQ] at h
 |(n,k)::r,hn,h=>by
  have hr:∀ y∈r,y.2≠.cell:=fun y hy=>hn y (List.mem_cons_of_mem _ hy)
  have hk:k≠.cell:=hn (n,k) List.mem_cons_self
  rw[List.map_cons] at h
  by_cases hx:(x == n)=true
  ·obtain rfl:x=n:=beq_iff_eq.mp hx
   have q:k=.free:=by
    by_cases hf:k=.free
    ·exact hf
    ·exfalso
     have hb:(k == NameKind.free)=false:=by simpa using hf
     simp only[hb,Bool.false_and,Bool.false_eq_true,if_false,List.lookup_cons,beq_self_eq_true] at h
     cases k<;>simp[YQ] at h hk hf
   subst q
   exact List.mem_cons_self
  ·rw[Bool.not_eq_true] at hx
   refine List.mem_cons_of_mem _ (xM (scope:=scope) (env:=env) hr ?_)
   by_cases hc:(k == NameKind.free&&env.scope.kind == .function&&env.kindOf n == some .cell)=true
   ·simp only[hc,if_true,List.lookup_cons,hx] at h
    exact h
   ·rw[Bool.not_eq_true] at hc
    simp only[hc,Bool.false_eq_true,if_false,List.lookup_cons,hx] at h
    exact h
def uc (J:It) (g:TG) (tc:TT) (te:TE) (Q:VK) (D:Addr) (τ0:St) (H0:Hp):Prop :=
 ∃ W:Nat→Nat→List V→St→Hp→Prop,(∃ m,W 0 m [] τ0 H0)∧∀ i m ys τ H,W i m ys τ H →
  (J.stop i H∧Q (.ref D) H)∨(J.go i H∧∃ N:List V→St→Hp→Prop,(∀ zs τ' H',N zs τ' H'→∃ m',m'<m∧W (i+1) m' zs τ' H')∧∀ x H3,J.yld i H x H3→g x τ H3 fun τ2 H4=>tc τ2 H4 fun b H5 =>
   if b=true then te τ2 H5 fun y H6=>H6 D=some (.lst ys)∧ys.length<sizeLine∧N (ys++[y]) τ2 (upd H6 D (.lst (ys++[y]))) else N ys τ2 H5)
def WM (wi:TI) (g:Blk→TG) (tc:Blk→TT) (te:Blk→TE) (t:Nat) (caps:List Nat):TE:=fun σ H Q =>
 wi σ H fun J H1=>∀ D,H1 D=none→∀ b:Blk,uc J (g b) (tc b) (te b) Q D (UH t caps σ) (upd H1 D (.lst []))
theorem vp {J:It}{g:TG}{tc:TT}{te:TE}{Q:VK}{D:Addr}{τ0:St}{H0:Hp}(n:Nat) (Pv:Nat→List V→St→Hp→Prop) (h0:Pv 0 [] τ0 H0)
  (hst:∀ zs τ H,Pv n zs τ H→J.stop n H∧Q (.ref D) H)
  (hgo:∀ i zs τ H,i<n→Pv i zs τ H→J.go i H∧∀ x H3,J.yld i H x H3→g x τ H3 fun τ2 H4=>tc τ2 H4 fun b H5 =>
   if b=true then te τ2 H5 fun y H6=>H6 D=some (.lst zs)∧zs.length<sizeLine∧Pv (i+1) (zs++[y]) τ2 (upd H6 D (.lst (zs++[y]))) else Pv (i+1) zs τ2 H5):uc J g tc te Q D τ0 H0:=by
 refine⟨fun i m zs τ H=>m=n-i∧i≤n∧Pv i zs τ H,⟨n,by simp,Nat.zero_le _,h0⟩,?_⟩
 rintro i m zs τ H ⟨rfl,hi,p⟩
 by_cases hlt:i<n
 ·obtain⟨go,step⟩:=hgo i zs τ H hlt p
  exact .inr ⟨go,Pv (i+1),fun zs' τ' H' p'=>⟨n-(i+1),by omega,rfl,hlt,p'⟩,step⟩
 ·have e:i=n:=by omega
  subst e
  exact .inl (hst zs τ H p)
theorem comp_list {K:PySem.W.Frag}{a:Addr}{xs:List V}{g:TG}{tc:TT}{te:TE}{Q:VK}{D:Addr}{τ0:St}{H0:Hp}(Pv:Nat→List V→St→Hp→Prop) (h0:Pv 0 [] τ0 H0) (hl:∀ i zs τ H,Pv i zs τ H→SqL K H a xs)
  (hs:∀ i x zs τ H,xs[i]?=some x→Pv i zs τ H→g x τ H fun τ2 H4=>tc τ2 H4 fun b H5 =>
   if b=true then te τ2 H5 fun y H6=>H6 D=some (.lst zs)∧zs.length<sizeLine∧Pv (i+1) (zs++[y]) τ2 (upd H6 D (.lst (zs++[y]))) else Pv (i+1) zs τ2 H5)
  (hd:∀ zs τ H,Pv xs.length zs τ H→Q (.ref D) H):uc (Itl K a) g tc te Q D τ0 H0 :=
 vp xs.length Pv h0 (fun zs τ H p=>⟨⟨xs,hl _ _ _ _ p,Nat.le_refl _⟩,hd zs τ H p⟩) fun i zs τ H hi p=>⟨⟨xs,xs[i],hl _ _ _ _ p,by simp[hi]⟩,fun x H3 y=>by
  obtain⟨e,y⟩:=y
  subst e
  exact hs i x zs τ _ (y xs (hl _ _ _ _ p)) p⟩
theorem XY {K:PySem.W.Frag}{a:Addr}{xs:List V}{g:TG}{tc:TT}{te:TE}{Q:VK}{D:Addr}{τ0:St}{H0:Hp}(Pv:Nat→List V→St→Hp→Prop) (h0:Pv 0 [] τ0 H0) (hl:∀ i zs τ H,Pv i zs τ H→SqT K H a xs)
  (hs:∀ i x zs τ H,xs[i]?=some x→Pv i zs τ H→g x τ H fun τ2 H4=>tc τ2 H4 fun b H5 =>
   if b=true then te τ2 H5 fun y H6=>H6 D=some (.lst zs)∧zs.length<sizeLine∧Pv (i+1) (zs++[y]) τ2 (upd H6 D (.lst (zs++[y]))) else Pv (i+1) zs τ2 H5)
  (hd:∀ zs τ H,Pv xs.length zs τ H→Q (.ref D) H):uc (Itt K a) g tc te Q D τ0 H0 :=
 vp xs.length Pv h0 (fun zs τ H p=>⟨⟨xs,hl _ _ _ _ p,Nat.le_refl _⟩,hd zs τ H p⟩) fun i zs τ H hi p=>⟨⟨xs,xs[i],hl _ _ _ _ p,by simp[hi]⟩,fun x H3 y=>by
  obtain⟨e,y⟩:=y
  subst e
  exact hs i x zs τ _ (y xs (hl _ _ _ _ p)) p⟩
section
variable {X:Cx}{tg iter elt:Expr}{ifs:List Expr}{scope:Scope}{pos:Pos}{N':List Str}{t:Nat}{caps:List Nat}{g:Blk→TG}{tc:Blk→TT}{te:Blk→TE}{wi:TI}
theorem FpOk.heap {pins:List (Addr×Obj)}{H H':Hp}{b:Addr}(f:FpOk X pins H b) (h:H' b=none):FpOk X pins H' b:=⟨h,f.2⟩
theorem v5 {cl:List (Str×Addr)}{J:It}{fp:List Addr}{it:Addr}{tn:Nat→Heap→Prop}{pins:List (Addr×Obj)}{σ:St}{H2:Hp}{s2:Shared}{Q:VK}{E:Value→Shared→Prop}
  (hc:X.calm=true) (S:CompOk X scope N' t caps) (L:Clos X.env scope cl)
  (hg:∀ b,PG (cxB X scope N' b) tg (g b)) (ht:∀ b,PTs (cxB X scope N' b) ifs (tc b)) (he:∀ b,PE (cxB X scope N' b) elt (te b))
  (I2:Inv X pins σ H2 s2) (T:Turn X.prog X.w X.K tg J fp it tn) (st2:tn 0 s2.heap) (f2:∀ b∈fp,FpOk X pins H2 b)
  (R:∀ D,H2 D=none→∀ b,uc J (g b) (tc b) (te b) Q D (UH t caps σ) (upd H2 D (.lst []))) :
  wpAny (model X.prog X.w) X.A (newList []) (fun acc s3=>wpAny (model X.prog X.w) X.A (newFunctionEnv scope X.env.globals cl [] X.env.qual none .none (some X.env)) (fun cenv s4 =>
   codeAny (model X.prog X.w) X.A (.compStart (.ListComp elt [⟨tg,iter,ifs,0⟩] scope pos) 0 (.ref it) acc { cenv with scope:=relabel scope X.env })
    (fun r s'=>∃ (D:Addr) (H':Hp) (m:Str→Option Value),acc=.ref D∧r=.ok .next∧Inv X pins σ H' s'∧s'.heap.Ns cenv.locals m∧FpOk X pins H' cenv.locals∧Q (.ref D) H') s4) E s3) E s2:=by
 refine wpAny_newObj_type ?_
 have I3:Inv X pins σ (upd H2 s2.heap.objs.size (.lst [])) { s2 with heap:=s2.heap.push { cls:=.type "list",data:=.seq ([]:List Value).toArray } }:=I2.lnew (t':=s2.toks) .nil (Nat.zero_le _)
 have hD:H2 s2.heap.objs.size=none:=I2.fresh
 have R:=R _ hD
 generalize hs3:({ s2 with heap:=s2.heap.push { cls:=.type "list",data:=.seq ([]:List Value).toArray } }:Shared)=s3 at I3 ⊢
 generalize hH3:upd H2 s2.heap.objs.size (.lst [])=H3 at I3 R
 generalize hDD:s2.heap.objs.size=D at R ⊢
 have k3:∀ b o,s2.heap.get? b=some o→s3.heap.get? b=some o:=fun b o e=>by rw[← hs3];exact Heap.get?_push_of_some _ e
 have st3:tn 0 s3.heap:=T.keep 0 _ _ st2 fun b _ o e=>k3 b o e
 have fpn:∀ b∈fp,H3 b=none:=fun b hb=>by
  obtain⟨o,e,_⟩:=T.obj 0 _ st2 b hb
  rw[← hH3,upd_ne (Nat.ne_of_lt (Heap.lt_size e))]
  exact(f2 b hb).1
 have f3:∀ b∈fp,FpOk X pins H3 b:=fun b hb=>(f2 b hb).heap (fpn b hb)
 refine wpAny_newFunctionEnv (fun y hy=>(S.at hy).1) (by intro y hy;simp at hy) (fun h4 hns hsb=>?_) S.kind
 generalize hC:s3.heap.objs.size=C at hns hsb ⊢
 have k4:∀ b o,s3.heap.get? b=some o→h4.get? b=some o:=fun b o e=>hsb.extBut b o (by rw[← hC];exact Nat.ne_of_lt (Heap.lt_size e)) (Heap.get?_push_of_some _ e)
 have cellsub:∀ x c,(xB X scope N' cl C s3 H3 fp).env.cells.lookup x=some c→X.env.cells.lookup x=some c:=L.sub
 have hnc:∀ y∈scope.names,y.2≠.cell:=fun y hy=>(S.at hy).1
 have fC:∀ {H':Hp},H' C=none→FpOk X pins H' C:=fun h=>by rw[← hC] at h ⊢;exact I3.fpOk (Nat.le_refl _) h
 have I4:Inv (xB X scope N' cl C s3 H3 fp) [] (UH t caps σ) H3 { s3 with heap:=h4,toks:=s3.toks+([]:List (Str×Value)).length }:=by
  refine⟨⟨I3.ok.mod,S.kind,I3.ok.glob,I3.ok.blt,Nat.le_of_eq hC,fun x y c h1 h2=>I3.ok.inj x y c (L.sub _ _ h1) (L.sub _ _ h2),fun x hx=>?_,fun x c h _=>absurd (show false=true from h) Bool.false_ne_true,I3.ok.hd,I3.ok.frames,.inl rfl,fun b hb=>⟨?_,fun x c e=>(f3 b hb).2.2.2.2.1 x c (L.sub x c e)⟩,
    I3.bs,Nat.le_trans I3.ok.bsz I3.sz,fun b o e hb=>?_,fun b hb z=>?_,I3.stack,I3.stkFree⟩,
   rfl,I3.bare,Un.kept k4,⟨_,hns,fun i x v e1 e2 e3=>?_⟩,fun x c e=>?_,(by rw[← hC];exact I3.fresh),fun x c e=>I3.freeC x c (L.sub x c e),fun p hp=>?_,I3.hok.kept k4,?_⟩
  ·have hx':YQ ((relabel scope X.env).names.lookup x)=true:=by
    rcases hx with q | q
    ·rw[show(relabel scope X.env).names.lookup x=some .cell from q];rfl
    ·rw[show(relabel scope X.env).names.lookup x=some .free from q];rfl
   exact Option.isSome_iff_exists.mp (L.all _ (xM (scope:=scope) hnc hx') rfl)
  ·obtain⟨o,e,_⟩:=T.obj 0 _ st3 b hb
   rw[← hC]
   exact Nat.ne_of_lt (Heap.lt_size e)
  ·rcases(f3 b hb).2.2.2.1 with z | z
   ·exact I3.ok.noex b o e z
   ·exact absurd (Nat.lt_of_lt_of_le (Nat.lt_of_lt_of_le (Heap.lt_size e) I3.ok.bsz) z) (Nat.lt_irrefl _)
  ·rcases List.mem_cons.mp (I3.stkSub b z) with q | q
   ·exact(f3 b hb).2.1 q
   ·exact(f3 b hb).2.2.1 q
  ·-- a name that was taken over
   unfold UH at e2
   by_cases hi:i<t
   ·rw[List.getElem?_append_left (by simpa using hi),List.getElem?_replicate] at e2
    simp[hi] at e2
   ·rw[List.getElem?_append_right (by simpa using hi),List.length_replicate,List.getElem?_map] at e2
    cases q:caps[i-t]? with
    |none=>rw[q] at e2;simp at e2
    |some j =>
     rw[q] at e2
     obtain⟨y,c1,c2,c3,c4⟩:=Zq S.cap q
     have ei:t+0+(i-t)=i:=by omega
     rw[ei] at c2
     have exy:x=y:=Option.some.inj ((show N'[i]?=some x from e1).symm.trans c2)
     subst exy
     have e2':σ[j]?=some (some v):=by
      have e2:(σ[j]?).join=some v:=Option.some.inj e2
      cases r:σ[j]? with
      |none=>rw[r] at e2;cases e2
      |some z =>
       rw[r] at e2
       have e2:z=some v:=e2
       rw[e2]
     obtain⟨m,hn,hl⟩:=I3.loc
     have cf:=wf c3
     obtain⟨u,ru,lk⟩:=hl j x v c1 e2' (.inr (by
      rcases cf with z | z
      ·exact .inl z
      ·exact .inr z))
     refine⟨u,ru,.inr ⟨wf c4,?_⟩⟩
     rcases lk with⟨z,_⟩ | ⟨_,c,ec,zc⟩
     ·rcases cf with w | w<;>(rw[z] at w;cases w)
     ·have hfree:=xM (scope:=scope) (env:=X.env) (x:=x) hnc c4
      obtain⟨c',ec'⟩:=Option.isSome_iff_exists.mp (L.all _ hfree rfl)
      have:=L.sub _ _ ec'
      rw[show X.env.cells.lookup x=some c from ec] at this
      cases this
      obtain⟨o,ho,hd⟩:=zc
      exact⟨c,ec',o,k4 _ _ ho,hd⟩
  ·obtain⟨v,o,ho,hd⟩:=I3.cell x c (L.sub x c e)
   exact⟨v,o,k4 _ _ ho,hd⟩
  ·exact absurd (show p∈([]:List (Addr×Obj)) from hp) (by simp)
  ·unfold UH
   rw[List.length_append,List.length_replicate,List.length_map,v7 S.cap]
   omega
 obtain⟨W,⟨m0,w0⟩,turn⟩:=R ⟨cl,C,s3,H3,fp⟩
 -- back to the frame outside
 have back:∀ {τ:St}{H':Hp}{s':Shared},Inv (xB X scope N' cl C s3 H3 fp) [] τ H' s'→Inv X pins σ H' s':=fun {τ H' s'} J=>by
  refine I3.call' (ch:=fp) (J.os.trans ?_) J.base J.hok J.bare fun b hb=>⟨(f3 b hb).2.2.2.1,(f3 b hb).2.1,(f3 b hb).2.2.2.2.1,(f3 b hb).2.2.2.2.2⟩
  rfl
 have stat:∀ {H':Hp},(∀ b∈fp,H' b=none)→∀ b∈fp,FpOk (xB X scope N' cl C s3 H3 fp) [] H' b:=fun {H'} hn b hb=>by
  refine⟨hn b hb,(I4.ok.exf b hb).1,I4.ok.exfs b hb,.inl hb,(I4.ok.exf b hb).2,fun p hp=>?_⟩
  exact absurd (show p∈([]:List (Addr×Obj)) from hp) (by simp)
 have loop:codeAny (model X.prog X.w) X.A (.compLoop (.ListComp elt [⟨tg,iter,ifs,0⟩] scope pos) 0 (.ref it) (.ref D) (compEnvC scope cl C X.env))
   (fun r s'=>∃ (D':Addr) (H':Hp) (m:Str→Option Value),Value.ref D=.ref D'∧r=.ok .next∧Inv X pins σ H' s'∧s'.heap.Ns C m∧FpOk X pins H' C∧Q (.ref D') H') { s3 with heap:=h4,toks:=s3.toks+([]:List (Str×Value)).length }:=by
  refine ZP (fun n s'=>∃ i ys τ H',Inv (xB X scope N' cl C s3 H3 fp) [] τ H' s'∧tn i s'.heap∧(∀ b∈fp,H' b=none)∧W i n ys τ H') ?_ m0 ⟨0,[],_,H3,I4,T.keep 0 _ _ st3 fun b _ o e=>k4 b o e,fpn,w0⟩
  rintro n s5 ⟨i,ys,τ,H5,I5,st5,fr5,w5⟩
  rcases turn i n ys τ H5 w5 with⟨stop,q⟩ | ⟨go,N,hN,step⟩
  ·refine thn (T.done (xB X scope N' cl C s3 H3 fp) rfl rfl rfl hc i [] s5 τ H5 NoE I5 (stat fr5) st5 stop) fun r s6 ⟨hr,I6⟩=>?_
   subst hr
   obtain⟨m,hm,_⟩:=id I6.loc
   exact⟨D,H5,m,rfl,rfl,back I6,hm,fC I6.free,q⟩
  ·refine thn (T.item (xB X scope N' cl C s3 H3 fp) rfl rfl rfl hc i [] s5 τ H5 NoE I5 (stat fr5) st5 go) fun r s6 ⟨u,hr,h6⟩=>?_
   subst hr
   refine thn h6 fun _ s7 hq0=>?_
   obtain⟨x,H7,I7,r7,y7,st7,fr7⟩:=hq0
   have I7':=I7.pinned (stat fr7) (T.obj _ _ st7)
   have again:∀ {τ9:St}{H9:Hp}{s9:Shared}{ys9:List V}{m':Nat},Inv (xB X scope N' cl C s3 H3 fp) ([]++vM fp s7.heap) τ9 H9 s9→m'<n→W (i+1) m' ys9 τ9 H9 →
     ∃ m,m<n∧∃ i ys τ H',Inv (xB X scope N' cl C s3 H3 fp) [] τ H' s9∧tn i s9.heap∧(∀ b∈fp,H' b=none)∧W i m ys τ H':=fun {τ9 H9 s9 ys9 m'} I9 hm w9=>by
    refine⟨m',hm,i+1,ys9,τ9,H9,I9.unpinned,T.keep _ _ _ st7 fun b hb o e=>(I9.pin (b,o) (List.mem_append_right _ (List.mem_append_right _ (xv hb e)))).1,fun b hb=>?_,w9⟩
    obtain⟨o,e,_⟩:=T.obj _ _ st7 b hb
    exact(I9.pin (b,o) (List.mem_append_right _ (List.mem_append_right _ (xv hb e)))).2.1
   refine thn (hg ⟨cl,C,s3,H3,fp⟩ _ s7 τ H7 x u _ I7' r7 (step x H7 y7)) fun _ s8 hq0=>?_
   obtain⟨τ8,H8,I8,q8⟩:=hq0
   refine thn (ht ⟨cl,C,s3,H3,fp⟩ _ s8 τ8 H8 _ I8 q8) fun ok s9 hq0=>?_
   obtain⟨H9,I9,q9⟩:=hq0
   cases ok with
   |false =>
    obtain⟨m',hm,w9⟩:=hN _ _ _ (show N ys τ8 H9 from q9)
    exact again I9 hm w9
   |true =>
    refine thn (he ⟨cl,C,s3,H3,fp⟩ _ s9 τ8 H9 _ I9 q9) fun y s10 hq0=>?_
    obtain⟨z,H10,I10,r10,hl,hz,q10⟩:=hq0
    refine thn (zU _ s10 τ8 H10 (.ref D) [z] (.ref D) [y] (fun v H11=>v=.non∧H11=upd H10 D (.lst (ys++[z]))) I10 rfl (.cons r10 .nil) ⟨D,ys,z,rfl,rfl,hl,hz,rfl,rfl⟩) fun _ s11 hq0=>?_
    obtain⟨v,H11,I11,_,_,e11⟩:=hq0
    subst e11
    obtain⟨m',hm,w10⟩:=hN _ _ _ q10
    exact again I11 hm w10
 exact codeAny_compStart_list loop (T.self _ 0 _ _ _ (T.keep 0 _ _ st3 fun b _ o e=>k4 b o e) loop)
theorem yo (hc:X.calm=true) (S:CompOk X scope N' t caps) (hi:Bx (PI X tg iter wi)) (hg:∀ b,Bx (PG (cxB X scope N' b) tg (g b))) (ht:∀ b,Bx (PTs (cxB X scope N' b) ifs (tc b))) (he:∀ b,Bx (PE (cxB X scope N' b) elt (te b))) (hs:∀ x,foldedSetIterable iter X.env x=pure x:=by intro _;rfl):Bx (PE X (.ListComp elt [⟨tg,iter,ifs,0⟩] scope pos) (WM wi g tc te t caps)):=by
 have hi:=hi.of
 have hg:=fun x0=>(hg x0).of
 have ht:=fun x0=>(ht x0).of
 have he:=fun x0=>(he x0).of
 refine⟨?_⟩
 intro pins s σ H Q I h
 obtain⟨cl,L⟩:=Y3 (env:=X.env) (scope:=scope) fun y hy hf=>I.ok.has y.1 (wf ((S.at hy).2.2 hf))
 rw[eval_ListComp]
 refine wpAny_comprehension_free (use:=none) rfl hs L.eq S.kind (fun y hy=>(S.at hy).2.1) (thn (hi pins s σ H _ I h) fun x s1 h1=>thn h1 fun itv s2 h2=>?_)
 obtain⟨it,fp,tn,J,H2,rfl,I2,T,st2,f2,R⟩:=h2
 refine thn (v5 hc S L hg ht he I2 T st2 f2 R) fun acc s3 h3=>thn h3 fun cenv s4 h4=>codeAny_mono h4 fun r s' hr=>?_
 obtain⟨D,H',m,rfl,rfl,I',hm,fC,q⟩:=hr
 obtain⟨c0,c1,c2,c3,c4,c5⟩:=fC
 exact⟨m,hm,fun h' sb=>⟨.ref D,H',I'.turned (t':=s'.toks) (fun b o hb e=>sb.extBut b o hb e) c0 c1 c3 c4 c5,rfl,q⟩⟩
theorem xU {i:Nat}{y:Str}{py spos:Pos}(hc:X.calm=true) (hN:X.N.Nodup) (hiy:X.N[i]?=some y) (hy:Loc X.env.scope y) (S:CompOk X scope N' t caps) (hi:Bx (PI X tg iter wi)) (hg:∀ b,Bx (PG (cxB X scope N' b) tg (g b))) (ht:∀ b,Bx (PTs (cxB X scope N' b) ifs (tc b))) (he:∀ b,Bx (PE (cxB X scope N' b) elt (te b))) (hsw:swapsWith (.ListComp elt [⟨tg,iter,ifs,0⟩] scope pos) (some (.Name y py)) spos.line X.env=pure true:=by rfl) (hs:∀ x,foldedSetIterable iter X.env x=pure x:=by intro _;rfl) (hf:X.fn y=true∨X.env.scope.names.lookup y=some .local:=by first | exact .inl rfl | exact .inr rfl | assumption):Bx (PS X (.Assign [.Name y py] (.ListComp elt [⟨tg,iter,ifs,0⟩] scope pos) spos) (WN (WM wi g tc te t caps) (xQ i))):=by
 have hi:=hi.of
 have hg:=fun x0=>(hg x0).of
 have ht:=fun x0=>(ht x0).of
 have he:=fun x0=>(he x0).of
 refine⟨?_⟩
 intro pins s σ H D' I h
 obtain⟨cl,L⟩:=Y3 (env:=X.env) (scope:=scope) fun y hy hf=>I.ok.has y.1 (wf ((S.at hy).2.2 hf))
 rw[exec_Assign_Name_used _ _ _ _ hsw]
 refine wpAny_bind (wpAny_standAt (wpAny_bind ?_))
 show wpAny _ X.A (comprehension (.ListComp elt [⟨tg,iter,ifs,0⟩] scope pos) scope X.env _ (newList []) false (eval iter X.env) (some (assign (.Name y py) X.env)) >>= fun _=>pure ()) _ _ s
 refine wpAny_bind (thn (Q:=fun _ s'=>SP X pins D' .next s') ?_ fun _ s' hq=>wpAny_pure (wpAny_pure hq))
 refine wpAny_comprehension_free (use:=some (assign (.Name y py) X.env)) rfl hs L.eq S.kind (fun y hy=>(S.at hy).2.1) (thn (hi pins s σ H _ I h) fun x s1 h1=>thn h1 fun itv s2 h2=>?_)
 obtain⟨it,fp,tn,J,H2,rfl,I2,T,st2,f2,R⟩:=h2
 refine thn (v5 hc S L hg ht he I2 T st2 f2 R) fun acc s3 h3=>thn h3 fun cenv s4 h4=>codeAny_mono h4 fun r s' hr=>?_
 obtain⟨D,H',m,rfl,rfl,I',hm,fC,q⟩:=hr
 obtain⟨c0,c1,c2,c3,c4,c5⟩:=fC
 show wpAny _ X.A (assign (.Name y py) X.env (.ref D)) _ _ _
 refine wpAny_assign_Name (vE I' hN hiy hy (show RelV (.ref D) (.ref D) from rfl) (fun s'' I'' hq0=>?_) hf)
 obtain⟨a,sb,ha⟩:=hq0
 have hne:cenv.locals≠a:=by
  rcases ha with z | z
  ·rw[z];exact c1
  ·exact fun z'=>c4 y a z z'.symm
 refine⟨m,hm.sameBut sb hne,fun h' sb'=>?_⟩
 exact⟨_,H',I''.turned (t':=s''.toks) (fun b o hb e=>sb'.extBut b o hb e) c0 c1 c3 c4 c5,q⟩
end
def zaL (i j:Int):Prop:=0<j∧j.natAbs.log2<9000
section
variable {X:Cx}
theorem wb:OpR X (binaryOp .FloorDiv) (rI zaL fun i j=>.int (i/j)):=opI fun i j _ _ _ _ _ hc q=>by
 have e:i.fdiv j=i/j:=Int.fdiv_eq_ediv_of_nonneg i (Int.le_of_lt hc.1)
 exact floordiv_int (Ne.symm (Int.ne_of_lt hc.1)) (by rw[e];exact q) (.inl (PyProof.noPylong_of_log2 hc.2))
def UR:V→Option Value
 |.ty n=>some (.type n)
 |.ref a=>some (.ref a)
 |_=>none
theorem XZ {c:V}{cv u:Value}(h:UR c=some cv) (r:RelV c u):u=cv:=by
 cases c<;>simp[UR] at h
 ·exact(show u=Value.ref _ from r).trans h
 ·exact(show u=Value.type _ from r).trans h
def zbk (K:PySem.W.Frag):List V→Hp→VK→Prop:=fun xs H Q=>∃ x c t cv b,xs=[x,c]∧UR c=some cv∧TyOf K H x t∧PySem.W.kitOne K t cv=some b∧Q (.bl b) H
theorem zM:xb X (.builtin "isinstance") (zbk X.K):=by
 intro pins s σ H xs us Q I r h
 obtain⟨x,c,t,cv,b,rfl,hc,ty,e,q⟩:=h
 obtain⟨u,v,rfl,r1,r2⟩:=r.two
 obtain rfl:=XZ hc r2
 exact YO I r1 ty e fun tk=>⟨.bl b,H,I.tok tk,rfl,q⟩
inductive EqD (K:PySem.W.Frag) (H:Hp):V→V→Bool→Nat→Prop where
 |flat {x y:V}{n:Nat}(fx:wC x=true) (fy:wC y=true):EqD K H x y (eqV x y) n
 |same {a:Addr}{n:Nat}:EqD K H (.ref a) (.ref a) true n
 |lst {a b:Addr}{xs ys:List V}{e:Nat→Bool}{n:Nat}(hne:a≠b) (ha:SqL K H a xs) (hb:SqL K H b ys) (hl:xs.length=ys.length) (h:∀ (j:Nat) x y,xs[j]?=some x→ys[j]?=some y→EqD K H x y (e j) n) :
   EqD K H (.ref a) (.ref b) ((List.range xs.length).all e) (n+1)
 |tup {a b:Addr}{xs ys:List V}{e:Nat→Bool}{n:Nat}(hne:a≠b) (ha:SqT K H a xs) (hb:SqT K H b ys) (hl:xs.length=ys.length) (h:∀ (j:Nat) x y,xs[j]?=some x→ys[j]?=some y→EqD K H x y (e j) n) :
   EqD K H (.ref a) (.ref b) ((List.range xs.length).all e) (n+1)
theorem yH (A:Around):A.in1.units=A.units+1:=rfl
theorem EqD.at {pins:List (Addr×Obj)}{σ:St}{H:Hp}{s:Shared}{x y:V}{b:Bool}{n:Nat}(I:Inv X pins σ H s) (h:EqD X.K H x y b n) :
  ∀ (A:Around) (u v:Value),A.units+n<cLine→RelV x u→RelV y v→SeqAt.EqAt A s u v b:=by
 induction h with
 |flat fx fy=>intro A u v _ rx ry;exact eqAt_V rx ry fx fy
 |same=>intro A u v _ rx ry;cases rx;cases ry;exact SeqAt.EqAt.same _
 | @lst a b xs ys e n hne ha hb hl h ih =>
  intro A u v hu rx ry
  cases rx;cases ry
  obtain⟨i1,r1,p1,_⟩:=I.list ha
  obtain⟨i2,r2,p2,_⟩:=I.list hb
  have l1:=r1.length
  have l2:=r2.length
  refine SeqAt.EqAt.of_refs hne ?_
  have q:=SeqAt.RcAt.lists (A:=A) (s:=s) (e:=e) p1.isList p2.isList (by simp;omega) (by omega) (fun j h1 h2=>?_)
  ·rw[List.size_toArray,← l1] at q
   exact q
  ·have g1:j<xs.length:=by rw[l1];simpa using h1
   have g2:j<ys.length:=by rw[l2];simpa using h2
   obtain⟨u1,e1,q1⟩:=r1.get (i:=j) (x:=xs[j]) (by simp[g1])
   obtain⟨u2,e2,q2⟩:=r2.get (i:=j) (x:=ys[j]) (by simp[g2])
   have f1:i1.toArray[j]=u1:=by
    have:=List.getElem?_eq_some_iff.mp e1
    obtain⟨_,z⟩:=this
    simpa using z
   have f2:i2.toArray[j]=u2:=by
    have:=List.getElem?_eq_some_iff.mp e2
    obtain⟨_,z⟩:=this
    simpa using z
   rw[f1,f2]
   exact ih j _ _ (by simp[g1]) (by simp[g2]) A.in1 u1 u2 (by rw[yH];omega) q1 q2
 | @tup a b xs ys e n hne ha hb hl h ih =>
  intro A u v hu rx ry
  cases rx;cases ry
  obtain⟨i1,r1,p1,_⟩:=I.tuple ha
  obtain⟨i2,r2,p2,_⟩:=I.tuple hb
  have l1:=r1.length
  have l2:=r2.length
  refine SeqAt.EqAt.of_refs hne ?_
  have q:=SeqAt.RcAt.tuples (A:=A) (s:=s) (e:=e) (show s.heap.IsTuple a i1.toArray from p1) (show s.heap.IsTuple b i2.toArray from p2) (by omega) (fun j h1 h2=>?_)
  ·have z:i1.toArray.size=i2.toArray.size:=by simp;omega
   rw[← z,Nat.min_self,beq_self_eq_true,Bool.and_true,List.size_toArray,← l1] at q
   exact q
  ·have g1:j<xs.length:=by rw[l1];simpa using h1
   have g2:j<ys.length:=by rw[l2];simpa using h2
   obtain⟨u1,e1,q1⟩:=r1.get (i:=j) (x:=xs[j]) (by simp[g1])
   obtain⟨u2,e2,q2⟩:=r2.get (i:=j) (x:=ys[j]) (by simp[g2])
   have f1:i1.toArray[j]=u1:=by
    have:=List.getElem?_eq_some_iff.mp e1
    obtain⟨_,z⟩:=this
    simpa using z
   have f2:i2.toArray[j]=u2:=by
    have:=List.getElem?_eq_some_iff.mp e2
    obtain⟨_,z⟩:=this
    simpa using z
   rw[f1,f2]
   exact ih j _ _ (by simp[g1]) (by simp[g2]) A.in1 u1 u2 (by rw[yH];omega) q1 q2
def U6 (K:PySem.W.Frag) (A:Around) (neg:Bool):R2:=fun x y H Q=>∃ (a b:Addr) (xs ys:List V) (e:Nat→Bool) (n:Nat),x=.ref a∧y=.ref b∧((SqL K H a xs∧SqL K H b ys)∨(SqT K H a xs∧SqT K H b ys))∧xs.length=ys.length ∧
 A.units+n+2<cLine∧(∀ (j:Nat) x y,xs[j]?=some x→ys[j]?=some y→EqD K H x y (e j) n)∧Q (.bl (if neg then !(List.range xs.length).all e else(List.range xs.length).all e)) H
theorem we {pins:List (Addr×Obj)}{σ:St}{H:Hp}{s:Shared}{A:Around}{xs ys:List V}{i1 i2:List Value}{e:Nat→Bool}{n:Nat}(I:Inv X pins σ H s) (r1:Vals xs i1) (r2:Vals ys i2) (hu:A.units+n+2<cLine)
  (h:∀ (j:Nat) x y,xs[j]?=some x→ys[j]?=some y→EqD X.K H x y (e j) n):∀ (j:Nat) (h1:j<i1.toArray.size) (h2:j<i2.toArray.size),SeqAt.EqAt A.in1 s i1.toArray[j] i2.toArray[j] (e j):=fun j h1 h2=>by
 have g1:j<xs.length:=by rw[r1.length];simpa using h1
 have g2:j<ys.length:=by rw[r2.length];simpa using h2
 obtain⟨u1,e1,q1⟩:=r1.get (i:=j) (x:=xs[j]) (by simp[g1])
 obtain⟨u2,e2,q2⟩:=r2.get (i:=j) (x:=ys[j]) (by simp[g2])
 have f1:i1.toArray[j]=u1:=by
  obtain⟨_,z⟩:=List.getElem?_eq_some_iff.mp e1
  simpa using z
 have f2:i2.toArray[j]=u2:=by
  obtain⟨_,z⟩:=List.getElem?_eq_some_iff.mp e2
  simpa using z
 rw[f1,f2]
 exact(h j _ _ (by simp[g1]) (by simp[g2])).at I A.in1 u1 u2 (by rw[yH];omega) q1 q2
theorem Yr:OpR X (compareOp .Eq) (U6 X.K X.A false):=by
 intro pins s σ H x y v u Q I rx ry h
 obtain⟨a,b,xs,ys,e,n,rfl,rfl,hq,hl,hu,hi,q⟩:=h
 cases rx;cases ry
 rcases hq with⟨h1,h2⟩ | ⟨h1,h2⟩
 ·obtain⟨i1,r1,p1,_⟩:=I.list h1
  obtain⟨i2,r2,p2,_⟩:=I.list h2
  refine SeqAt.eq_listAt p1.isList p2.isList (by simp;rw[← r1.length,← r2.length,hl]) (by omega) (we I r1 r2 hu hi) ⟨.bl _,H,I,rfl,?_⟩
  rw[List.size_toArray,← r1.length]
  exact q
 ·obtain⟨i1,r1,p1,_⟩:=I.tuple h1
  obtain⟨i2,r2,p2,_⟩:=I.tuple h2
  have z:i1.toArray.size=i2.toArray.size:=by simp;rw[← r1.length,← r2.length,hl]
  refine SeqAt.eq_tupleAt (show s.heap.IsTuple a i1.toArray from p1) (show s.heap.IsTuple b i2.toArray from p2) (by omega) (we I r1 r2 hu hi) ⟨.bl _,H,I,rfl,?_⟩
  rw[← z,Nat.min_self,beq_self_eq_true,Bool.and_true,List.size_toArray,← r1.length]
  exact q
theorem Yp:OpR X (compareOp .NotEq) (U6 X.K X.A true):=by
 intro pins s σ H x y v u Q I rx ry h
 obtain⟨a,b,xs,ys,e,n,rfl,rfl,hq,hl,hu,hi,q⟩:=h
 cases rx;cases ry
 rcases hq with⟨h1,h2⟩ | ⟨h1,h2⟩
 ·obtain⟨i1,r1,p1,_⟩:=I.list h1
  obtain⟨i2,r2,p2,_⟩:=I.list h2
  refine SeqAt.RcNeAt.lists p1.isList p2.isList (by simp;rw[← r1.length,← r2.length,hl]) (by omega) (we I r1 r2 hu hi) _ _ _ _ ⟨.bl _,H,I,rfl,?_⟩
  rw[List.size_toArray,← r1.length]
  exact q
 ·obtain⟨i1,r1,p1,_⟩:=I.tuple h1
  obtain⟨i2,r2,p2,_⟩:=I.tuple h2
  have z:i1.toArray.size=i2.toArray.size:=by simp;rw[← r1.length,← r2.length,hl]
  refine SeqAt.RcNeAt.tuples (show s.heap.IsTuple a i1.toArray from p1) (show s.heap.IsTuple b i2.toArray from p2) (by omega) (we I r1 r2 hu hi) _ _ _ _ ⟨.bl _,H,I,rfl,?_⟩
  rw[← z,Nat.min_self,beq_self_eq_true,Bool.and_true,List.size_toArray,← r1.length]
  exact q
theorem w4 {κ:Type} [DecidableEq κ]:∀ {kvs:List (κ×V)}{k:κ}{v:V},(kvs.map (·.1)).Nodup→(k,v)∈kvs→yM kvs k=some v
 |(k',v')::r,k,v,nd,h=>by
  rw[List.map_cons] at nd
  obtain⟨n1,n2⟩:=List.nodup_cons.mp nd
  rcases List.mem_cons.mp h with e | h
  ·cases e
   exact xF (p:=(k',v')) rfl
  ·have hk:¬ k'=k:=fun z=>n1 (List.mem_map.mpr ⟨(k,v),h,z.symm⟩)
   rw[xH (p:=(k',v')) hk]
   exact w4 n2 h
end
structure Callee (P:Program) (w:World) (K:PySem.W.Frag) (mg:Str→Option Value) (base:Heap) (x:Str) (f:Addr) (fd:FuncData) (ps:List Str) (k:Nat) (sp:Sp):Prop where
 ok:FnOk P w K mg base CX0 k f fd ps sp
 g:mg x=some (.ref f)
 kp:PySem.W.keepIn K (.ref f)=true
 b:Binds K fd ps []
structure Maker (P:Program) (w:World) (K:PySem.W.Frag) (mg:Str→Option Value) (base:Heap) (x:Str) (C f:Addr) (fd:FuncData) (ps:List Str) (k:Nat) (sp:Sp):Prop where
 ok:FnOk P w K mg base CX0 k f fd ps sp
 g:mg x=some (.ref C)
 mm:Mk K C f
 b:Binds K fd ps []
section
variable {X:Cx}{k:Nat}{f C:Addr}{fd:FuncData}{ps:List Str}{sp:Sp}{x m:Str}{p pos apos:Pos}{e o:Expr}{es:List Expr}{ta:TE}{t:TA}
theorem Wm (c:Callee X.prog X.w X.K X.mg X.base x f fd ps k sp) (hr:Room k X.A) (ha:PA X (e::es) t) (hg:Gl X x:=by rfl) (hdb:(x == ("__debug__" : Str))=false:=by decide)
  (he:starEach (e::es) X.env=(false,eval e X.env)::starEach es X.env:=by rfl) (hpl:(backTo pos (starEach es X.env)).any (·.1)=false:=by rfl):PE X (.Call (.Name x p) (e::es) [] pos) (wG sp [] E0 t) :=
 Vb c.ok hr hg c.g c.kp c.b .nil Xs ha hdb he hpl
theorem X1 (c:Maker X.prog X.w X.K X.mg X.base x C f fd ps k sp) (hr:Room (k+1) X.A) (ha:Bx (PA X (e::es) t)) (hg:Gl X x:=by rfl) (hdb:(x == ("__debug__" : Str))=false:=by decide) (he:starEach (e::es) X.env=(false,eval e X.env)::starEach es X.env:=by rfl) (hpl:(backTo pos (starEach es X.env)).any (·.1)=false:=by rfl):Bx (PE X (.Call (.Name x p) (e::es) [] pos) (VQ C sp [] E0 t)):=by
 have ha:=ha.of
 exact⟨Va c.mm c.ok hr hg c.g c.b .nil Xs ha hdb he hpl⟩
def vD (X:Cx) (m:Str) (ta:TE) (t:TA):TE:=fun σ H Q=>ta σ H fun x H1=>∃ (a C dx:Addr) (fs:List (Str×V)) (f:Addr) (fd:FuncData) (ps:List Str) (k:Nat) (sp:Sp),x=.ref a∧H1 a=some (.ins C dx fs)∧fs.lookup m=none∧Cls X.K C∧Meth X.K C m f ∧
 FnOk X.prog X.w X.K X.mg X.base CX0 k f fd ps sp∧Room k X.A∧Binds X.K fd ps []∧t σ H1 fun vs H2=>sp (x::(vs++[])) H2 Q E0
theorem Xr {pl:Sem Bool}(he:PE X o ta) (ha:PA X (e::es) t)
  (hst:starEach (e::es) X.env=(false,eval e X.env)::starEach es X.env:=by rfl) (hpl:(backTo pos (starEach es X.env)).any (·.1)=false:=by rfl)
  (ht:eval (.Call (.Attribute o m apos) (e::es) [] pos) X.env=(do
   let ov ← eval o X.env
   standAt apos.atName
   let (f,first) ← holding [ov] (getMethod ov m pl)
   callWith pos f first (backTo pos (starEach (e::es) X.env)) (backToKw pos (keywordEach [] X.env))):=by rfl) :
  PE X (.Call (.Attribute o m apos) (e::es) [] pos) (vD X m ta t):=by
 intro pins s σ H Q I h
 refine PySem.W.methodCall_KW (pl:=pl) (thn (he pins s σ H _ I h) fun u s1 hq0=>?_) ht
 obtain⟨x,H1,I1,rx,a,C,dx,fs,f,fd,ps,k,sp,ex,ea,l,cl,hm,F,hr,hb,q⟩:=hq0
 subst ex
 obtain rfl:u=Value.ref a:=rx
 refine xw I1 ea cl hm l ?_
 refine PySem.W.callWith_K (first:=[.ref a]) (h₀:=X.base) I.ok.mod.kin hm.kp (thn (ha pos pins s1 σ H1 _ I1 q) fun us s2 ⟨vs,H2,I2,r,q2⟩=>⟨I2.kIn,?_⟩) hst hpl
 exact u3 (us:=.ref a::us) (vs:=.ref a::vs) F hr hb .nil Xs I2 (.cons rfl r) q2
theorem Yk {pl:Sem Bool}(he:PE X o ta)
  (ht:eval (.Call (.Attribute o m apos) [] [] pos) X.env=(do
   let ov ← eval o X.env
   standAt apos.atName
   let (f,first) ← holding [ov] (getMethod ov m pl)
   callWith pos f first (backTo pos (starEach [] X.env)) (backToKw pos (keywordEach [] X.env))):=by rfl) :
  PE X (.Call (.Attribute o m apos) [] [] pos) (vD X m ta yQ):=by
 intro pins s σ H Q I h
 refine PySem.W.methodCall_KW (pl:=pl) (thn (he pins s σ H _ I h) fun u s1 hq0=>?_) ht
 obtain⟨x,H1,I1,rx,a,C,dx,fs,f,fd,ps,k,sp,ex,ea,l,cl,hm,F,hr,hb,q⟩:=hq0
 subst ex
 obtain rfl:u=Value.ref a:=rx
 refine xw I1 ea cl hm l ?_
 exact PySem.W.callWith_K0 (first:=[.ref a]) I1.kIn hm.kp (u3 (us:=[.ref a]) (vs:=[.ref a]) F hr hb .nil Xs I1 (.cons rfl .nil) q)
end
section
variable {X:Cx}{pins:List (Addr×Obj)}{σ:St}{H:Hp}{s:Shared}{a b:Addr}{xs ys:List V}
theorem Inv.turnedLaid {h':Heap}{t':Nat}{ch:List Addr}{T:Addr}{o:HO}(I:Inv X pins σ H s) (hf:∀ b∈ch,FpOk X pins H b) (k:∀ b u,b∉ch→s.heap.get? b=some u→h'.get? b=some u) (hT:s.heap.objs.size≤T)
  (new:ObjOk X.prog X.w (upd H T o) h' T o):Inv X pins σ (upd H T o) { s with heap:=h',toks:=t' }:=by
 have hn:H T=none:=I.hok.fresh hT
 have nch:∀ b u,H b=some u→b∉ch:=fun b u e hb=>by rw[(hf b hb).1] at e;cases e
 have neT:∀ b u,s.heap.get? b=some u→b≠T:=fun b u e=>Nat.ne_of_lt (Nat.lt_of_lt_of_le (Heap.lt_size e) hT)
 refine I.step (g':=s.gens) (d':=s.drawn) (ch:=ch) (fun b hb=>?_) (fun b u _ _ hc e _=>k b u hc e) (fun b u _ _ hc e _=>⟨u.slots,k b u hc e⟩) (fun b u _ e n=>?_) (fun b u hc e=>⟨u,k b u hc e⟩)
  (fun b zs e=>?_) (fun b ob u e=>?_) (fun b ps e=>⟨#[],?_⟩) (fun m hm=>?_) (fun b u e=>?_) I.bare
 ·exact⟨(hf b hb).2.2.2.1,(hf b hb).2.1,(hf b hb).2.2.2.2.1,(hf b hb).2.2.2.2.2⟩
 ·rw[upd_ne (neT b u e)];exact n
 ·rw[upd_ne (ne_of_none e hn)];exact e
 ·rw[upd_ne (ne_of_none e hn)];exact e
 ·rw[upd_ne (ne_of_none e hn),e];simp
 ·obtain⟨ob,es,ep,ho,r⟩:=hm
  exact⟨ob,es,ep,k _ ob (fun hb=>(hf _ hb).2.1 rfl) ho,r⟩
 ·by_cases hb:b=T
  ·subst hb
   rw[upd_same] at e
   cases e
   exact new
  ·rw[upd_ne hb] at e
   refine(I.hok b u e).stay (fun c v hc q=>k c v ?_ q) (fun c q=>by rw[upd_ne (ne_of_none q hn)];exact q) fun c zs q=>by rw[upd_ne (ne_of_none q hn)];exact q
   rcases hc with z | z
   ·rw[z];exact nch b u e
   ·exact nch c _ z
end
theorem Xe {X:Cx}{x:Str}{C:Addr}{pos:Pos}(hm:X.mg x=some (.ref C)) (hg:Gl X x:=by rfl) (hd:(x == ("__debug__" : Str))=false:=by decide):Bx (PE X (.Name x pos) (tC (.ref C))):=by
 exact⟨ut hg hm rfl hd⟩
theorem wQ {X:Cx}{x:Str}{n:String}{pos:Pos}(hm:X.mg x=none) (hv:bootBuiltins x=some (.type n)) (hg:Gl X x:=by rfl) (hn:x ≠ "__name__" := by decide) (hd:(x == ("__debug__" : Str))=false:=by decide):PE X (.Name x pos) (tC (.ty n)):=Vd hg hm hv rfl hn hd
theorem yh:bootBuiltins "len" = some (.builtin "len"):=by decide +kernel
theorem Zr:bootBuiltins "int" = some (.type "int"):=by decide +kernel
theorem zq:bootBuiltins "isinstance" = some (.builtin "isinstance"):=by decide +kernel
theorem bt_list:bootBuiltins "list" = some (.type "list"):=by decide +kernel
theorem xT:bootBuiltins "dict" = some (.type "dict"):=by decide +kernel
theorem xr:bootBuiltins "sorted" = some (.builtin "sorted"):=by decide +kernel
theorem WD:bootBuiltins "str" = some (.type "str"):=by decide +kernel
theorem wD:bootBuiltins "bool" = some (.type "bool"):=by decide +kernel
theorem xa:bootBuiltins "tuple" = some (.type "tuple"):=by decide +kernel
end L2
namespace K04
open PySem L2
def Ext (l:Addr) (H H':Hp):Prop:=∀ b o,H b=some o→b≠l→H' b=some o
theorem Ext.refl {l:Addr}{H:Hp}:Ext l H H:=fun _ _ e _=>e
theorem Ext.trans {l:Addr}{H H1 H2:Hp}(a:Ext l H H1) (b:Ext l H1 H2):Ext l H H2:=fun c o e n=>b c o (a c o e n) n
theorem Ext.same {l:Addr}{H H':Hp}(a:Same H H'):Ext l H H':=fun c o e _=>a c o e
theorem Ext.new {l p:Addr}{H:Hp}{o:HO}(h:H p=none):Ext l H (upd H p o):=fun c u e _=>by rw[upd_ne (ne_of_none e h)];exact e
theorem Ext.at {l:Addr}{H:Hp}{o:HO}:Ext l H (upd H l o):=fun c u e n=>by rw[upd_ne n];exact e
theorem Same.new {p:Addr}{H:Hp}{o:HO}(h:H p=none):Same H (upd H p o):=fun c u e=>by rw[upd_ne (ne_of_none e h)];exact e
theorem XQ {i:Nat}{v:V}{τ:St}{H:Hp}{A B:St→Hp→Prop}(h:A (τ.set i (some v)) H):xQ i v τ H fun τ2 H4=>UK τ2 H4 fun b H5=>if b=true then A τ2 H5 else B τ2 H5:=by
 show if true=true then A (τ.set i (some v)) H else B (τ.set i (some v)) H
 exact xn h
theorem XX {ns:LI}{lo hi:Option Int}{i:Nat}{y:V}(h:(cutV (ns.map V.int) lo hi)[i]?=some y):∃ c,y=.int c:=by
 have hm:=List.mem_of_getElem? h
 unfold cutV at hm
 obtain⟨c,_,e⟩:=List.mem_map.mp (List.mem_of_mem_drop (List.mem_of_mem_take hm))
 exact⟨c,e.symm⟩
theorem XI:((1009:Int).natAbs.log2<9000):=by decide
theorem XH:((2003:Int).natAbs.log2<9000):=by decide
end K04
namespace L2
open PySem PySem.Spec PyProof.Rows
section
variable {X:Cx}
theorem vm:∀ {ns:LI}{its:List Value},Vals (ns.map V.int) its→IntsAre its ns
 |[],_,r=>by cases r;exact .nil
 |n::ns,_,r=>by
  cases r with
  |cons h t =>
   obtain⟨k,rfl⟩:=h
   exact .cons _ _ (vm t)
theorem Yy:∀ {ns:LI}{its:List Value},IntsAre its ns→Vals (ns.map V.int) its
 |_,_,.nil=>.nil
 |_,_,.cons _ _ t=>.cons ⟨_,rfl⟩ (Yy t)
def V5 (K:PySem.W.Frag):List V→Hp→VK→Prop:=fun xs H Q=>∃ (a:Addr) (ns:LI),xs=[V.ref a]∧SqL K H a (ns.map V.int)∧ns.length<64∧∀ (p:Addr) (ms:LI),H p=none→ms.Perm ns→ms.Pairwise (· ≤ ·)→Q (.ref p) (upd H p (.lst (ms.map V.int)))
theorem wU:xb X (.builtin "sorted") (V5 X.K):=by
 intro pins s σ H xs us Q I r h
 obtain⟨a,ns,rfl,ha,h64,q⟩:=h
 obtain⟨u,rfl,ru⟩:=r.one
 cases ru
 obtain⟨its,rv,p,hz⟩:=I.list ha
 have hl:=rv.length
 rw[List.length_map] at hl hz
 refine sorted_ints p.isList (vm rv) (by omega) fun out ms a1 a2 a3=>?_
 have hn:H (s.heap.objs.size+1)=none:=I.hok.fresh (Nat.le_succ _)
 obtain⟨c,hc⟩:=sortedAll_at s.heap its out
 refine⟨.ref _,_,I.laid (a:=s.heap.objs.size+1) (o:=.lst (ms.map V.int)) (t':=s.toks) (fun _ _ e=>sortedAll_old e) (Nat.le_succ _) ⟨?_,out.toList,c,Yy a1,?_⟩,rfl,q _ ms hn a2 a3⟩
 ·rw[List.length_map,a2.length_eq];exact hz
 ·exact hc
def zbj (K:PySem.W.Frag) (A:Around):R2:=fun x y H Q=>∃ (a b:Addr) (xs ys:List V),x=.ref a∧y=.ref b∧SqL K H a xs∧SqL K H b ys∧xs.length≠ys.length∧A.units<cLine∧Q (.bl true) H
theorem Yq:OpR X (compareOp .NotEq) (zbj X.K X.A):=by
 intro pins s σ H x y v u Q I rx ry h
 obtain⟨a,b,xs,ys,rfl,rfl,h1,h2,hl,hu,q⟩:=h
 cases rx;cases ry
 obtain⟨i1,r1,p1,_⟩:=I.list h1
 obtain⟨i2,r2,p2,_⟩:=I.list h2
 exact SeqAt.RcNeAt.lists_lengths p1.isList p2.isList (by simp;rw[← r1.length,← r2.length];exact hl) hu _ _ _ _ ⟨.bl _,H,I,rfl,q⟩
end
theorem wq {X:Cx}{f:Value→Value→Sem Value}{r1 r2:R2}(h1:OpR X f r1) (h2:OpR X f r2):OpR X f (fun x y H Q=>r1 x y H Q∨r2 x y H Q):=by
 intro pins s σ H x y v u Q I rx ry h
 rcases h with h | h
 ·exact h1 pins s σ H x y v u Q I rx ry h
 ·exact h2 pins s σ H x y v u Q I rx ry h
abbrev UI:List Value:=[.type "ValueError",.type "Exception",.type "BaseException",.type "object"]
end L2
namespace L2
open PySem
section
variable {X:Cx}{es:List Expr}{t:TA}{te:TE}
theorem zK {c j pos}(ha:Bx (PE X (.Constant c j pos) te)) (hr:Bx (PA X es t)):Bx (PA X (.Constant c j pos::es) (zD te t)):=by
 have ha:=ha.of
 have hr:=hr.of
 exact⟨yY ha hr rfl⟩
theorem xc {xs c pos}(ha:Bx (PE X (.Tuple xs c pos) te)) (hr:Bx (PA X es t)):Bx (PA X (.Tuple xs c pos::es) (zD te t)):=by
 have ha:=ha.of
 have hr:=hr.of
 exact⟨yY ha hr rfl⟩
theorem zT {f xs ks pos}(ha:Bx (PE X (.Call f xs ks pos) te)) (hr:Bx (PA X es t)):Bx (PA X (.Call f xs ks pos::es) (zD te t)):=by
 have ha:=ha.of
 have hr:=hr.of
 exact⟨yY ha hr rfl⟩
theorem yS {l o r pos}(ha:Bx (PE X (.BinOp l o r pos) te)) (hr:Bx (PA X es t)):Bx (PA X (.BinOp l o r pos::es) (zD te t)):=by
 have ha:=ha.of
 have hr:=hr.of
 exact⟨yY ha hr rfl⟩
theorem VD {o r pos}(ha:Bx (PE X (.UnaryOp o r pos) te)) (hr:Bx (PA X es t)):Bx (PA X (.UnaryOp o r pos::es) (zD te t)):=by
 have ha:=ha.of
 have hr:=hr.of
 exact⟨yY ha hr rfl⟩
theorem xV {x pos}(ha:PE X (.Name x pos) te) (hr:PA X es t):PA X (.Name x pos::es) (zD te t):=yY ha hr rfl
end
end L2
namespace L2
open PySem PySem.Spec PyProof.Rows
section
variable {X:Cx}
def zby (K:PySem.W.Frag) (te ts:TE):TE:=fun σ H Q=>te σ H fun x H1=>ts σ H1 fun y H2=>y=.int (-1)∧∃ a xs,x=.ref a∧SqL K H2 a xs∧∀ p,H2 p=none→Q (.ref p) (upd H2 p (.lst xs.reverse))
theorem uR {e st:Expr}{te ts:TE}{p2 pos:Pos}(he:Bx (PE X e te)) (hs:Bx (PE X st ts)):Bx (PE X (.Subscript e (.Slice none none (some st) p2) pos) (zby X.K te ts)):=by
 have he:=he.of
 have hs:=hs.of
 refine⟨?_⟩
 intro pins s σ H Q I h
 refine Subscript_ (thn (he pins s σ H _ I h) fun v s1 hq0=>?_)
 obtain⟨x,H1,I1,r1,q1⟩:=hq0
 refine wpAny_Slice ?_
 rw[evalPart_none]
 refine wpAny_pure (wpAny_pure ?_)
 rw[evalPart_some]
 refine thn (hs pins s1 σ H1 _ I1 q1) fun w s3 hq0=>?_
 obtain⟨y,H3,I3,r3,ey,a,xs,ex,hx,q⟩:=hq0
 subst ey
 subst ex
 obtain⟨t,rfl⟩:=r3
 cases r1
 have I4:Inv X pins σ H3 { s3 with heap:=s3.heap.push { cls:=.type "slice",data:=.fields #[.none,.none,.int (-1) t] } }:=I3.kept (t':=s3.toks) fun b ob q=>Heap.get?_push_of_some _ q
 obtain⟨its,r,ht,hz⟩:=I4.list hx
 have hlen:=r.length
 refine tail_any (T := "list") (ops:=[.ref a,.ref s3.heap.objs.size]) ht.isList.typeIs slot_list_getitem.lookup ?_ (by with_unfolding_all rfl)
 refine wpAny_getItem_list_slice ht.isList (Heap.IsSliceOf.new ..) .none .none (.int (-1) t) (by simp) ?_ (by rw[List.size_toArray]<;>omega)
 rw[PySem.W.krv_pick]
 refine⟨.ref _,_,I4.laid (t':=s3.toks) (o:=.lst xs.reverse) (fun b ob q=>Heap.get?_push_of_some _ q) (Nat.le_refl _) ?_,rfl,q _ (I4.hok.fresh (Nat.le_refl _))⟩
 exact⟨by rw[List.length_reverse];exact hz,_,0,r.reverse,Heap.get?_push_size _ rfl⟩
end
section
variable {X:Cx}{tg:Expr}
theorem vq:bootBuiltins "reversed" = some (.type "reversed"):=by decide +kernel
end
def zaM (K:PySem.W.Frag) (C C1:Addr):Option Bool:=match K.lookup C with
 |some ⟨_,_,.cls cd,_⟩=>some (cd.mro.contains (.ref C1))
 |_=>none
theorem entry_dul:entryFor table "dict.update.loop" = some Builtin.«dict.update.loop»:=entryFor_of_tree (by kernel_rfl)
theorem plain_dul:plainId "dict.update.loop" = true:=by decide +kernel
theorem YJ:typeLookup (.type "list") "keys" = pure none:=am_miss_of_fast (by kernel_rfl)
section
variable {P:Program}{w:World}{A:Around}{E:Value→Shared→Prop}{s:Shared}
theorem Yz {a:Addr}{xs:Array Value}{Q:Option Value→Shared→Prop}(hl:PlainL s.heap a xs) (hA:A.handled=none)
  (q:∀ h' tk,(∀ b o,s.heap.get? b=some o→h'.get? b=some o)→Q none { s with heap:=h',toks:=tk }):wpAny (model P w) A (getAttr? (.ref a) "keys") Q E s:=by
 obtain⟨o,n,hx,hc,hd,hs⟩:=hl
 obtain⟨c,dct,dat,sl⟩:=o
 dsimp only at hc hd hs
 subst hc hd hs
 obtain⟨hp,g,dr,tk0,os⟩:=s
 have hT:∀ tk',(⟨hp,g,dr,tk',os⟩:Shared).TypeIs (.ref a) "list" := fun _=>⟨_,hx,rfl⟩
 have f1:=sub_AttributeError
 have f3:=F.slot_list_getattribute.lookup
 have f4:=F.slot_list_getattribute.bind (.ref a)
 have f5:=am_list_getattr_none
 unfold getAttr? getAttrBy? getAttrBy
 repeat (any_goals (first | assumption | exact hT _ | ((with_reducible show wpAny _ _ (call (Value.builtin "list.__getattribute__") _ _) _ _ _);refine call_meets F.slot_list_getattribute (hT _) am_entry_list_getattribute (F.args_list_getattribute_2 _ _) (meets_getattribute_miss_list a xs n sl "keys" _ YJ (by decide +kernel) (by decide +kernel)) ⟨hx,hA,fun h1 tk1 e1 ne=>?_⟩) | wp_step))
 obtain⟨t',u',he⟩:=ne.there
 show wpAny _ _ (getattributeRaised _ _ _ _ _ _ _) _ _ _
 unfold getattributeRaised hookOrError attributeErrorLeaves
 repeat (any_goals (first | assumption | wp_step))
 exact q _ _ ne.keeps
variable {K:Type} [DecidableEq K]{knd:KeyKind P w K}
theorem UC {d I:Addr}{fp wr:List Addr}{n:Nat}{Is:Nat→Value→Prop}{St:Nat→Heap→Prop}{R:Except Value Flow→Shared→Prop}(W:Walks P w A.in1 I fp wr n Is St) (nf:d∉fp) (kvs:List (K×Value)) (hk:kvs.length=n) (hz:n≤1000)
  (h0:Heap) (hI:∀ i v,Is i v→∃ q k,v=.ref q∧(∃ o x,h0.get? q=some o∧o.cls=.type "tuple" ∧ o.data=.seq #[k,(kvs[i]?.map (·.2)).getD .none] x)∧∃ kk,(kvs[i]?.map (·.1))=some kk∧knd.is kk k=true)
  (hq:∀ i v q,Is i v→v=.ref q→q∉wr∧q≠d) :
  ∀ (r j:Nat) (t:Shared) (tk0:Tok),j+r=n→St j t.heap→t.heap.DictOf knd d (merged [] (kvs.take j))→(∀ b o,b∉wr→b≠d→h0.get? b=some o→t.heap.get? b=some o) →
   (∀ h' tk,h'.DictOf knd d (merged [] kvs)→(∀ b o,b∉wr→b≠d→t.heap.get? b=some o→h'.get? b=some o)→R (.ok (.ret .none)) { t with heap:=h',toks:=tk }) →
   codeAny (model P w) A (.builtin "dict.update.loop" ⟨[.ref d,.ref I,.int (j:Int) tk0,.none],[]⟩) R t:=by
 have nw:d∉wr:=fun z=>nf (W.sub _ z)
 intro r
 induction r with
 |zero =>
  intro j t tk0 hj st hd keep fin
  have ej:j=n:=by omega
  subst ej
  refine codeAny_builtin entry_dul (by
   rw[Around.under_plainId plain_dul _]
   show wpAny _ A.in1 (pyNext (.ref I) >>= _) _ _ t
   refine wpAny_bind (W.done t _ _ st fun h1 tk kk=>?_)
   show wpAny _ A.in1 (Builtin.Dict.addKeywords d [] >>= _) _ _ _
   rw[← hk,List.take_length] at hd
   obtain⟨o,ho,hdo⟩:=Heap.dictOf_iff.mp hd
   exact wpAny_bind (wpAny_pure (wpAny_pure (fin h1 tk (Heap.dictOf_iff.mpr ⟨o,kk d o nw ho,hdo⟩) fun b o n1 _ e=>kk b o n1 e))))
 |succ r ih =>
  intro j t tk0 hj st hd keep fin
  refine codeAny_builtin entry_dul (by
   rw[Around.under_plainId plain_dul _]
   show wpAny _ A.in1 (pyNext (.ref I) >>= _) _ _ t
   refine wpAny_bind (W.item j t _ _ (by omega) st fun v h1 tk iv st1 kk=>?_)
   obtain⟨q,k,rfl,⟨o,x,hq0,hc,hs⟩,kx,hkx,hki⟩:=hI j v iv
   obtain⟨nq1,nq2⟩:=hq j _ q iv rfl
   have hq1:=kk q o nq1 (keep q o nq1 nq2 hq0)
   obtain⟨od,hod,hdo⟩:=Heap.dictOf_iff.mp hd
   have hd1:h1.DictOf knd d (merged [] (kvs.take j)):=Heap.dictOf_iff.mpr ⟨od,kk d od nw hod,hdo⟩
   obtain⟨⟨k2,v2⟩,hkv⟩:∃ kv,kvs[j]?=some kv:=⟨kvs[j]'(by omega),by simp[show j<kvs.length by omega]⟩
   rw[hkv] at hs hkx
   cases hkx
   show wpAny _ A.in1 (holding [Value.ref q] (tryCatch (Builtin.Dict.pairItems (Value.ref q)) _ >>= _) >>= _) _ _ _
   refine wpAny_bind (wpAny_holding (wpAny_bind (wpAny_tryCatch ?_)))
   unfold Builtin.Dict.pairItems
   refine wpAny_bind (wpAny_typeOf (T := "tuple") ⟨o,hq1,hc⟩ ?_)
   rw[if_pos (by decide)]
   refine wpAny_bind (wpAny_seqItems hq1 hs (wpAny_pure ?_))
   show wpAny _ A.in1 (holding [k,v2] (dictSet d k v2)) _ _ _
   refine wpAny_holding (wpAny_dictSet_pairs hki hd1 (fun h2 hd2 sb=>?_) ?_)
   ·show wpAny _ A.in1 (pure _) _ _ _
    have hm:=merged_take_succ ([]:List (K×Value)) kvs j (k2,v2) hkv
    refine wpAny_pure ⟨plainId_quiet plain_dul _,ih (j+1) _ _ (by omega) (W.frame _ _ _ st1 fun b hb o e=>?_) (by rw[hm];exact hd2) (fun b o n1 n2 e=>?_) fun h3 tk3 hd3 kk3=>fin h3 tk3 hd3 fun b o n1 n2 e=>kk3 b o n1 n2 ?_⟩
    ·exact(sb.2 b fun z=>nf (z ▸ hb)).trans e
    ·exact(sb.2 b n2).trans (kk b o n1 (keep b o n1 n2 e))
    ·exact(sb.2 b n2).trans (kk b o n1 e)
   ·have:=merged_length_le ([]:List (K×Value)) (kvs.take j)
    rw[List.length_take] at this
    simp only[List.length_nil] at this
    exact Nat.le_trans (show _≤1000 by omega) (by decide))
end
section
variable {X:Cx}
theorem wY:∀ {xs:List V}{us:List Value}{i:Nat}{u:Value},Vals xs us→us[i]?=some u→∃ x,xs[i]?=some x∧RelV x u
 |_,_,0,_,.cons r _,h=>by cases h;exact⟨_,rfl,r⟩
 |_,_,i+1,_,.cons _ t,h=>by
  obtain⟨x,e,r⟩:=wY t (by simpa using h)
  exact⟨x,by simpa using e,r⟩
theorem Ze {pins:List (Addr×Obj)}{σ:St}{H:Hp}{s:Shared}(I:Inv X pins σ H s):∀ (qs:List Addr) (kvs:List (Key×V)),qs.length=kvs.length→(∀ (i:Nat) (q:Addr) (kv:Key×V),qs[i]?=some q→kvs[i]?=some kv→H q=some (.tup [kV kv.1,kv.2])) →
  ∃ vs:List (Key×Value),KV kvs vs∧∀ (i:Nat) (q:Addr),qs[i]?=some q→∃ o x k kv,s.heap.get? q=some o∧o.cls=.type "tuple" ∧ o.data=.seq #[k,kv.2] x∧vs[i]?=some kv∧(zx X.prog X.w).is kv.1 k=true
 |[],[],_,_=>⟨[],.nil,fun i q h=>by simp at h⟩
 |q::qs,kv::kvs,hl,h=>by
  obtain⟨vs,r,hv⟩:=Ze I qs kvs (by simpa using hl) fun i q' kv' h1 h2=>h (i+1) q' kv' (by simpa using h1) (by simpa using h2)
  have h0:=h 0 q kv rfl rfl
  obtain⟨its,rv,it,_⟩:=I.tuple (SqT.of h0)
  obtain⟨uk,ux,rfl,rk,rx⟩:∃ uk ux,its=[uk,ux]∧RelV (kV kv.1) uk∧RelV kv.2 ux:=by
   cases rv with | cons r1 rv =>
   cases rv with | cons r2 rv =>
   cases rv
   exact⟨_,_,rfl,r1,r2⟩
  obtain⟨o,e,oc,n,od⟩:=it
  refine⟨(kv.1,ux)::vs,.cons ⟨rfl,rx⟩ r,fun i q' hi=>?_⟩
  cases i with
  |zero =>
   cases hi
   exact⟨o,n,uk,(kv.1,ux),e,oc,od,rfl,vk rk⟩
  |succ i=>exact hv i q' (by simpa using hi)
def V7 (K:PySem.W.Frag):List V→Hp→VK→Prop:=fun xs H Q=>∃ (a:Addr) (qs:List Addr) (kvs:List (Key×V)),xs=[V.ref a]∧H a=some (.lst (qs.map V.ref))∧qs.length=kvs.length∧kvs.length≤1000∧(∀ (i:Nat) (q:Addr) (kv:Key×V),qs[i]?=some q→kvs[i]?=some kv→H q=some (.tup [kV kv.1,kv.2])) ∧
 ∀ p,H p=none→Q (.ref p) (upd H p (.dK (mergeK [] kvs)))
theorem ZO (hc:X.calm=true):xb X (.type "dict") (V7 X.K):=by
 intro pins s σ H xs us Q I r h
 obtain⟨a,qs,kvs,rfl,ha,hl,hz,hq,k⟩:=h
 obtain⟨u,rfl,ru⟩:=r.one
 cases ru
 obtain⟨its,rv,pl,_⟩:=I.list (SqL.of ha)
 have hA:X.A.handled=none:=I.ok.hd hc
 refine callType_codes (Q₁:=fun obj s₁=>obj=.ref s.heap.objs.size∧s₁={ s with heap:=s.heap.push { cls:=.type "dict",data:=.dict #[] } }) F.kt_called_dict (F.kt_typeCall_dict_1 _) F.entry_dict_init (kt_code_dict_new _ ⟨rfl,rfl⟩) ?_
 rintro obj s₁ ⟨rfl,rfl⟩
 have hnew:(s.heap.push { cls:=.type "dict",data:=.dict #[] }).DictOf (zx X.prog X.w) s.heap.objs.size []:=Heap.DictOf.new s.heap
 have lt:a<s.heap.objs.size:=by
  obtain⟨_,e,_⟩:=pl.isList
  exact Heap.lt_size e
 have pl1:PlainL (s.heap.push { cls:=.type "dict",data:=.dict #[] }) a its.toArray:=by
  obtain⟨o,n,e,r⟩:=pl
  exact⟨o,n,Heap.get?_push_of_some _ e,r⟩
 refine⟨hnew.typeIs,F.args_dict_init_2 _ _,?_⟩
 unfold Builtin.«dict.__init__»
 refine wpAny_bind ?_
 unfold Builtin.Dict.selfAndRest
 refine wpAny_bind (wpAny_notOrdered_dict hnew.typeIs ?_)
 show wpAny _ _ (pure (s.heap.objs.size,[Value.ref a])) _ _ _
 refine wpAny_pure ?_
 show wpAny _ _ (Builtin.Dict.updateFrom "dict.__init__" s.heap.objs.size (.ref a) [] .none) _ _ _
 unfold Builtin.Dict.updateFrom
 obtain⟨o,n,e,oc,od,os⟩:=pl1
 refine wpAny_bind (wpAny_typeOf (T := "list") ⟨o,e,oc⟩ ?_)
 rw[if_pos (by decide)]
 refine wpAny_bind (Yz ⟨o,n,e,oc,od,os⟩ hA fun h1 tk1 kk1=>?_)
 obtain⟨vs,rel,hvs⟩:=Ze I qs kvs hl hq
 have hl1:h1.IsList a its.toArray:=⟨o,kk1 _ _ e,oc,n,os⟩
 show wpAny _ _ (rule _ >>= _) _ _ _
 refine wpAny_bind (wpAny_rule (wpAny_bind (wpAny_pyIter_list hl1 ?_)))
 have nd0:(s.heap.push { cls:=.type "dict",data:=.dict #[] }).get? s.heap.objs.size=some { cls:=.type "dict",data:=.dict #[] }:=Heap.get?_push_size _ rfl
 have nd1:=kk1 _ _ nd0
 have ltd:s.heap.objs.size<h1.objs.size:=Heap.lt_size nd1
 have lta:a<h1.objs.size:=Nat.lt_trans lt ltd
 have len:its.toArray.size=vs.length:=by
  have e1:=rv.length
  rw[List.length_map] at e1
  have e2:=rel.length
  simp
  omega
 have lvs:vs.length=kvs.length:=(rel.length).symm
 have W:=Walks.list (prog:=X.prog) (w:=X.w) (A:=X.A.in1.in1) hA h1.objs.size a (Nat.ne_of_lt lta) its.toArray
 have st:((h1.push { cls:=.type "list_iterator",data:=.fields #[.ref a,.int 0 0] }).IsListIter h1.objs.size a 0∧(h1.push { cls:=.type "list_iterator",data:=.fields #[.ref a,.int 0 0] }).IsList a its.toArray):=⟨⟨_,Heap.get?_push_size _ rfl,rfl,rfl⟩,hl1.push _⟩
 have nf:s.heap.objs.size∉[h1.objs.size,a]:=by
  intro z
  rcases List.mem_cons.mp z with z | z
  ·exact Nat.lt_irrefl _ (z ▸ ltd)
  ·exact Nat.lt_irrefl _ ((List.mem_singleton.mp z) ▸ lt)
 have item:∀ (i:Nat) (v:Value),its.toArray[i]?=some v→∃ q:Addr,v=Value.ref q∧qs[i]?=some q:=fun i v hv=>by
  have hv:its[i]?=some v:=by simpa using hv
  obtain⟨x,hx,rx⟩:=wY rv hv
  rw[List.getElem?_map] at hx
  obtain⟨q,hq,rfl⟩:=Option.map_eq_some_iff.mp hx
  exact⟨q,rx,hq⟩
 have hd0:(h1.push { cls:=.type "list_iterator",data:=.fields #[.ref a,.int 0 0] }).DictOf (zx X.prog X.w) s.heap.objs.size []:=by
  obtain⟨od,hod,hdo⟩:=Heap.dictOf_iff.mp hnew
  exact Heap.dictOf_iff.mpr ⟨od,Heap.get?_push_of_some _ (kk1 _ _ hod),hdo⟩
 refine wpAny_pure ⟨plainId_quiet plain_dul _,UC (A:=X.A.in1) (knd:=zx X.prog X.w) W nf vs len.symm (by omega) s.heap ?_ ?_ its.toArray.size 0 _ 0 (by omega) st hd0 ?_ ?_⟩
 ·intro i v hv
  obtain⟨q,rfl,hq'⟩:=item i v hv
  obtain⟨o,x,k',kv,e1,e2,e3,e4,e5⟩:=hvs i q hq'
  exact⟨q,k',rfl,⟨o,x,e1,e2,by rw[e4];exact e3⟩,kv.1,by rw[e4];rfl,e5⟩
 ·intro i v q hv ev
  obtain⟨q',rfl,hq'⟩:=item i v hv
  cases ev
  obtain⟨o,x,k',kv,e1,_⟩:=hvs i _ hq'
  have l1:=Heap.lt_size e1
  exact⟨fun z=>by rw[List.mem_singleton.mp z] at l1;exact Nat.lt_irrefl _ (Nat.lt_trans l1 ltd),fun z=>by rw[z] at l1;exact Nat.lt_irrefl _ l1⟩
 ·intro b o n1 n2 e
  exact Heap.get?_push_of_some _ (kk1 _ _ (Heap.get?_push_of_some _ e))
 ·intro h' tk hd' kk'
  refine⟨rfl,?_⟩
  refine⟨.ref s.heap.objs.size,_,I.laid (a:=s.heap.objs.size) (o:=.dK (mergeK [] kvs)) (t':=tk) (fun b o e=>?_) (Nat.le_refl _) (YW ?_ (beq_eq_false_iff_ne.mpr (Ne.symm (Nat.ne_of_lt I.big))) (KV.merge rel .nil) hd'),rfl,k _ (I.hok.fresh (Nat.le_refl _))⟩
  ·have l1:=Heap.lt_size e
   refine kk' b o (fun z=>?_) (fun z=>?_) (Heap.get?_push_of_some _ (kk1 _ _ (Heap.get?_push_of_some _ e)))
   ·rw[List.mem_singleton.mp z] at l1
    exact Nat.lt_irrefl _ (Nat.lt_trans l1 ltd)
   ·rw[z] at l1
    exact Nat.lt_irrefl _ l1
  ·have e1:=(KV.merge rel (.nil:KV ([]:List (Key×V)) [])).length
   have e2:=merged_length_le ([]:List (Key×Value)) vs
   simp only[List.length_nil] at e2
   exact Nat.le_trans (show _≤1000 by omega) (by decide)
def zbH (K:PySem.W.Frag) (A:Around):R2:=fun x y H Q=>∃ (a b:Addr) (xs ys:List V),x=.ref a∧y=.ref b∧SqL K H a xs∧SqL K H b ys∧xs.length≠ys.length∧A.units<cLine∧Q (.bl false) H
theorem Ys:OpR X (compareOp .Eq) (zbH X.K X.A):=by
 intro pins s σ H x y v u Q I rx ry h
 obtain⟨a,b,xs,ys,rfl,rfl,h1,h2,hl,hu,q⟩:=h
 cases rx;cases ry
 obtain⟨i1,r1,p1,_⟩:=I.list h1
 obtain⟨i2,r2,p2,_⟩:=I.list h2
 exact SeqAt.RcAt.lists_lengths p1.isList p2.isList (by simp;rw[← r1.length,← r2.length];exact hl) hu _ _ _ _ ⟨.bl _,H,I,rfl,q⟩
def EqP (X:Cx) (H:Hp) (x y:V) (b:Bool) (n:Nat):Prop:=∀ (pins:List (Addr×Obj)) (σ:St) (s:Shared),Inv X pins σ H s→∀ (A:Around) (u v:Value),A.units+n<cLine→RelV x u→RelV y v→SeqAt.EqAt A s u v b
theorem EqP.of {H:Hp}{x y:V}{b:Bool}{n:Nat}(h:EqD X.K H x y b n):EqP X H x y b n:=fun pins σ s I A u v hu r1 r2=>h.at I A u v hu r1 r2
theorem EqP.same {H:Hp}{a:Addr}{n:Nat}:EqP X H (.ref a) (.ref a) true n:=fun pins σ s I A u v hu rx ry=>by
 cases rx;cases ry
 exact SeqAt.EqAt.same _
end
section
variable {X:Cx}{pins:List (Addr×Obj)}{σ:St}{H G:Hp}{s:Shared}{d:Addr}{od:Obj}{kvs:List (Key×V)}
theorem Inv.froz (I:Inv X pins σ H s) (e:H d=some (.dK kvs)) (q0:s.heap.get? d=some od):Inv X pins σ (upd H d (.frz od (.dK kvs))) s:=by
 have ne:∀ {b:Addr}{o:HO},H b=some o→(∀ kvs,o≠.dK kvs)→upd H d (.frz od (.dK kvs)) b=some o:=fun {b o} q n=>by
  rw[upd_ne (fun z=>by rw[z,e] at q;injection q with q;exact n _ q.symm)];exact q
 have no:∀ {b:Addr},H b=none→upd H d (.frz od (.dK kvs)) b=none:=fun {b} q=>by
  rw[upd_ne (fun z=>by rw[z,e] at q;cases q)];exact q
 refine⟨I.ok,I.os,I.bare,⟨I.base.keep,I.base.slot,fun b o q n x=>no (I.base.free b o q n x),I.base.there,fun b xs q=>ne (I.base.tups b xs q) (fun _ z=>by cases z),fun b o u q=>ne (I.base.frzs b o u q) (fun _ z=>by cases z),fun b ps q=>?_⟩,I.loc,I.cell,no I.free,fun x c q=>no (I.freeC x c q),fun p hp=>?_,fun b o q=>?_,I.len⟩
 ·obtain⟨m,q⟩:=I.base.tbls b ps q
  exact⟨m,ne q (fun _ z=>by cases z)⟩
 ·obtain⟨p1,p2,p3⟩:=I.pin p hp
  exact⟨p1,no p2,p3⟩
 ·have st:∀ {b:Addr}{o:HO},H b=some o→ObjOk X.prog X.w (upd H d (.frz od (.dK kvs))) s.heap b o:=fun {b o} q=>(I.hok b o q).stay (fun c u _ q=>q) (fun c q=>ne q (fun _ z=>by cases z)) fun c xs q=>ne q (fun _ z=>by cases z)
  by_cases c:b=d
  ·subst c
   rw[upd_same] at q
   cases q
   exact⟨q0,st e⟩
  ·rw[upd_ne c] at q
   exact st q
theorem Inv.thaw (I:Inv X pins σ G s) (S:∀ o u,X.H₀ d≠some (.frz o u)) (g:G d=some (.frz od (.dK kvs))):Inv X pins σ (upd G d (.dK kvs)) s:=by
 have ne:∀ {b:Addr}{o:HO},G b=some o→(∀ ob u,o≠.frz ob u)→upd G d (.dK kvs) b=some o:=fun {b o} q n=>by
  rw[upd_ne (fun z=>by rw[z,g] at q;injection q with q;exact n _ _ q.symm)];exact q
 have no:∀ {b:Addr},G b=none→upd G d (.dK kvs) b=none:=fun {b} q=>by
  rw[upd_ne (fun z=>by rw[z,g] at q;cases q)];exact q
 refine⟨I.ok,I.os,I.bare,⟨I.base.keep,I.base.slot,fun b o q n x=>no (I.base.free b o q n x),I.base.there,fun b xs q=>ne (I.base.tups b xs q) (fun _ _ z=>by cases z),fun b o u q=>?_,fun b ps q=>?_⟩,I.loc,I.cell,no I.free,fun x c q=>no (I.freeC x c q),fun p hp=>?_,fun b o q=>?_,I.len⟩
 ·rw[upd_ne (fun(z:b=d)=>S o u (by rw[← z];exact q))]
  exact I.base.frzs b o u q
 ·obtain⟨m,q⟩:=I.base.tbls b ps q
  exact⟨m,ne q (fun _ _ z=>by cases z)⟩
 ·obtain⟨p1,p2,p3⟩:=I.pin p hp
  exact⟨p1,no p2,p3⟩
 ·have st:∀ {b:Addr}{o:HO},ObjOk X.prog X.w G s.heap b o→ObjOk X.prog X.w (upd G d (.dK kvs)) s.heap b o:=fun {b o} q=>q.stay (fun c u _ q=>q) (fun c q=>ne q (fun _ _ z=>by cases z)) fun c xs q=>ne q (fun _ _ z=>by cases z)
  by_cases c:b=d
  ·subst c
   rw[upd_same] at q
   cases q
   exact st (I.hok b _ g).2
  ·rw[upd_ne c] at q
   exact st (I.hok b o q)
theorem KV.getAt:∀ {kvs:List (Key×V)}{vs:List (Key×Value)},KV kvs vs→∀ {i:Nat}{p:Key×V},kvs[i]?=some p→∃ u,vs[i]?=some (p.1,u)∧RelV p.2 u
 |_,_,.nil,i,p,h=>by cases h
 |_,_,.cons (b:=q) r t,0,p,h=>by
  cases h
  exact⟨q.2,by rw[r.1];rfl,r.2⟩
 |_,_,.cons r t,i+1,p,h=>KV.getAt t (i:=i) h
end
theorem yd {X:Cx}{body:List Stmt}{q:TS→Prop}{t:TS}(h:Bx (PSs X body t)) (k:q t):∃ t,PSs X body t∧q t:=⟨t,h.of,k⟩
theorem wJ {X:Cx}{e:Expr}{t:TT}(h:Bx (PW X e t)):Bx (PT X e t):=⟨h.of.pt⟩
section
variable {X:Cx}
theorem ze {i j pos}:Bx (PE X (.Constant (.int i) j pos) (tC (.int i))):=⟨xA⟩
theorem zI {b j pos}:Bx (PE X (.Constant (.bool b) j pos) (tC (.bl b))):=⟨wH⟩
variable {a b:Expr}{ta tb:TE}{pos:Pos}
theorem xY {op:CmpOp}{t:TE}(h:Bx (PC X op a b t)) (h1:behindInMarks op b=false:=by first | exact nobehind _ (by decide) (by decide) | rfl):Bx (PT X (.Compare a [op] [b] pos) (tB t)):=⟨Wi h.of h1⟩
theorem zG {e:Expr}{t:TE}(h:Bx (PE X e t)) (he:∀ whole,isTrue e X.env whole=(do let v ← whole;standAt e.pos;holding [v] (truthy v)):=by intro _;rfl):Bx (PT X e (tB t)):=⟨xy h.of he⟩
variable {a b:Expr}{ta tb:TE}{pos:Pos}
variable {tA tB':TT}{rest:List Expr}
theorem yq (ha:Bx (PT X a tA)):Bx (PW X (.BoolOp .Or [a] pos) tA):=⟨wP ha.of⟩
theorem yt (ha:Bx (PT X a tA)) (hb:Bx (PW X (.BoolOp .Or (b::rest) pos) tB')):Bx (PW X (.BoolOp .Or (a::b::rest) pos) (tOr tA tB')):=⟨vJ ha.of hb.of⟩
theorem zO (ha:Bx (PT X a tA)):Bx (PT X (.UnaryOp .Not a pos) (zaR tA)):=⟨xz ha.of⟩
theorem yW {op}{t:TE}(h:Bx (PE X a t)):Bx (PE X (.BoolOp op [a] pos) t):=⟨Yj h.of⟩
theorem xu (ha:Bx (PE X a ta)) (hb:Bx (PE X (.BoolOp .And (b::rest) pos) tb)):Bx (PE X (.BoolOp .And (a::b::rest) pos) (tAndV ta tb)):=⟨Zd ha.of hb.of⟩
theorem uS (ha:Bx (PE X a ta)):Bx (PE X (.UnaryOp .Not a pos) (VN ta)):=⟨Wk ha.of⟩
end
section
variable {X:Cx}{st:Stmt}{rest:List Stmt}{t u:TS}{e:Expr}{te:TE}{pos:Pos}
theorem zp  : Bx (PSs X [] WK):=⟨yX⟩
theorem zb (h1:Bx (PS X st t)) (h2:Bx (PSs X rest u)):Bx (PSs X (st::rest) (VM t u)):=⟨zS h1.of h2.of⟩
theorem zg (h1:Bx (PS X st t)):Bx (PSs X [st] t):=⟨yi h1.of⟩
theorem zQ (he:Bx (PE X e te)) (hs:swapsWith e none pos.line X.env=pure false:=by rfl):Bx (PS X (.Expr e pos) (ZC te)):=⟨uo he.of hs⟩
theorem zi (he:Bx (PE X e te)):Bx (PS X (.Return (some e) pos) (zaP te)):=⟨xg he.of⟩
theorem zB {c:Expr}{a b:List Stmt}{tc:TT}(hc:Bx (PT X c tc)) (ha:Bx (PSs X a t)) (hb:Bx (PSs X b u)):Bx (PS X (.If c a b pos) (UL tc t u)):=⟨ve hc.of ha.of hb.of⟩
end
section
variable {X:Cx}{pos:Pos}
theorem zn {i:Nat}{x:Str}(hN:X.N.Nodup) (hi:X.N[i]?=some x) (hx:Loc X.env.scope x) (hf:X.fn x=true∨X.env.scope.names.lookup x=some .local:=by first | exact .inl rfl | exact .inr rfl | assumption):Bx (PG X (.Name x pos) (xQ i)):=⟨xO hN hi hx hf⟩
theorem zY  : Bx (PGs X [] gNil):=⟨Yh⟩
theorem zy {e:Expr}{es:List Expr}{t:TG}{u:TGs}(h1:Bx (PG X e t)) (h2:Bx (PGs X es u)) (hs:(assignEach (e::es) X.env).map (·.2)=assign e X.env::(assignEach es X.env).map (·.2):=by rfl):Bx (PGs X (e::es) (UB t u)):=⟨vf h1.of h2.of hs⟩
theorem yk {es:List Expr}{k:Nat}{t:TGs}{n:Nat}(hc:X.calm=true) (h:Bx (PGs X es t)) (hn:(assignEach es X.env).length=n:=by rfl) (hst:(assignEach es X.env).findIdx? (·.1)=none:=by rfl):Bx (PG X (.Tuple es k pos) (zbr X.K n t)):=⟨Wj hc h.of hn hst⟩
theorem uP {o i:Expr}{to ti:TE}{t:US}(ho:Bx (PE X o to)) (hi:Bx (PE X i ti)) (hs:zaI X t) (ha:∀ v,assign (.Subscript o i pos) X.env v=(do
   let ov ← holding [v] (eval o X.env)
   let iv ← holding [v,ov] (eval i X.env)
   standAt pos
   holding [v,ov,iv] (setItem ov iv v)
   release [v,ov,iv] []):=by intro _;rfl):Bx (PG X (.Subscript o i pos) (UO to ti t)):=⟨Ua ho.of hi.of hs ha⟩
theorem zm {i:Nat}{x:Str}{e:Expr}{te:TE}{pos':Pos}(hN:X.N.Nodup) (hi:X.N[i]?=some x) (hx:Loc X.env.scope x) (he:Bx (PE X e te)) (hs:swapsWith e (some (.Name x pos')) pos.line X.env=pure false:=by rfl) (hf:X.fn x=true∨X.env.scope.names.lookup x=some .local:=by first | exact .inl rfl | exact .inr rfl | assumption):Bx (PS X (.Assign [.Name x pos'] e pos) (WN te (xQ i))):=⟨vK hN hi hx he.of hs hf⟩
end
section
variable {X:Cx}{tg:Expr}
theorem zE {l:Expr}{tl:TE}(hl:Bx (PE X l tl)):Bx (PI X tg l (Vp X.K tl)):=⟨wn hl.of⟩
theorem zR {iter:Expr}{body:List Stmt}{wi:TI}{g:TG}{tb:TS}{pos:Pos}(hp:PassesOwn (model X.prog X.w) X.A X.env X.xe) (hc:X.calm=true) (hi:Bx (PI X tg iter wi)) (hg:Bx (PG X tg g)) (hb:Bx (PSs X body tb)) (hs:∀ x,foldedSetIterable iter X.env x=pure x:=by intro _;rfl):Bx (PS X (.For tg iter body [] pos) (zaS wi g tb)):=⟨vL hp hc hi.of hg.of hb.of hs⟩
end
section
variable {X:Cx}{a b c:Expr}{ta tb tc:TE}{pos:Pos}
theorem yx {op:UnaryOp}{r:V→Hp→VK→Prop}(ho:UnR X (unaryOp op) r) (ha:Bx (PE X a ta)):Bx (PE X (.UnaryOp op a pos) (tUn r ta)):=⟨Uc ho ha.of⟩
theorem yg {op:CmpOp}{r:R2}(ho:OpR X (compareOp op) r) (ha:Bx (PE X a ta)) (hb:Bx (PE X b tb)) (hm:behindInMarks op b=false):Bx (PE X (.Compare a [op] [b] pos) (tOp r ta tb)):=⟨vg ho ha.of hb.of hm⟩
theorem zo {op:CmpOp}{r:R2}(ho:OpR X (compareOp op) r) (ha:Bx (PE X a ta)) (hb:Bx (PE X b tb)) (hm:behindInMarks op b=false):Bx (PT X (.Compare a [op] [b] pos) (Xm (tOp r ta tb))):=⟨xN ho ha.of hb.of hm⟩
end
section
variable {X:Cx}{o e value:Expr}{f:Str}{pos pos' tpos:Pos}{ta tv:TE}
theorem uL (ha:Bx (PE X o ta)) (hv:Bx (PE X value tv)) (hs:swapsWith value (some (.Attribute o f pos')) pos.line X.env=pure false):Bx (PS X (.Assign [.Attribute o f pos'] value pos) (zbi X.K ta tv f)):=⟨u8 ha.of hv.of hs⟩
end
section
variable {X:Cx}{e:Expr}{es:List Expr}{te:TE}{t:TA}{pos:Pos}
theorem za  : Bx (PA X [] yQ):=⟨yr⟩
theorem zk (ha:Bx (PE X e te)) (hr:Bx (PA X es t)) (hs:starEach (e::es) X.env=(false,eval e X.env)::starEach es X.env:=by rfl):Bx (PA X (e::es) (zD te t)):=⟨yY ha.of hr.of hs⟩
theorem zA (h:Bx (PA X es t)):Bx (PE X (.List es pos) (ud t)):=⟨Wl h.of⟩
end
section
variable {X:Cx}{CX:CXT}{k:Nat}{f C:Addr}{fd:FuncData}{ps:List Str}{sp:Sp}{dvs:List V}{ds:List Value}{E:XK}{x m:Str}{p pos apos:Pos}{e o:Expr}{es:List Expr}{ta:TE}{t:TA}
theorem VC {pl:Sem Bool}(he:Bx (PE X o ta)) (c:Cls X.K C) (hm:Meth X.K C m f) (F:FnOk X.prog X.w X.K X.mg X.base CX k f fd ps sp) (hr:Room k X.A) (hb:Binds X.K fd ps ds) (hd:Vals dvs ds) (hx:wF CX X E) (ha:Bx (PA X (e::es) t)) (hst:starEach (e::es) X.env=(false,eval e X.env)::starEach es X.env:=by rfl) (hpl:(backTo pos (starEach es X.env)).any (·.1)=false:=by rfl) (ht:eval (.Call (.Attribute o m apos) (e::es) [] pos) X.env=(do
   let ov ← eval o X.env
   standAt apos.atName
   let (f,first) ← holding [ov] (getMethod ov m pl)
   callWith pos f first (backTo pos (starEach (e::es) X.env)) (backToKw pos (keywordEach [] X.env))):=by rfl):Bx (PE X (.Call (.Attribute o m apos) (e::es) [] pos) (VP C m sp dvs E ta t)):=⟨W9 he.of c hm F hr hb hd hx ha.of hst hpl ht⟩
end
section
variable {X:Cx}{x:Str}{p pos:Pos}{e:Expr}{es:List Expr}{t:TA}{id T:String}{r:List V→Hp→VK→Prop}
theorem zj (hc:xb X (.builtin id) r) (hg:Gl X x) (hm:X.mg x=none) (hv:bootBuiltins x=some (.builtin id)) (ha:Bx (PA X (e::es) t)) (hn:x ≠ "__name__" := by decide) (hdb:(x == ("__debug__" : Str))=false:=by decide) (he:starEach (e::es) X.env=(false,eval e X.env)::starEach es X.env:=by rfl) (hpl:(backTo pos (starEach es X.env)).any (·.1)=false:=by rfl):Bx (PE X (.Call (.Name x p) (e::es) [] pos) (tCB r t)):=⟨yE hc hg hm hv ha.of hn hdb he hpl⟩
theorem zL (hc:xb X (.type T) r) (hg:Gl X x) (hm:X.mg x=none) (hv:bootBuiltins x=some (.type T)) (ha:Bx (PA X (e::es) t)) (hn:x ≠ "__name__" := by decide) (hdb:(x == ("__debug__" : Str))=false:=by decide) (he:starEach (e::es) X.env=(false,eval e X.env)::starEach es X.env:=by rfl) (hpl:(backTo pos (starEach es X.env)).any (·.1)=false:=by rfl):Bx (PE X (.Call (.Name x p) (e::es) [] pos) (tCB r t)):=⟨vN hc hg hm hv ha.of hn hdb he hpl⟩
end
section
variable {X:Cx}{a b:Expr}{ta tb:TE}{pos:Pos}
theorem zv {r:R2}(hr:IxR X r) (ha:Bx (PE X a ta)) (hb:Bx (PE X b tb)) (hs:Xa b):Bx (PE X (.Subscript a b pos) (tOp r ta tb)):=⟨ur hr ha.of hb.of hs⟩
variable {o e:Expr}{es:List Expr}{to:TE}{t:TA}{name:Str}{apos cpos:Pos}{T id:String}{r:V→List V→Hp→VK→Prop}
theorem yu (pa:PlainAttrs T) (slot:Slot T name id) (hty:typeOf (.builtin id)=pure (.type "method_descriptor")) (hm:MtR X id r) (ho:Bx (PE X o to)) (ha:Bx (PA X (e::es) t)) (hbase:attributeBase o name X.env (eval o X.env)=eval o X.env:=by rfl) (hfew:((backTo cpos (starEach (e::es) X.env)).all (fun x=>!x.1)&&(backToKw cpos (keywordEach [] X.env)).all (fun x=>x.1.isSome)
   && decide ((e::es).length+([]:List Keyword).length+(if ([]:List Keyword).isEmpty then 0 else 1)<30))=true:=by rfl) (hline:(apos.endLine == cpos.line)=true:=by rfl) (hs:starEach (e::es) X.env=(false,eval e X.env)::starEach es X.env:=by rfl) (hplain:(backTo cpos (starEach es X.env)).any (·.1)=false:=by rfl):Bx (PE X (.Call (.Attribute o name apos) (e::es) [] cpos) (tBM X.K T r to t)):=⟨Vc pa slot hty hm ho.of ha.of hbase hfew hline hs hplain⟩
end
section
variable {X:Cx}{o i e value:Expr}{pos pos' tpos:Pos}{td ty tv:TE}
theorem yL (hu:X.A.units+1<cLine) (ho:Bx (PE X o td)) (hi:Bx (PE X i ty)) (hs:zaJ i):Bx (PE X (.Subscript o i pos) (WL td ty)):=⟨uu hu ho.of hi.of hs⟩
theorem wX (hu:X.A.units+1<cLine) (hi:Bx (PE X i ty)) (ho:Bx (PE X o td)):Bx (PC X .In i o (zaT ty td)):=⟨Wn hu hi.of ho.of⟩
theorem yw (hu:X.A.units+1<cLine) (ho:Bx (PE X o td)) (hi:Bx (PE X i ty)) (hv:Bx (PE X value tv)) (hs:swapsWith value (some (.Subscript o i pos')) pos.line X.env=pure false):Bx (PS X (.Assign [.Subscript o i pos'] value pos) (vH td ty tv)):=⟨uq hu ho.of hi.of hv.of hs⟩
end
section
variable {X:Cx}{pos:Pos}
theorem xK  : Bx (PE X (.Dict [] [] pos) uW):=⟨Zc⟩
theorem xJ  : Bx (PE X (.Dict [] [] pos) Wb):=⟨Zb⟩
end
section
variable {X:Cx}
theorem zh (i:Nat){x:Str}{pos:Pos}(hN:X.N[i]?=some x:=by rfl) (hv:Vis X.env.scope x:=by first | exact Or.inl rfl | exact Or.inr (Or.inl rfl) | exact Or.inr (Or.inr rfl)) (hd:(x == ("__debug__" : Str))=false:=by decide) (hcd:(x == ("__classdict__" : Str))=false:=by decide):Bx (PE X (.Name x pos) (ya i)):=⟨pv i hN hv hd hcd⟩
end
section
variable {X:Cx}{k:Nat}{f C:Addr}{fd:FuncData}{ps:List Str}{sp:Sp}{x m:Str}{p pos apos:Pos}{e o:Expr}{es:List Expr}{ta:TE}{t:TA}
theorem zr (c:Callee X.prog X.w X.K X.mg X.base x f fd ps k sp) (hr:Room k X.A) (ha:Bx (PA X (e::es) t)) (hg:Gl X x:=by rfl) (hdb:(x == ("__debug__" : Str))=false:=by decide) (he:starEach (e::es) X.env=(false,eval e X.env)::starEach es X.env:=by rfl) (hpl:(backTo pos (starEach es X.env)).any (·.1)=false:=by rfl):Bx (PE X (.Call (.Name x p) (e::es) [] pos) (wG sp [] E0 t)):=⟨Wm c hr ha.of hg hdb he hpl⟩
theorem zH {pl:Sem Bool}(he:Bx (PE X o ta)) (ha:Bx (PA X (e::es) t)) (hst:starEach (e::es) X.env=(false,eval e X.env)::starEach es X.env:=by rfl) (hpl:(backTo pos (starEach es X.env)).any (·.1)=false:=by rfl) (ht:eval (.Call (.Attribute o m apos) (e::es) [] pos) X.env=(do
   let ov ← eval o X.env
   standAt apos.atName
   let (f,first) ← holding [ov] (getMethod ov m pl)
   callWith pos f first (backTo pos (starEach (e::es) X.env)) (backToKw pos (keywordEach [] X.env))):=by rfl):Bx (PE X (.Call (.Attribute o m apos) (e::es) [] pos) (vD X m ta t)):=⟨Xr he.of ha.of hst hpl ht⟩
theorem yA {pl:Sem Bool}(he:Bx (PE X o ta)) (ht:eval (.Call (.Attribute o m apos) [] [] pos) X.env=(do
   let ov ← eval o X.env
   standAt apos.atName
   let (f,first) ← holding [ov] (getMethod ov m pl)
   callWith pos f first (backTo pos (starEach [] X.env)) (backToKw pos (keywordEach [] X.env))):=by rfl):Bx (PE X (.Call (.Attribute o m apos) [] [] pos) (vD X m ta yQ)):=⟨Yk he.of ht⟩
end
section
theorem zZ {X:Cx}{x:Str}{n:String}{pos:Pos}(hm:X.mg x=none) (hv:bootBuiltins x=some (.type n)) (hg:Gl X x:=by rfl) (hn:x ≠ "__name__" := by decide) (hd:(x == ("__debug__" : Str))=false:=by decide):Bx (PE X (.Name x pos) (tC (.ty n))):=⟨wQ hm hv hg hn hd⟩
end
section
variable {X:Cx}{es:List Expr}{t:TA}{te:TE}
theorem zd {x pos}(ha:Bx (PE X (.Name x pos) te)) (hr:Bx (PA X es t)):Bx (PA X (.Name x pos::es) (zD te t)):=⟨xV ha.of hr.of⟩
end
def Th (G:Hp) (Q:Hp→Prop) (H:Hp):Prop:=Q H∨∃ (d:Addr) (od:Obj) (kvs:List (Key×V)),(∀ o u,G d≠some (.frz o u))∧H d=some (.frz od (.dK kvs))∧Q (upd H d (.dK kvs))
def zbx (G:Hp) (t:TE):TE:=fun σ H Q=>t σ H fun v=>Th G (Q v)
def zbw (G:Hp) (t:TS):TS:=fun D σ H=>t ⟨fun σ=>Th G (D.nx σ),fun v=>Th G (D.rt v),fun σ=>Th G (D.bk σ),fun σ=>Th G (D.ct σ)⟩ σ H
section
variable {X:Cx}{pins:List (Addr×Obj)}{σ:St}{H G:Hp}{s:Shared}{d:Addr}{od:Obj}{kvs:List (Key×V)}
theorem Th.inv {Q:Hp→Prop}(I:Inv X pins σ H s) (h:Th X.H₀ Q H):∃ H',Inv X pins σ H' s∧Q H':=by
 rcases h with h | ⟨d,od,kvs,S,g,h⟩
 ·exact⟨_,I,h⟩
 ·exact⟨_,I.thaw S g,h⟩
theorem ZV {e:Expr}{t:TE}(h:Bx (PE X e t)):Bx (PE X e (zbx X.H₀ t)):=by
 have h:=h.of
 refine⟨?_⟩
 intro pins s σ H Q I q
 refine thn (h pins s σ H _ I q) fun u s' hq0=>?_
 obtain⟨v,H',I',r,q'⟩:=hq0
 obtain⟨H2,I2,q2⟩:=Th.inv I' q'
 exact⟨v,H2,I2,r,q2⟩
theorem vt {st:Stmt}{t:TS}(h:Bx (PS X st t)):Bx (PS X st (zbw X.H₀ t)):=by
 have h:=h.of
 refine⟨?_⟩
 intro pins s σ H D I q
 refine thn (h pins s σ H _ I q) fun f s' q'=>?_
 cases f with
 |next=>obtain⟨σ',H',I',q'⟩:=q';obtain⟨H2,I2,q2⟩:=Th.inv I' q';exact⟨_,_,I2,q2⟩
 |cont=>obtain⟨σ',H',I',q'⟩:=q';obtain⟨H2,I2,q2⟩:=Th.inv I' q';exact⟨_,_,I2,q2⟩
 |brk=>obtain⟨σ',H',I',q'⟩:=q';obtain⟨H2,I2,q2⟩:=Th.inv I' q';exact⟨_,_,I2,q2⟩
 |ret v=>obtain⟨x,σ',H',I',r,q'⟩:=q';obtain⟨H2,I2,q2⟩:=Th.inv I' q';exact⟨_,_,_,I2,r,q2⟩
theorem Vo {P:Program}{w:World}{k:Key}{u:Value}(h:(zx P w).is k u=true):RelV (kV k) u:=by
 rw[ZG] at h
 cases k with
 |inl i=>cases u<;>simp[vj,Value.isInt] at h<;>(subst h;exact⟨_,rfl⟩)
 |inr x=>cases u<;>simp[vj,Value.isStrOf] at h<;>(subst h;exact⟨_,rfl⟩)
theorem xD:entryFor table "dict_itemiterator.__iter__" = some Builtin.«dict_keyiterator.__iter__» :=
 entryFor_alias (id' := "dict_keyiterator.__iter__") (by kernel_rfl) rfl (by decide +kernel) (by kernel_rfl)
theorem xj {prog:Program}{w:World}{A:Around}{E:Value→Shared→Prop}{s:Shared}{it d:Addr}{i n ep:Nat}{ok ov:Value}{Q:Value→Shared→Prop}(hit:IsItemIter s.heap it d i n ep ok ov) (h:Q (.ref it) s):wpAny (model prog w) A (pyIter (.ref it)) Q E s:=by
 have ti:s.TypeIs (.ref it) "dict_itemiterator" := ⟨_,hit,rfl⟩
 refine wpAny_pyIter_slot ti F.slot_dict_itemiterator_iter (wpAny_call_entry F.slot_dict_itemiterator_iter ti xD ?_ (F.args_dict_itemiterator_iter_1 _))
 show wpAny _ _ (ret (.ref it)) _ _ s
 exact wpAny_pure ⟨_,rfl, "dict_itemiterator",_,ti,F.slot_dict_itemiterator_next.lookup,h⟩
abbrev YL:=Key×V→V→Hp→Hp→Prop
def yI:YL:=fun kv x H H'=>∃ p,H p=none∧x=.ref p∧H'=upd H p (.tup [kV kv.1,kv.2])
def Itd (yl:YL) (d:Addr) (od:Obj) (kvs:List (Key×V)):It :=
 ⟨fun i H=>H d=some (.frz od (.dK kvs))∧i<kvs.length,fun i H x H'=>∃ kv,kvs[i]?=some kv∧yl kv x H H',fun i H=>H d=some (.frz od (.dK kvs))∧kvs.length≤i⟩
theorem ui {P:Program}{w:World}{K:PySem.W.Frag}{es:List Expr}{n:Nat}{tp:Pos}{it d:Addr}{od:Obj}{kvs:List (Key×V)}{vs:List (Key×Value)}{ep:Nat}(rel:KV kvs vs)
  (da:∀ h:Heap,h.get? d=some od→Heap.DictAt (zx P w) h d vs ep):Turn P w K (.Tuple es n tp) (Itd yI d od kvs) [it] it (fun i h=>∃ ok ov,IsItemIter h it d i vs.length ep ok ov) where
 mem:=by simp
 obj:=fun i h ⟨ok,ov,st⟩ b hb=>by
  rw[List.mem_singleton.mp hb]
  exact⟨_,st,fun v z=>by
   have z':Data.fields _=Data.cell v:=z
   cases z'⟩
 keep:=fun i h h' ⟨ok,ov,st⟩ k=>⟨ok,ov,k it (by simp) _ st⟩
 item:=by
  intro X hP hw hK hc i pins s σ H E I hf st hg
  subst hP hw hK
  obtain⟨ok,ov,st⟩:=st
  have fi:=hf it (by simp)
  have d3:=(I.hok d _ hg.1).1
  have hx:kvs[i]?=some (kvs[i]'hg.2):=List.getElem?_eq_getElem hg.2
  obtain⟨u,hu,ru⟩:=rel.getAt hx
  refine wpAny_pyNext_items_item st (da _ d3) hu fun key h1 hkey O1 T1 z1 kk=>?_
  refine⟨_,rfl,wpAny_letOwnedTupleGo_items (s:={ s with heap:=h1 }) O1 fun h2 E2 sb=>?_⟩
  have te:s.heap.objs.size≠it:=(Nat.ne_of_lt (Heap.lt_size st)).symm
  have T2:=sb.extBut _ _ te T1
  have k2:∀ c o,c∉[it]→s.heap.get? c=some o→h2.get? c=some o:=fun c o hc q=>by
   have hc:c≠it:=by simpa using hc
   exact sb.extBut c o hc (kk c o hc q)
  have hn:H s.heap.objs.size=none:=I.fresh
  refine⟨.ref s.heap.objs.size,upd H s.heap.objs.size (.tup [kV (kvs[i]'hg.2).1,(kvs[i]'hg.2).2]),I.turnedLaid (t':=s.toks) (ch:=[it]) hf k2 (Nat.le_refl _) ⟨by show 2≤sizeLine;decide,[key,u],.cons (Vo hkey) (.cons ru .nil),⟨_,T2,rfl,_,rfl⟩⟩,rfl,
   ⟨_,hx,_,hn,rfl,rfl⟩,⟨_,_,E2⟩,fun c hc=>?_⟩
  rw[List.mem_singleton.mp hc,upd_ne te.symm]
  exact fi.1
 done:=by
  intro X hP hw hK hc i pins s σ H E I hf st hg
  subst hP hw hK
  obtain⟨ok,ov,st⟩:=st
  obtain⟨f0,f1,f2,f3,f4,f5⟩:=hf it (by simp)
  have d3:=(I.hok d _ hg.1).1
  have lv:=rel.length
  exact wpAny_pyNext_items_end (I.ok.hd hc) st (da _ d3) (List.getElem?_eq_none (by have:=hg.2;omega)) fun h' kk=>⟨rfl,I.turned (t':=s.toks) (fun b o hb q=>kk b o hb q) f0 f1 f3 f4 f5⟩
 self:=fun _ _ _ _ _ ⟨_,_,st⟩ h=>xj st h
def zbM (yl:YL) (G:Hp) (td:TE):TI:=fun σ H R=>td σ H fun x H1=>∃ (d:Addr) (kvs:List (Key×V)),x=.ref d∧H1 d=some (.dK kvs)∧∀ od:Obj,(∀ o u,G d≠some (.frz o u))→R (Itd yl d od kvs) (upd H1 d (.frz od (.dK kvs)))
theorem Vs {x:Addr}(I:Inv X pins σ H s) (e:H d=some (.dK kvs)):∀ o u,X.H₀ d≠some (.frz o u):=fun o u z=>by
 have:=I.base.frzs d o u z
 rw[e] at this;cases this
theorem xC {o:Expr}{es:List Expr}{n:Nat}{tp:Pos}{td:TE}{apos cpos:Pos}(ho:Bx (PE X o td)) (hbase:attributeBase o "items" X.env (eval o X.env)=eval o X.env:=by rfl) (hline:(apos.endLine == cpos.line)=true:=by rfl):Bx (PI X (.Tuple es n tp) (.Call (.Attribute o "items" apos) [] [] cpos) (zbM yI X.H₀ td)):=by
 have ho:=ho.of
 refine⟨?_⟩
 intro pins s σ H R I h
 refine wpAny_Call_method0_late hbase hline (thn (ho pins s σ H _ I h) fun v s1 hq0=>?_)
 obtain⟨x,H1,I1,rx,d,kvs,ex,e,q⟩:=hq0
 subst ex
 obtain rfl:v=Value.ref d:=rx
 obtain⟨t1,t2,_⟩:=wS I1 (.inl ⟨_,.inl e⟩)
 obtain⟨z,hd,vs,rel,dd⟩:=Vt I1.hok e
 refine⟨"dict", "dict.items",PySem.F.plainAttrs_dict,PySem.F.slot_dict_items,PySem.F.type_dict_items,t1,t2,Calls.callWith_builtin rfl (PySem.evalArgs_none ?_)⟩
 refine call_meetsIn PySem.F.slot_dict_items dd.typeIs PySem.F.entry_dict_items (PySem.F.args_dict_items_1 _) (meets_dict_items (zx X.prog X.w) d hd) ⟨⟨vs,dd⟩,?_⟩
 obtain⟨od,es',ep,q1,q2,q3,q4,q5,q6⟩:=dd
 have da:∀ h':Heap,h'.get? d=some od→Heap.DictAt (zx X.prog X.w) h' d vs ep:=fun _ q=>⟨od,es',q,q2,q3,q4,q5,q6⟩
 refine wpAny_pyIter_items (s:={ s1 with heap:=s1.heap.push _ }) (d:=d) ⟨_,Heap.get?_push_size _ rfl,rfl,rfl⟩ (da _ (Heap.get?_push_of_some _ q1)) ?_
 have hle:s1.heap.objs.size≤(s1.heap.push { cls:=.type "dict_items",data:=.fields #[.ref d] }).objs.size:=by rw[Heap.size_push];exact Nat.le_succ _
 have I1f:=I1.froz e q1
 refine⟨_,[(s1.heap.push { cls:=.type "dict_items",data:=.fields #[.ref d] }).objs.size],_,_,_,rfl,I1f.kept (t':=s1.toks) fun b u q=>Heap.get?_push_of_some _ (Heap.get?_push_of_some _ q),ui rel da,⟨_,_,Heap.get?_push_size _ rfl⟩,fun b hb=>?_,q od (Vs (x:=d) I1 e)⟩
 rw[List.mem_singleton.mp hb]
 exact I1f.fpOk hle (I1f.hok.fresh hle)
end
theorem Zm {yl:YL}{d:Addr}{od:Obj}{kvs:List (Key×V)}{g:TG}{tb:TS}{D:Ends}{σ:St}{H:Hp}(Pv:Nat→St→Hp→Prop) (h0:Pv 0 σ H) (hf:∀ i σ H,Pv i σ H→H d=some (.frz od (.dK kvs)))
  (hs:∀ i kv x σ H H',kvs[i]?=some kv→Pv i σ H→yl kv x H H'→g x σ H' fun σ2 H2=>tb { D with nx:=Pv (i+1),ct:=Pv (i+1),bk:=D.nx } σ2 H2) (hd:∀ σ H,Pv kvs.length σ H→D.nx σ H) :
  ∃ W:Nat→Nat→St→Hp→Prop,(∃ m,W 0 m σ H)∧∀ i m σ H,W i m σ H →
   ((Itd yl d od kvs).stop i H∧D.nx σ H)∨((Itd yl d od kvs).go i H∧∃ N:St→Hp→Prop,(∀ σ' H',N σ' H'→∃ m',m'<m∧W (i+1) m' σ' H')∧∀ x H',(Itd yl d od kvs).yld i H x H'→g x σ H' fun σ2 H2=>tb { D with nx:=N,ct:=N,bk:=D.nx } σ2 H2):=by
 refine⟨fun i m σ H=>m=kvs.length-i∧i≤kvs.length∧Pv i σ H,⟨_,rfl,Nat.zero_le _,h0⟩,?_⟩
 rintro i m σ H ⟨rfl,hi,p⟩
 have q:=hf i σ H p
 by_cases hlt:i<kvs.length
 ·refine .inr ⟨⟨q,hlt⟩,Pv (i+1),fun σ' H' z=>⟨_,by omega,rfl,hlt,z⟩,fun x H' ⟨kv,hk,y⟩=>hs i kv x σ H H' hk p y⟩
 ·have e:i=kvs.length:=by omega
  subst e
  exact .inl ⟨⟨q,Nat.le_refl _⟩,hd σ H p⟩
theorem Y2 {yl:YL}{d:Addr}{od:Obj}{kvs:List (Key×V)}{g:TG}{tc:TT}{te:TE}{Q:VK}{D:Addr}{τ0:St}{H0:Hp}(Pv:Nat→List V→St→Hp→Prop) (h0:Pv 0 [] τ0 H0) (hf:∀ i zs τ H,Pv i zs τ H→H d=some (.frz od (.dK kvs)))
  (hs:∀ i kv x zs τ H H',kvs[i]?=some kv→Pv i zs τ H→yl kv x H H'→g x τ H' fun τ2 H4=>tc τ2 H4 fun b H5 =>
   if b=true then te τ2 H5 fun y H6=>H6 D=some (.lst zs)∧zs.length<sizeLine∧Pv (i+1) (zs++[y]) τ2 (upd H6 D (.lst (zs++[y]))) else Pv (i+1) zs τ2 H5)
  (hd:∀ zs τ H,Pv kvs.length zs τ H→Q (.ref D) H):uc (Itd yl d od kvs) g tc te Q D τ0 H0 :=
 vp kvs.length Pv h0 (fun zs τ H p=>⟨⟨hf _ _ _ _ p,Nat.le_refl _⟩,hd zs τ H p⟩) fun i zs τ H hi p=>⟨⟨hf _ _ _ _ p,hi⟩,fun x H3 ⟨kv,hk,y⟩=>hs i kv x zs τ H H3 hk p y⟩
theorem ZR {K:Type} [DecidableEq K]{xs:List (K×Addr×Value)}{k:K}(h:∀ (j:Nat) (p:Addr×Value),xs[j]?≠some (k,p)):atKey xs k=none:=by
 unfold atKey
 rw[Option.map_eq_none_iff,List.find?_eq_none]
 intro x hx e
 obtain⟨j,hj⟩:=List.getElem?_of_mem hx
 have e:x.1=k:=by simpa using e
 exact h j x.2 (by rw[hj,← e])
theorem ZQ {K:Type} [DecidableEq K]{xs:List (K×Addr×Value)}{k:K}{j:Nat}{p:Addr×Value}(nd:(xs.map (·.1)).Nodup) (h:xs[j]?=some (k,p)):atKey xs k=some p:=by
 unfold atKey
 have hm:=List.mem_of_getElem? h
 cases hf:xs.find? (fun x=>decide (x.1=k)) with
 |none =>
  rw[List.find?_eq_none] at hf
  exact absurd (hf _ hm) (by simp)
 |some y =>
  have h1:=List.find?_some hf
  have h2:=List.mem_of_find?_eq_some hf
  have e:y.1=k:=by simpa using h1
  obtain⟨i,hi⟩:=List.getElem?_of_mem h2
  have z:i=j:=by
   have a1:(xs.map (·.1))[i]?=some k:=by rw[List.getElem?_map,hi,← e];rfl
   have a2:(xs.map (·.1))[j]?=some k:=by rw[List.getElem?_map,h];rfl
   obtain⟨l1,q1⟩:=List.getElem?_eq_some_iff.mp a1
   obtain⟨l2,q2⟩:=List.getElem?_eq_some_iff.mp a2
   exact(List.getElem?_inj l1 nd).mp (a1.trans a2.symm)
  subst z
  rw[hi] at h
  cases h
  rfl
theorem XT {prog:Program}{w:World}{K:Type} [DecidableEq K]{knd:HeapKind prog w K}{A:Around}{E:Value→Shared→Prop}{s:Shared}{d a:Addr}{xs:List (K×Addr×Value)}{k:K}{v:Value}{Q:Value→Shared→Prop}
  (hr:knd.room A) (hk:knd.is s.heap k a) (hd:Heap.DictOfH knd s.heap d xs)
  (h1:∀ p,atKey xs k=some p→Q p.2 { s with toks:=s.toks+knd.draws k })
  (h2:atKey xs k=none→∀ h',Heap.DictOfH knd h' d (storedH xs k a v)→Heap.SameBut d s.heap h'→Q v { s with heap:=h',toks:=s.toks+knd.draws k })
  (hz:xs.length≤sizeLine):wpAny (model prog w) A (dictSetDefault d (.ref a) v) Q E s:=by
 obtain⟨o,es,ep,ho,ex,hdat,hes,his,nd⟩:=hd
 unfold dictSetDefault
 refine wpAny_holding (wpAny_bind (knd.pyHash hr hk ?_))
 refine wpAny_bind (wpAny_dictFind_heap hr (s:={ s with toks:=s.toks+knd.draws k }) hk ho hdat hes his nd (fun hn=>?_) fun j p hj=>?_)
 ·have hn':=ZR hn
  refine wpAny_bind (wpAny_rule (wpAny_bind (wpAny_updateDictKeys (s:={ s with toks:=s.toks+knd.draws k }) ho hdat (wpAny_pure (h2 hn' _ ?_ ?_)) ?_ ?_)))
  ·have sb:Heap.SameBut d s.heap (s.heap.update d (Obj.mapDictKeys fun x=>x.push { hash:=knd.hash k,key:=.ref a,val:=v })):=⟨Heap.size_update _ _ _,fun b hb=>Heap.get?_update_ne _ _ _ _ hb⟩
   refine⟨_,es.push { hash:=knd.hash k,key:=.ref a,val:=v },ep+1,Heap.get?_update_self _ ho (by obtain⟨c,dd,dt,sl⟩:=o;cases hdat;rfl),?_,?_,?_,?_,?_⟩
   ·obtain⟨c,dd,dt,sl⟩:=o
    cases hdat
    exact ex
   ·obtain⟨c,dd,dt,sl⟩:=o
    cases hdat
    rfl
   ·rw[storedH_new hn',Array.toList_push,hes,List.map_append]
    rfl
   ·rw[storedH_new hn']
    intro x hx
    rcases List.mem_append.mp hx with z | z
    ·exact knd.keeps (his x z) ho hdat sb
    ·rw[List.mem_singleton.mp z]
     exact knd.keeps hk ho hdat sb
   ·rw[storedH_new hn',List.map_append,List.nodup_append]
    refine⟨nd,by simp,fun x hx y hy e=>?_⟩
    have hy:y=k:=by simpa using hy
    obtain⟨z,hz1,hz2⟩:=List.mem_map.mp hx
    obtain⟨j,hj⟩:=List.getElem?_of_mem hz1
    exact hn j z.2 (by rw[hj,← hy,← e,← hz2])
  ·exact⟨Heap.size_update _ _ _,fun b hb=>Heap.get?_update_ne _ _ _ _ hb⟩
  ·have:es.size=xs.length:=by
    rw[← Array.length_toList,hes,List.length_map]
   omega
  ·simp
 ·have e1:=ZQ nd hj
  refine wpAny_bind (wpAny_dictEntries (s:={ s with toks:=s.toks+knd.draws k }) ho hdat ?_)
  have:es[j]?=some (entryOfKey knd (k,p)):=by
   rw[← Array.getElem?_toList,hes,List.getElem?_map,hj]
   rfl
  rw[this]
  exact wpAny_bind (wpAny_rule (wpAny_pure (h1 p e1)))
theorem xh {prog:Program}{w:World}{K:Type} [DecidableEq K] (knd:HeapKind prog w K) (d a:Addr) (hd:(d == sysModules)=false) (v:Value) :
  MeetsIn prog w (Builtin.«dict.setdefault» ⟨[.ref d,.ref a,v],[]⟩) fun A R s=>knd.room A.in1∧s.TypeIs (.ref d) "dict" ∧ ∃ k xs,knd.is s.heap k a∧Heap.DictOfH knd s.heap d xs∧xs.length≤sizeLine ∧
   (∀ p,atKey xs k=some p→R (.ok (.ret p.2)) { s with toks:=s.toks+knd.draws k }) ∧
   (atKey xs k=none→∀ h',Heap.DictOfH knd h' d (storedH xs k a v)→Heap.SameBut d s.heap h'→R (.ok (.ret v)) { s with heap:=h',toks:=s.toks+knd.draws k }):=by
 intro A R s ⟨hr,ht,k,xs,hk,hx,hz,h1,h2⟩
 unfold Builtin.«dict.setdefault»
 refine wpAny_bind ?_
 unfold Builtin.Dict.keyAndDefault
 refine wpAny_bind (wpAny_notOrdered_dict ht ?_)
 show wpAny _ _ (pure (d,Value.ref a,some v)) _ _ _
 refine wpAny_pure ?_
 show wpAny _ _ (if (d == sysModules)=true then _ else _) _ _ _
 rw[if_neg (by rw[hd];simp)]
 refine wpAny_bind (XT hr hk hx (fun p hp=>?_) (fun hn h' hh sb=>?_) hz)
 ·exact wpAny_pure (h1 p hp)
 ·exact wpAny_pure (h2 hn h' hh sb)
def zaK (H:Hp) (a:Addr) (y v:V) (Q:V→Hp→Prop):Prop :=
 (∃ kvs k,H a=some (.dK kvs)∧y=kV k∧kvs.length<sizeLine∧(∀ x,yM kvs k=some x→Q x H)∧(yM kvs k=none→Q v (upd H a (.dK (putK kvs k v))))) ∨
 ∃ kvs k b,H a=some (.dT kvs)∧y=.ref b∧H b=some (.tup (k.map kV))∧kvs.length<sizeLine∧(∀ x,yM kvs k=some x→Q x H)∧(yM kvs k=none→Q v (upd H a (.dT (putK kvs k v))))
section
variable {X:Cx}{pins:List (Addr×Obj)}{σ:St}{H:Hp}{s:Shared}{a:Addr}{y v:V}{u r:Value}{A:Around}{E:Value→Shared→Prop}
theorem XV {Q:Value→Shared→Prop}{C:V→Hp→Prop}(hu:A.units+1<cLine) (I:Inv X pins σ H s) (g:zaK H a y v C) (ry:RelV y u) (rv:RelV v r) (h:∀ x H' w' s',C x H'→Inv X pins σ H' s'→RelV x w'→Q w' s') :
  wpAny (model X.prog X.w) A (call (.builtin "dict.setdefault") [.ref a,u,r]) Q E s:=by
 rcases g with⟨kvs,k,e,ey,l,c1,c2⟩ | ⟨kvs,k,b,e,ey,eb,l,c1,c2⟩
 ·subst ey
  obtain⟨z,hd,vs,rel,dd⟩:=Vt I.hok e
  have hz:vs.length≤sizeLine:=by rw[← rel.length];exact z
  have hl:(putK kvs k v).length≤sizeLine:=by have:=yP kvs k v;omega
  refine call_meetsIn PySem.F.slot_dict_setdefault dd.typeIs PySem.F.entry_dict_setdefault (PySem.F.args_dict_setdefault_3 _ _ _) (kt_meets_setdefault (zx X.prog X.w) a (vk ry) hd r) ⟨vs,dd,hz,fun w' hw=>?_,fun hn h' dd' hs=>?_⟩
  ·have q:=rel.val k
   rw[hw] at q
   cases hv:yM kvs k with
   |none=>rw[hv] at q;exact False.elim q
   |some x =>
    rw[hv] at q
    exact h x H w' _ (c1 x hv) (I.tok _) q
  ·have q:=rel.val k
   rw[hn] at q
   cases hv:yM kvs k with
   |some x=>rw[hv] at q;exact False.elim q
   |none =>
    have he:∃ q,h'.get? a=some q:=let ⟨q,_,_,hq,_⟩:=dd';⟨q,hq⟩
    exact h v _ r _ (c2 hv) (xS I (by rw[e];exact True.intro) hs he (YW hl hd (rel.put k rv) dd')) rv
 ·subst ey
  cases (show u=Value.ref b from ry)
  obtain⟨z,hd,xs,rel,dd⟩:=uG I.hok e
  have hz:xs.length≤sizeLine:=by rw[← Paired.length rel];exact z
  have hl:(putK kvs k v).length≤sizeLine:=by have:=yP kvs k v;omega
  refine call_meetsIn PySem.F.slot_dict_setdefault dd.typeIs PySem.F.entry_dict_setdefault (PySem.F.args_dict_setdefault_3 _ _ _) (xh (tupleKind (zx X.prog X.w)) a b hd r) ⟨tupleKind_room_in1 hu,dd.typeIs,k,xs,xm I.hok eb,dd,hz,fun p hp=>?_,fun hn h' dd' hs=>?_⟩
  ·have q:=rel.val k
   rw[hp] at q
   cases hv:yM kvs k with
   |none=>rw[hv] at q;exact False.elim q
   |some x =>
    rw[hv] at q
    exact h x H p.2 _ (c1 x hv) (I.tok _) q
  ·have q:=rel.val k
   rw[hn] at q
   cases hv:yM kvs k with
   |some x=>rw[hv] at q;exact False.elim q
   |none =>
    obtain⟨q,es,ep,hq,h2,h3,h4,_,h5⟩:=dd'
    refine h v _ r _ (c2 hv) (xS I (by rw[e];exact True.intro) hs ⟨q,hq⟩ ⟨hl,hd,_,(rel.put k eb rv).keeps fun c ys ec=>?_,q,es,ep,hq,h2,h3,h4,h5⟩) rv
    rw[upd_ne (XA ec e (fun z=>nomatch z))]
    exact ec
end
def UW (td ty tx:TE):TE:=fun σ H Q=>td σ H fun x H1=>∃ a,x=.ref a∧IsD H1 a∧ty σ H1 fun y H2=>tx σ H2 fun z H3=>zaK H3 a y z Q
section
variable {X:Cx}{o e f:Expr}{apos cpos:Pos}{td ty tx:TE}
theorem vy (hu:X.A.units+1<cLine) (ho:Bx (PE X o td)) (he:Bx (PE X e ty)) (hf:Bx (PE X f tx)) (m:M2 X o "setdefault" apos e f cpos):Bx (PE X (.Call (.Attribute o "setdefault" apos) [e,f] [] cpos) (UW td ty tx)):=by
 have ho:=ho.of
 have he:=he.of
 have hf:=hf.of
 refine⟨?_⟩
 intro pins s σ H Q I h
 refine wpAny_Call_method m.base m.few m.line PySem.F.plainAttrs_dict PySem.F.slot_dict_setdefault PySem.F.type_dict_setdefault (thn (ho pins s σ H _ I h) fun u s1 hq0=>?_)
 obtain⟨x,H1,I1,rx,a,ex,d,q1⟩:=hq0
 subst ex
 obtain rfl:u=Value.ref a:=rx
 obtain⟨t1,t2,_⟩:=wS I1 d
 refine⟨t1,t2,?_⟩
 rw[m.trees]
 refine Calls.callWith_builtin rfl (Calls.evalArgs_plain (Calls.spliced_cons (thn (he pins s1 σ H1 _ I1 q1) fun iv s2 ⟨y,H2,I2,ry,q2⟩ =>
  Calls.spliced_cons (thn (hf pins s2 σ H2 _ I2 q2) fun fv s3 ⟨z,H3,I3,rz,g⟩=>Calls.spliced_nil ?_))))
 exact XV hu I3 g ry rz fun x H' w' s4 c I4 rw'=>⟨x,H',I4,rw',c⟩
end
end L2
namespace L2
namespace Sco
open PySem PyProof.Rows
section
variable {rk:Value→Int}
def kf (rk:Value→Int) (l:List Keyed) (i:Nat):Int:=(l[i]?.map fun x=>rk x.1).getD 0
theorem Vn {l:List Keyed}{i:Nat}(h:i<l.length):kf rk l i=rk l[i].1:=by
 unfold kf
 rw[List.getElem?_eq_getElem h]
 rfl
theorem Wv {a:Array Keyed}{i:Nat}(h:i<a.size):rk a[i].1=kf rk a.toList i:=by
 rw[Vn (by simpa using h)]
 simp
def SA (rk:Value→Int) (l:List Keyed):Prop:=l.Pairwise fun x y=>rk x.1≤rk y.1
theorem SA.of {l:List Keyed}(h:∀ i j,i<j→j<l.length→kf rk l i≤kf rk l j):SA rk l:=by
 refine List.pairwise_iff_getElem.mpr fun i j hi hj hij=>?_
 have:=h i j hij hj
 rw[Vn hi,Vn hj] at this
 exact this
end
section
variable {prog:Program}{w:World}{A:Around}{E:Value→Shared→Prop}{s:Shared}{it:List Keyed}{κ:SortKind}{rk:Value→Int}
def Cmp (prog:Program) (w:World) (A:Around) (s:Shared) (it:List Keyed) (κ:SortKind) (rk:Value→Int):Prop :=
 ∀ x∈it,∀ y∈it,∀ (Q:Bool→Shared→Prop) (E:Value→Shared→Prop),Q (decide (rk x.1<rk y.1)) s→wpAny (model prog w) A (keyLt' κ x.1 y.1) Q E s
theorem zbt (C:Cmp prog w A s it κ rk){st:SortSt}(hk:kindOf st=κ){x y:Keyed}(hx:x∈it) (hy:y∈it){Q:Option Bool→SortSt→Prop}(h:Q (some (decide (rk x.1<rk y.1))) st):wpS (model prog w) A E s (lt' x y) Q st:=by
 rw[lt'_eq]
 refine wpS_bind (wpS_get ?_)
 rw[hk]
 refine wpS_bind (wpS_lift (wpAny_attempt (C x hx y hy _ _ ⟨rfl,?_⟩)))
 exact wpS_pure h
theorem Wa {st:SortSt}{arr:Array Keyed}{i:Nat}(hi:i<arr.size){Q:Keyed→SortSt→Prop}(h:Q arr[i] st):wpS (model prog w) A E s (elem' arr i) Q st:=by
 rw[elem'_eq,getElem?_pos arr i hi]
 exact wpS_pure h
def In (it:List Keyed) (o:Array Keyed):Prop:=∀ x∈o,x∈it
theorem In.at {o:Array Keyed}{i:Nat}(h:In it o) (hi:i<o.size):o[i]∈it:=h _ (Array.getElem_mem hi)
end
section
variable {prog:Program}{w:World}{A:Around}{E:Value→Shared→Prop}{s:Shared}{it T:List Keyed}{κ:SortKind}{n:Nat}{rk:Value→Int}
structure TB (it T:List Keyed) (κ:SortKind) (n:Nat) (st:SortSt):Prop where
 z:(arrOf st).size=n
 p:(arrOf st).toList.Perm T
 i:In it (arrOf st)
 k:kindOf st=κ
 f:failedOf st=none
theorem TB.perm {st:SortSt}(t:TB it T κ n st){xs:Array Keyed}(p:xs.Perm (arrOf st)):TB it T κ n (setArr st xs) :=
 ⟨p.size_eq.trans t.z,(Array.perm_iff_toList_perm.mp p).trans t.p,fun x hx=>t.i x (Array.mem_def.mpr ((Array.perm_iff_toList_perm.mp p).mem_iff.mp (Array.mem_def.mp hx))),t.k,t.f⟩
def ks (rk:Value→Int) (st:SortSt) (i:Nat):Int:=kf rk (arrOf st).toList i
theorem YI {st st':SortSt}{i j:Nat}(h:(arrOf st')[i]?=(arrOf st)[j]?):ks rk st' i=ks rk st j:=by
 unfold ks kf
 rw[Array.getElem?_toList,Array.getElem?_toList,h]
def Sg (rk:Value→Int) (st:SortSt) (lo hi:Nat):Prop:=∀ i j,lo≤i→i≤j→j<hi→ks rk st i≤ks rk st j
theorem t_ltAt (C:Cmp prog w A s it κ rk){st:SortSt}(t:TB it T κ n st){i j:Nat}(hi:i<n) (hj:j<n){Q:Option Bool→SortSt→Prop}(h:Q (some (decide (ks rk st i<ks rk st j))) st):wpS (model prog w) A E s (ltAt' i j) Q st:=by
 rw[ltAt'_eq]
 refine wpS_bind (wpS_get ?_)
 have hi:i<(arrOf st).size:=by rw[t.z];exact hi
 have hj:j<(arrOf st).size:=by rw[t.z];exact hj
 refine wpS_bind (Wa hi (wpS_bind (Wa hj (zbt C t.k (t.i.at hi) (t.i.at hj) ?_))))
 rw[Wv (rk:=rk) hi,Wv (rk:=rk) hj]
 exact h
structure Od (rk:Value→Int) (it T:List Keyed) (κ:SortKind) (n:Nat) (p:Array (Nat×Nat×Nat)) (lo:Nat) (f:Nat→Int) (st:SortSt):Prop where
 t:TB it T κ n st
 p:pendingOf st=p
 l:∀ i,i<lo→ks rk st i=f i
variable {p:Array (Nat×Nat×Nat)}{lo:Nat}{f:Nat→Int}
theorem t_rev {st:SortSt}(o:Od rk it T κ n p lo f st){i j:Nat}(hi:lo≤i) (hj:j≤n){Q:Unit→SortSt→Prop}(h:∀ st',Od rk it T κ n p lo f st'→(∀ k,ks rk st' k=if i≤k∧k<j then ks rk st (i+j-1-k) else ks rk st k)→Q () st'):wpS (model prog w) A E s (reverseSlice' i j) Q st:=by
 rw[reverseSlice'_eq]
 have hk:∀ k,ks rk (setArr st (mirror (arrOf st) i j ((j-i)/2))) k=if i≤k∧k<j then ks rk st (i+j-1-k) else ks rk st k:=fun k=>by
  have e:=getElem?_mirror_all (xs:=arrOf st) (i:=i) (j:=j) (by rw[o.t.z];exact hj) k
  by_cases q:i≤k∧k<j
  ·rw[if_pos q] at e ⊢
   exact YI e
  ·rw[if_neg q] at e ⊢
   exact YI e
 refine wpS_modify (h _ ⟨o.t.perm (mirror_perm _ _ _ _),o.p,fun k hk'=>?_⟩ hk)
 rw[hk k,if_neg (by omega)]
 exact o.l k hk'
theorem t_move {st:SortSt}(o:Od rk it T κ n p lo f st){i j:Nat}(hj:lo≤j) (hji:j≤i) (hi:i<n){Q:Unit→SortSt→Prop}(h:∀ st',Od rk it T κ n p lo f st'→(∀ k,ks rk st' k=if k=j then ks rk st i else if j<k∧k≤i then ks rk st (k-1) else ks rk st k)→Q () st'):wpS (model prog w) A E s (moveDown' i j) Q st:=by
 rw[moveDown'_eq]
 have hk:∀ k,ks rk (setArr st (bubble (arrOf st) i (i-j))) k=if k=j then ks rk st i else if j<k∧k≤i then ks rk st (k-1) else ks rk st k:=fun k=>by
  have e:=getElem?_bubble (xs:=arrOf st) (src:=i) (by rw[o.t.z];exact hi) (i-j) (by omega) k
  rw[show i-(i-j)=j by omega] at e
  by_cases q:k=j
  ·rw[if_pos q] at e ⊢
   exact YI e
  ·rw[if_neg q] at e ⊢
   by_cases q2:j<k∧k≤i
   ·rw[if_pos q2] at e ⊢
    exact YI e
   ·rw[if_neg q2] at e ⊢
    exact YI e
 refine wpS_modify (h _ ⟨o.t.perm (bubble_perm _ _ _),o.p,fun k hk'=>?_⟩ hk)
 rw[hk k,if_neg (by omega),if_neg (by omega)]
 exact o.l k hk'
theorem UT (C:Cmp prog w A s it κ rk){st:SortSt}(o:Od rk it T κ n p lo f st){m ok:Nat}(hm:lo+m≤n) (hok:ok≤m) (hm1:1≤m) (sg:Sg rk st lo (lo+ok)){Q:Bool→SortSt→Prop}(h:∀ st',Od rk it T κ n p lo f st'→Sg rk st' lo (lo+m)→Q true st'):wpS (model prog w) A E s (binarySort' lo m ok) Q st:=by
 rw[binarySort'_eq]
 refine wpS_bind (wpS_mono (wpS_forRange (I:=fun k c st'=>c=(none,())∧Od rk it T κ n p lo f st'∧Sg rk st' lo (lo+k)) (Q:=fun c st'=>c=(none,())∧Od rk it T κ n p lo f st'∧Sg rk st' lo (lo+m)) ?_ ?_ ⟨rfl,o,?_⟩) ?_)
 ·rintro k c st1 hk1 hk ⟨rfl,o1,sg1⟩
  dsimp only
  refine wpS_bind (wpS_mono (wpS_forRange (I:=fun jj c st'=>st'=st1∧∃ l r,c=(none,l,r)∧l≤r∧r≤k∧r≤l+(k-jj)∧(∀ i,i<l→ks rk st1 (lo+i)≤ks rk st1 (lo+k))∧(∀ i,r≤i→i<k→ks rk st1 (lo+k)≤ks rk st1 (lo+i))) (Q:=fun c st'=>st'=st1∧∃ l r,c=(none,l,r)∧l≤k∧(∀ i,i<l→ks rk st1 (lo+i)≤ks rk st1 (lo+k))∧(∀ i,l≤i→i<k→ks rk st1 (lo+k)≤ks rk st1 (lo+i))) ?_ ?_ ⟨rfl,_,_,rfl,by omega,Nat.le_refl _,by omega,fun i hi=>by omega,fun i h1 h2=>by omega⟩) ?_)
  ·rintro j c st2 _ hj ⟨rfl,l,r,rfl,hlr,hr,hf,g1,g2⟩
   dsimp only
   by_cases q:l≥r
   ·rw[if_pos q]
    exact wpS_pure ⟨rfl,_,_,rfl,by omega,g1,fun i h1 h2=>g2 i (by omega) h2⟩
   ·rw[if_neg q]
    refine wpS_bind (t_ltAt C o1.t (by omega) (by omega) ?_)
    by_cases z:ks rk st2 (lo+k)<ks rk st2 (lo+(l+r)/2)
    ·rw[decide_eq_true z]
     refine wpS_pure ⟨rfl,_,_,rfl,by omega,by omega,by omega,g1,fun i h1 h2=>?_⟩
     have:=sg1 (lo+(l+r)/2) (lo+i) (by omega) (by omega) (by omega)
     omega
    ·rw[decide_eq_false z]
     refine wpS_pure ⟨rfl,_,_,rfl,by omega,by omega,by omega,fun i h1=>?_,g2⟩
     have:=sg1 (lo+i) (lo+(l+r)/2) (by omega) (by omega) (by omega)
     omega
  ·rintro c st2 ⟨rfl,l,r,rfl,hlr,hr,hf,g1,g2⟩
   have e:max 0 k=k:=by omega
   rw[e] at hf
   exact⟨rfl,_,_,rfl,by omega,g1,fun i h1 h2=>g2 i (by omega) h2⟩
  ·rintro c st2 ⟨rfl,l,r,rfl,hl,g1,g2⟩
   dsimp only
   refine wpS_bind (t_move o1 (by omega) (by omega) (by omega) fun st3 o3 e3=>wpS_pure ⟨rfl,o3,fun i j h1 h2 h3=>?_⟩)
   rw[e3 i,e3 j]
   have ge:∀ x,lo≤x→x<lo+l→ks rk st2 x≤ks rk st2 (lo+k):=fun x a1 a2=>by
    have:=g1 (x-lo) (by omega)
    rw[show lo+(x-lo)=x by omega] at this
    exact this
   have le:∀ x,lo+l≤x→x<lo+k→ks rk st2 (lo+k)≤ks rk st2 x:=fun x a1 a2=>by
    have:=g2 (x-lo) (by omega) (by omega)
    rw[show lo+(x-lo)=x by omega] at this
    exact this
   by_cases c1:i=lo+l
   ·rw[if_pos c1]
    by_cases c2:j=lo+l
    ·rw[if_pos c2];exact Int.le_refl _
    ·rw[if_neg c2,if_pos (by omega)]
     exact le (j-1) (by omega) (by omega)
   ·rw[if_neg c1]
    by_cases c3:lo+l<i∧i≤lo+k
    ·rw[if_pos c3,if_neg (by omega),if_pos (by omega)]
     exact sg1 _ _ (by omega) (by omega) (by omega)
    ·rw[if_neg c3]
     by_cases c2:j=lo+l
     ·rw[if_pos c2]
      exact ge i h1 (by omega)
     ·rw[if_neg c2]
      by_cases c4:lo+l<j∧j≤lo+k
      ·rw[if_pos c4]
       exact sg1 _ _ h1 (by omega) (by omega)
      ·rw[if_neg c4]
       exact sg1 _ _ h1 h2 (by omega)
 ·rintro c st' ⟨rfl,o1,sg1⟩
  refine⟨rfl,o1,?_⟩
  rw[show max (max ok 1) m=m by omega] at sg1
  exact sg1
 ·intro i j h1 h2 h3
  by_cases q:ok=0
  ·have:i=j:=by omega
   rw[this]
   exact Int.le_refl _
  ·exact sg i j h1 h2 (by omega)
 ·rintro c st1 ⟨rfl,o1,sg1⟩
  exact wpS_pure (h st1 o1 sg1)
def Dn (rk:Value→Int) (st:SortSt) (lo m g:Nat):Prop:=(∀ i j,lo≤i→i≤j→j<lo+m→ks rk st j≤ks rk st i)∧g+1≤m∧∀ i,lo+m≤i+g+1→i<lo+m→ks rk st i=ks rk st (lo+m-1)
theorem zaO (C:Cmp prog w A s it κ rk){st:SortSt}(o:Od rk it T κ n p lo f st){m k:Nat}(hm:lo+m≤n) (hk1:1≤k) (hk:k≤m) (sg:Sg rk st lo (lo+k)){c0:Option (Option Nat)×Nat}(hc:c0=(none,k)){g:Nat→Option (Option Nat)×Nat→StateT SortSt Sem (ForInStep (Option (Option Nat)×Nat))}
  (hg:∀ (x i:Nat) (R:ForInStep (Option (Option Nat)×Nat)→SortSt→Prop),1≤i→i<m→(ks rk st (lo+i)<ks rk st (lo+i-1)→R (.done (none,i)) st)→(¬ ks rk st (lo+i)<ks rk st (lo+i-1)→R (.yield (none,i+1)) st)→wpS (model prog w) A E s (g x (none,i)) R st){Q:Option (Option Nat)×Nat→SortSt→Prop}
  (h:∀ j,k≤j→j≤m→Sg rk st lo (lo+j)→(j=m∨ks rk st (lo+j)<ks rk st (lo+j-1))→Q (none,j) st):wpS (model prog w) A E s (forIn [k:m] c0 g) Q st:=by
 subst hc
 refine wpS_mono (wpS_forRange (I:=fun i c st'=>st'=st∧c=(none,i)∧Sg rk st lo (lo+i)) (Q:=fun c st'=>st'=st∧∃ j,c=(none,j)∧k≤j∧j≤m∧Sg rk st lo (lo+j)∧(j=m∨ks rk st (lo+j)<ks rk st (lo+j-1))) ?_ ?_ ⟨rfl,rfl,sg⟩) ?_
 ·rintro i c st1 hi1 hi ⟨rfl,rfl,sg1⟩
  refine hg i i _ (by omega) hi (fun z=>⟨rfl,i,rfl,hi1,by omega,sg1,.inr z⟩) fun z=>⟨rfl,rfl,fun a b h1 h2 h3=>?_⟩
  by_cases e:b=lo+i
  ·subst e
   by_cases e2:a=lo+i
   ·subst e2;exact Int.le_refl _
   ·have:=sg1 a (lo+i-1) h1 (by omega) (by omega)
    omega
  ·exact sg1 a b h1 h2 (by omega)
 ·rintro c st1 ⟨rfl,rfl,sg1⟩
  rw[show max k m=m by omega] at sg1 ⊢
  exact⟨rfl,m,rfl,hk,Nat.le_refl _,sg1,.inl rfl⟩
 ·rintro c st1 ⟨rfl,j,rfl,h1,h2,h3,h4⟩
  exact h j h1 h2 h3 h4
theorem jn3 {α:Type}{H:α→Prop}{G:Prop}(h:∃ P:α→Prop,(∀ m,H m→P m)∧((∀ m,H m→P m)→G)):G:=by
 obtain⟨P,J,k⟩:=h
 exact k J
theorem WJ (C:Cmp prog w A s it κ rk){st:SortSt}(o:Od rk it T κ n p lo f st){m:Nat}(h1:1≤m) (hm:lo+m≤n){Q:Option Nat→SortSt→Prop}(h:∀ k st',1≤k→k≤m→Od rk it T κ n p lo f st'→Sg rk st' lo (lo+k)→Q (some k) st'):wpS (model prog w) A E s (countRun' lo m) Q st:=by
 rw[countRun'_eq]
 refine wpS_bind (zaO C o hm (Nat.le_refl _) h1 (fun i j a b c=>by rw[show i=j by omega];exact Int.le_refl _) rfl (fun x i R i1 i2 y1 y2=>wpS_bind (t_ltAt C o.t (by omega) (by omega) (by
  dsimp only
  by_cases z:ks rk st (lo+i)<ks rk st (lo+i-1)
  ·rw[decide_eq_true z]
   exact wpS_pure (y1 z)
  ·rw[decide_eq_false z]
   exact wpS_pure (y2 z)))) fun k k1 k2 sg k3=>?_)
 dsimp only
 by_cases q:(k == m)=true
 ·rw[if_pos q]
  exact wpS_pure (h k st k1 k2 o sg)
 rw[if_neg q]
 have q:k≠m:=fun z=>q (by simp[z])
 have k3:ks rk st (lo+k)<ks rk st (lo+k-1):=k3.resolve_left q
 refine jn3 (H:=fun st2=>Od rk it T κ n p lo f st2∧Dn rk st2 lo (k+1) 0) ?_
 apply Exists.intro
 apply And.intro
 case right =>
  intro J
  by_cases qk:k>1
  ·rw[if_pos qk]
   refine wpS_bind (t_ltAt C o.t (by omega) (by omega) ?_)
   by_cases z:ks rk st lo<ks rk st (lo+k-1)
   ·rw[decide_eq_true z]
    exact wpS_pure (h k st k1 k2 o sg)
   ·rw[decide_eq_false z]
    simp only[Bool.false_eq_true,if_false]
    refine wpS_bind (t_rev o (by omega) (by omega) fun st2 o2 e2=>J st2 ⟨o2,fun i j a1 a2 a3=>?_,by omega,fun i a1 a2=>by rw[show i=lo+(k+1)-1 by omega]⟩)
    have eq:∀ x,lo≤x→x<lo+k→ks rk st x=ks rk st lo:=fun x b1 b2=>by
     have c1:=sg lo x (Nat.le_refl _) b1 b2
     have c2:=sg x (lo+k-1) b1 (by omega) (by omega)
     omega
    have eq2:∀ x,lo≤x→x<lo+k→ks rk st2 x=ks rk st lo:=fun x b1 b2=>by
     rw[e2 x,if_pos ⟨b1,b2⟩]
     exact eq _ (by omega) (by omega)
    have e4:ks rk st2 (lo+k)=ks rk st (lo+k):=by rw[e2,if_neg (by omega)]
    have e5:=eq (lo+k-1) (by omega) (by omega)
    by_cases c:j=lo+k
    ·subst c
     by_cases c2:i=lo+k
     ·subst c2;exact Int.le_refl _
     ·rw[e4,eq2 i a1 (by omega)]
      omega
    ·rw[eq2 j (by omega) (by omega),eq2 i a1 (by omega)]
     exact Int.le_refl _
  ·rw[if_neg qk]
   have:k=1:=by omega
   subst this
   refine J st ⟨o,fun i j a1 a2 a3=>?_,by omega,fun i a1 a2=>by rw[show i=lo+(1+1)-1 by omega]⟩
   rcases Nat.lt_or_eq_of_le a2 with c | c
   ·rw[show i=lo by omega,show j=lo+1 by omega]
    rw[Nat.add_sub_cancel] at k3
    omega
   ·subst c;exact Int.le_refl _
 case left =>
  intro st2 ⟨o2,d2⟩
  refine wpS_bind (wpS_lift (wpAny_rule ⟨rfl,?_⟩))
  refine wpS_bind (wpS_mono (wpS_forRange (I:=fun i c st'=>Od rk it T κ n p lo f st'∧∃ g,c=(none,i,g)∧Dn rk st' lo i g) (Q:=fun c st'=>Od rk it T κ n p lo f st'∧∃ j g,c=(none,j,g)∧k+1≤j∧j≤m∧Dn rk st' lo j g) ?_ ?_ ⟨o2,_,rfl,d2⟩) ?_)
  ·rintro i c st3 hi1 hi ⟨o3,g,rfl,⟨d1,d2,d3⟩⟩
   dsimp only
   refine wpS_bind (t_ltAt C o3.t (by omega) (by omega) ?_)
   by_cases z:ks rk st3 (lo+i)<ks rk st3 (lo+i-1)
   ·rw[decide_eq_true z]
    simp only[if_true]
    by_cases qg:g>0
    ·rw[if_pos qg]
     refine wpS_bind (t_rev o3 (by omega) (by omega) fun st4 o4 e4=>wpS_pure ⟨o4,_,rfl,?_⟩)
     have same:∀ x,lo≤x→x<n→ks rk st4 x=ks rk st3 x:=fun x b1 b2=>by
      rw[e4 x]
      by_cases c:lo+i-(g+1)≤x∧x<lo+i
      ·rw[if_pos c,d3 (lo+i-(g+1)+(lo+i)-1-x) (by omega) (by omega),d3 x (by omega) (by omega)]
      ·rw[if_neg c]
     refine⟨fun a b a1 a2 a3=>?_,by omega,fun x a1 a2=>by rw[show x=lo+(i+1)-1 by omega]⟩
     rw[same a a1 (by omega),same b (by omega) (by omega)]
     by_cases c:b=lo+i
     ·subst c
      by_cases c2:a=lo+i
      ·subst c2;exact Int.le_refl _
      ·have:=d1 a (lo+i-1) a1 (by omega) (by omega)
       omega
     ·exact d1 a b a1 a2 (by omega)
    ·rw[if_neg qg]
     refine wpS_pure ⟨o3,_,rfl,fun a b a1 a2 a3=>?_,by omega,fun x a1 a2=>by rw[show x=lo+(i+1)-1 by omega]⟩
     by_cases c:b=lo+i
     ·subst c
      by_cases c2:a=lo+i
      ·subst c2;exact Int.le_refl _
      ·have:=d1 a (lo+i-1) a1 (by omega) (by omega)
       omega
     ·exact d1 a b a1 a2 (by omega)
   ·rw[decide_eq_false z]
    simp only[Bool.false_eq_true,if_false]
    refine wpS_bind (t_ltAt C o3.t (by omega) (by omega) ?_)
    by_cases z2:ks rk st3 (lo+i-1)<ks rk st3 (lo+i)
    ·rw[decide_eq_true z2]
     exact wpS_pure ⟨o3,_,_,rfl,hi1,by omega,d1,d2,d3⟩
    ·rw[decide_eq_false z2]
     refine wpS_pure ⟨o3,_,rfl,fun a b a1 a2 a3=>?_,by omega,fun x a1 a2=>?_⟩
     ·by_cases c:b=lo+i
      ·subst c
       by_cases c2:a=lo+i
       ·subst c2;exact Int.le_refl _
       ·have:=d1 a (lo+i-1) a1 (by omega) (by omega)
        omega
      ·exact d1 a b a1 a2 (by omega)
     ·rw[show lo+(i+1)-1=lo+i by omega]
      by_cases c:x=lo+i
      ·rw[c]
      ·have:=d3 x (by omega) (by omega)
       omega
  ·rintro c st3 ⟨o3,g,rfl,d3⟩
   rw[show max (k+1) m=m by omega] at d3 ⊢
   exact⟨o3,_,_,rfl,by omega,Nat.le_refl _,d3⟩
  ·rintro c st3 ⟨o3,j,g,rfl,j1,j2,d3⟩
   dsimp only
   refine jn3 (H:=fun st4=>Od rk it T κ n p lo f st4∧∀ i j',lo≤i→i≤j'→j'<lo+j→ks rk st4 j'≤ks rk st4 i) ?_
   apply Exists.intro
   apply And.intro
   case right =>
    intro J
    by_cases qg:g>0
    ·rw[if_pos qg]
     refine wpS_bind (t_rev o3 (by have:=d3.2.1;omega) (by omega) fun st4 o4 e4=>J st4 ⟨o4,fun a b a1 a2 a3=>?_⟩)
     have same:∀ x,lo≤x→x<n→ks rk st4 x=ks rk st3 x:=fun x b1 b2=>by
      have:=d3.2.1
      rw[e4 x]
      by_cases c:lo+j-(g+1)≤x∧x<lo+j
      ·rw[if_pos c,d3.2.2 (lo+j-(g+1)+(lo+j)-1-x) (by omega) (by omega),d3.2.2 x (by omega) (by omega)]
      ·rw[if_neg c]
     rw[same a a1 (by omega),same b (by omega) (by omega)]
     exact d3.1 a b a1 a2 a3
    ·rw[if_neg qg]
     exact J st3 ⟨o3,d3.1⟩
   case left =>
    intro st4 ⟨o4,d4⟩
    refine wpS_bind (t_rev o4 (by omega) (by omega) fun st5 o5 e5=>?_)
    have sg5:Sg rk st5 lo (lo+j):=fun a b a1 a2 a3=>by
     rw[e5 a,e5 b,if_pos ⟨a1,by omega⟩,if_pos ⟨by omega,a3⟩]
     exact d4 _ _ (by omega) (by omega) (by omega)
    refine wpS_bind (zaO C o5 hm (by omega) j2 sg5 rfl (fun x i R i1 i2 y1 y2=>wpS_bind (t_ltAt C o5.t (by omega) (by omega) (by
     dsimp only
     by_cases z:ks rk st5 (lo+i)<ks rk st5 (lo+i-1)
     ·rw[decide_eq_true z]
      exact wpS_pure (y1 z)
     ·rw[decide_eq_false z]
      exact wpS_pure (y2 z)))) fun k' b1 b2 b3 b4=>?_)
    exact wpS_pure (h k' st5 (by omega) b2 o5 b3)
theorem Sg.sa {st:SortSt}(h:Sg rk st 0 (arrOf st).size):SA rk (arrOf st).toList:=SA.of fun i j hij hj=>h i j (Nat.zero_le _) (by omega) (by simpa using hj)
end
end Sco
namespace Sco
open PySem PyProof.Rows PySem.W
section
variable {prog:Program}{w:World}{A:Around}{E:Value→Shared→Prop}{s:Shared}{it T:List Keyed}{κ:SortKind}{n:Nat}{rk:Value→Int}
theorem YD:∀ z,z≤63→2≤z→minRun' z z 0=z:=by decide
theorem VI (C:Cmp prog w A s it κ rk){st:SortSt}(t:TB it T κ n st) (hp:pendingOf st = #[]) (h2:2≤n) (h66:n≤63){Q:Unit→SortSt→Prop}(h:∀ st',TB it T κ n st'→Sg rk st' 0 n→Q () st'):wpS (model prog w) A E s sortRuns' Q st:=by
 have r1:=YD n h66 h2
 rw[sortRuns'_eq]
 refine wpS_bind (wpS_get ?_)
 rw[t.z]
 dsimp only
 refine wpS_bind (wpS_mono (wpS_forRange (I:=fun i c st'=>TB it T κ n st'∧∃ lo,c=(none,lo)∧i≤lo∧((lo=0∧pendingOf st' = #[])∨(lo=n∧Sg rk st' 0 n∧∃ p1,pendingOf st' = #[(0,n,p1)])))
  (Q:=fun c st'=>TB it T κ n st'∧∃ lo,c=(none,lo)∧Sg rk st' 0 n∧∃ p1,pendingOf st' = #[(0,n,p1)]) ?_ ?_ ⟨t,0,rfl,Nat.le_refl _,.inl ⟨rfl,hp⟩⟩) ?_)
 ·rintro i c st1 _ hi ⟨t1,lo,rfl,hil,hc⟩
  dsimp only
  rcases hc with⟨rfl,hpd⟩ | ⟨rfl,s1,hpd⟩
  ·rw[if_neg (by omega)]
   refine wpS_bind (WJ (p:=pendingOf st1) (f:=ks rk st1) C ⟨t1,rfl,fun _ _=>rfl⟩ (by omega) (by omega) fun fd st0 f1 f2 o0 s0=>?_)
   dsimp only
   rw[Nat.zero_add] at s0
   rw[r1]
   by_cases q2:fd<n
   ·rw[if_pos q2]
    refine wpS_bind (wpS_lift (wpAny_rule ⟨rfl,?_⟩))
    refine wpS_bind (UT C o0 (by omega) (by omega) (by omega) (by rw[Nat.zero_add];exact s0) fun st2 o2 s2=>?_)
    simp only[Bool.not_true,Bool.false_eq_true,if_false]
    refine wpS_bind (wpS_get ?_)
    rw[o2.p,hpd]
    refine wpS_bind (wpS_modify (wpS_pure ⟨⟨o2.t.z,o2.t.p,o2.t.i,o2.t.k,o2.t.f⟩,_,rfl,by omega,.inr ⟨by omega,?_,0,?_⟩⟩))
    ·have e:0+min (n-0) n=n:=by omega
     rw[e] at s2
     exact s2
    ·show(pendingOf st2).push _=_
     rw[o2.p,hpd,Nat.sub_zero,Nat.min_self]
     rfl
   ·rw[if_neg q2]
    have ef:fd=n:=by omega
    refine wpS_bind (wpS_get ?_)
    rw[o0.p,hpd]
    refine wpS_bind (wpS_modify (wpS_pure ⟨⟨o0.t.z,o0.t.p,o0.t.i,o0.t.k,o0.t.f⟩,_,rfl,by omega,.inr ⟨by omega,by rw[ef] at s0;exact s0,0,?_⟩⟩))
    show(pendingOf st0).push _=_
    rw[o0.p,hpd,ef]
    rfl
  ·rw[if_pos (Nat.le_refl _)]
   exact wpS_pure ⟨t1,_,rfl,s1,hpd⟩
 ·rintro c st1 ⟨t1,lo,rfl,hil,hc⟩
  rcases hc with⟨l0,_⟩ | ⟨_,h⟩
  ·omega
  ·exact⟨t1,lo,rfl,h⟩
 ·rintro c st1 ⟨t1,lo,rfl,sf,p1,hpd⟩
  dsimp only
  refine wpS_bind (wpS_mono (wpS_forRange (I:=fun i c st'=>st'=st1∧c=(none,())) (Q:=fun c st'=>st'=st1∧c=(none,())) ?_ (fun _ _ h=>h) ⟨rfl,rfl⟩) ?_)
  ·rintro i c st2 _ hi ⟨rfl,rfl⟩
   refine wpS_bind (wpS_get ?_)
   rw[hpd]
   exact wpS_pure ⟨rfl,rfl⟩
  ·rintro c st2 ⟨rfl,rfl⟩
   exact wpS_pure (h st2 t1 sf)
end
def PrV (h:Heap) (v:Value) (p:Int×Int):Prop:=∃ x o t u n,v=.ref x∧h.get? x=some o∧o.cls=.type "tuple" ∧ o.data=.seq #[.int p.1 t,.int p.2 u] n
def rkP (p:Int×Int):Int:=p.1*1000+p.2
section
variable {prog:Program}{w:World}{A:Around}{E:Value→Shared→Prop}{s:Shared}
theorem U8 {x y:Value}{p q:Int×Int}(hx:PrV s.heap x p) (hy:PrV s.heap y q) (bp:0≤p.2∧p.2<1000) (bq:0≤q.2∧q.2<1000){Q:Bool→Shared→Prop}(h:Q (decide (rkP p<rkP q)) s):wpAny (model prog w) A (keyLt' (tuples' true) x y) Q E s:=by
 obtain⟨x,o,t,u,n,rfl,ho,_,hd⟩:=hx
 obtain⟨y,o',t',u',n',rfl,ho',_,hd'⟩:=hy
 unfold rkP at h
 refine kat_lt ho hd ho' hd' (kat_cons (wpAny_eqBool_int ?_))
 by_cases e1:p.1=q.1
 ·refine kat_go (fun _=>kat_yes (kat_cons (wpAny_eqBool_int ?_))) fun z=>absurd e1 (by simpa using z)
  by_cases e2:p.2=q.2
  ·refine kat_go (fun _=>kat_yes (kat_nil ?_)) fun z=>absurd e2 (by simpa using z)
   have e:decide (p.1*1000+p.2<q.1*1000+q.2)=false:=decide_eq_false (by omega)
   rw[e] at h
   exact h
  ·refine kat_go (fun z=>absurd (by simpa using z) e2) fun _=>kat_no (kat_one _ _ (lt_int ?_))
   have e:decide (p.1*1000+p.2<q.1*1000+q.2)=decide (p.2<q.2):=decide_eq_decide.mpr (by omega)
   rw[e] at h
   exact h
 ·refine kat_go (fun z=>absurd (by simpa using z) e1) fun _=>kat_no (oneLt_int ?_)
  have e:decide (p.1*1000+p.2<q.1*1000+q.2)=decide (p.1<q.1):=decide_eq_decide.mpr (by omega)
  rw[e] at h
  exact h
theorem Yf:∀ {vs:List Value},(∀ v∈vs,(∃ p,PrV s.heap v p))→∃ fs:List Value,KatTups s.heap vs fs∧fs.length=vs.length∧∀ f∈fs,∃ i t,f=.int i t
 |[],_=>⟨[],.nil,rfl,fun f hf=>by cases hf⟩
 |v::vs,h=>by
  obtain⟨fs,k,hl,hi⟩:=Yf (vs:=vs) fun v hv=>h v (List.mem_cons_of_mem _ hv)
  obtain⟨⟨i,j⟩,x,o,t,u,n,rfl,ho,hc,hd⟩:=h v List.mem_cons_self
  refine⟨.int i t::fs,.cons ho hc hd rfl k,by simp[hl],fun f hf=>?_⟩
  rcases List.mem_cons.mp hf with rfl | hf
  ·exact⟨i,t,rfl⟩
  ·exact hi f hf
theorem W8 {vs:List Value}(h:∀ v∈vs,(∃ p,PrV s.heap v p)) (hne:0<vs.length){Q:SortKind→Shared→Prop}(q:Q (tuples' true) s):wpAny (model prog w) A (keyKind' vs.toArray) Q E s:=by
 obtain⟨fs,k,hl,hi⟩:=Yf h
 refine kat_kind (T:=.type "int") k (by omega) (fun v hv=>?_) rfl q
 obtain⟨i,t,rfl⟩:=hi v hv
 exact Looks.of_pure rfl
theorem Zh {vs:List Value}{p:Keyed}(h:p∈vs.toArray.zip vs.toArray):p.1∈vs∧p.2∈vs:=by
 have h:p∈(vs.toArray.zip vs.toArray).toList:=Array.mem_def.mp h
 rw[Array.toList_zip] at h
 obtain⟨a,b⟩:=p
 exact List.of_mem_zip h
theorem PrV.keeps {h h':Heap}{v:Value}{p:Int×Int}(q:PrV h v p) (k:∀ b o,h.get? b=some o→o.cls=.type "tuple" → h'.get? b=some o):PrV h' v p:=by
 obtain⟨x,o,t,u,n,e,ho,hc,hd⟩:=q
 exact⟨x,o,t,u,n,e,k _ _ ho hc,hc,hd⟩
theorem ZT:∀ vs:List Value,(vs.toArray.zip vs.toArray).toList.map (fun p:Keyed=>p.2)=vs:=fun vs=>by
 rw[Array.toList_zip]
 exact List.map_snd_zip (Nat.le_refl _)
theorem uK {vs:List Value}{p:Keyed}(h:p∈(vs.toArray.zip vs.toArray).toList):p.1=p.2:=by
 rw[Array.toList_zip] at h
 obtain⟨i,hi,e⟩:=List.getElem_of_mem h
 rw[List.getElem_zip] at e
 rw[← e]
theorem W7 {vs:List Value}{val:Value→Int×Int}(h:∀ v∈vs,PrV s.heap v (val v)) (hb:∀ v∈vs,0≤(val v).2∧(val v).2<1000) (h2:2≤vs.length) (h66:vs.length≤63){Q:Unit→SortSt→Prop}
  (q:∀ st':SortSt,failedOf st'=none→((arrOf st').map (·.2)).toList.Perm vs→((arrOf st').map (·.2)).toList.Pairwise (fun x y=>rkP (val x)≤rkP (val y))→Q () st') :
  wpS (model prog w) A E s sortRuns' Q (SortSt.mk' (tuples' true) (vs.toArray.zip vs.toArray) #[] 7 none):=by
 have hz:(vs.toArray.zip vs.toArray).size=vs.length:=by simp
 refine VI (it:=(vs.toArray.zip vs.toArray).toList) (T:=(vs.toArray.zip vs.toArray).toList) (κ:=tuples' true) (n:=vs.length) (rk:=fun v=>rkP (val v)) (fun x hx y hy Q E hq=>?_) ⟨hz,List.Perm.refl _,fun x hx=>Array.mem_def.mp hx,rfl,rfl⟩ rfl h2 h66 fun st' t sg=>q st' t.f ?_ ?_
 ·have mx:=(Zh (Array.mem_def.mpr hx)).1
  have my:=(Zh (Array.mem_def.mpr hy)).1
  exact U8 (h _ mx) (h _ my) (hb _ mx) (hb _ my) hq
 ·rw[Array.toList_map]
  have:=t.p.map (fun p:Keyed=>p.2)
  rw[ZT] at this
  exact this
 ·rw[Array.toList_map,List.pairwise_map]
  have sa:SA (fun v=>rkP (val v)) (arrOf st').toList:=Sg.sa (by rw[t.z];exact sg)
  refine sa.imp_of_mem fun {x y} hx hy hxy=>?_
  rw[← uK (t.p.mem_iff.mp hx),← uK (t.p.mem_iff.mp hy)]
  exact hxy
theorem ZD {a:Addr}{vs:List Value}{n:Nat}{P:PySem.Fin→Shared→Prop}(ho:s.heap.get? a=some (seqObj "list" vs.toArray n)){val:Value→Int×Int}(hp:∀ v∈vs,PrV s.heap v (val v)) (hb:∀ v∈vs,0≤(val v).2∧(val v).2<1000) (h66:vs.length≤63)
  (h:∀ o:Array Value,o.toList.Perm vs→o.toList.Pairwise (fun x y=>rkP (val x)≤rkP (val y))→P (.done (.ret .none)) { s with heap:=sortedHeap s.heap a vs o }):wpAny (model prog w) A (Builtin.«list.sort» ⟨[.ref a],[]⟩) P E s:=by
 have big:63≤sizeLine:=by decide
 have ha:=Heap.lt_size ho
 rw[list_sort_plain]
 refine wpAny_bind (listItems_at ho rfl (wpAny_bind (listUpdate_at ho rfl ?_ (by simp;omega) (Nat.zero_le _))))
 have o1:=get?_update_seq ho (fun _=>(#[]:Array Value))
 refine wpAny_bind (seqEpoch_at o1 rfl (wpAny_bind (wpAny_newTuple (wpAny_bind (wpAny_newList (wpAny_holding ?_) (Nat.zero_le _))) (by show vs.length≤_;omega))))
 generalize hH:Heap.push (Heap.push (s.heap.update a (Obj.mapSeq fun _=>(#[]:Array Value))) (seqObj "tuple" vs.toArray 0)) (seqObj "list" #[] 0)=H6
 have hs:∀ o:Array Value,sortedHeap s.heap a vs o=H6.update a (Obj.mapSeq fun _=>o):=fun o=>by rw[← hH];rfl
 have o6:=Heap.get?_push_of_some (seqObj "list" #[] 0) (Heap.get?_push_of_some (seqObj "tuple" vs.toArray 0) o1)
 rw[hH] at o6
 have hp6:∀ v∈vs,PrV H6 v (val v):=fun v hv=>(hp v hv).keeps fun b o e hc=>by
  have hb:a≠b:=fun z=>by
   rw[← z,ho] at e
   cases e
   have hc:Value.type "list" = .type "tuple" := hc
   injection hc with hc
   exact absurd hc (by decide)
  rw[← hH]
  refine Heap.get?_push_of_some _ (Heap.get?_push_of_some _ ?_)
  rw[Heap.get?_update_other _ _ hb]
  exact e
 have e6:({ s with heap:=Heap.push (Heap.push (s.heap.update a (Obj.mapSeq fun _=>(#[]:Array Value))) (seqObj "tuple" vs.toArray 0)) (seqObj "list" #[] 0) }:Shared)={ s with heap:=H6 }:=by rw[hH]
 refine(show wpAny (model prog w) A _ P E { s with heap:=H6 } from ?_)
 dsimp only
 have hz0:((vs.toArray.zip vs.toArray).map (fun p:Keyed=>p.2)).size=vs.length:=by simp
 by_cases q:vs.toArray.size<2
 ·rw[if_pos q,if_pos q]
  refine wpAny_bind (wpAny_pure ?_)
  rw[StateT.run_pure]
  refine wpAny_bind (wpAny_pure (wpAny_bind (seqEpoch_at o6 rfl (wpAny_bind (listUpdate_at o6 rfl ?_ (Nat.zero_le _) (by show((vs.toArray.zip vs.toArray).map (fun p:Keyed=>p.2)).size≤_;omega))))))
  simp only[bne_self_eq_false,Bool.false_eq_true,if_false]
  refine wpAny_pure ?_
  rw[← hs]
  have e:((vs.toArray.zip vs.toArray).map (fun p:Keyed=>p.2)).toList=vs:=by rw[Array.toList_map];exact ZT vs
  refine h _ (by rw[e]) ?_
  rw[e]
  have q:vs.length<2:=by simpa using q
  match vs,q with
  |[],_=>exact List.Pairwise.nil
  |[x],_=>exact List.pairwise_singleton _ _
 ·rw[if_neg q,if_neg q]
  have q:2≤vs.length:=by simp at q;omega
  refine wpAny_bind (W8 (fun v hv=>⟨_,hp6 v hv⟩) (by omega) ?_)
  refine wpAny_bind (wpAny_mono (W7 (s:={ s with heap:=H6 }) hp6 hb q h66 (Q:=fun _ st'=>failedOf st'=none∧((arrOf st').map (·.2)).toList.Perm vs∧((arrOf st').map (·.2)).toList.Pairwise (fun x y=>rkP (val x)≤rkP (val y))) fun st' a1 a2 a3=>⟨a1,a2,a3⟩) ?_ fun _ _ e=>e)
  rintro⟨⟨⟩,st'⟩ s' ⟨rfl,hf,hz,hm⟩
  have hz':((arrOf st').map (·.2)).size=vs.length:=by rw[← Array.length_toList,hz.length_eq]
  refine wpAny_bind (seqEpoch_at o6 rfl (wpAny_bind (listUpdate_at o6 rfl ?_ (Nat.zero_le _) (by show((arrOf st').map (·.2)).size≤_;omega))))
  rw[hf]
  simp only[bne_self_eq_false,Bool.false_eq_true,if_false]
  refine wpAny_pure ?_
  rw[← hs]
  exact h _ hz hm
theorem vF {l:Addr}{vs:List Value}{Q:Value→Shared→Prop}(hl:s.heap.IsList l vs.toArray){val:Value→Int×Int}(hp:∀ v∈vs,PrV s.heap v (val v)) (hb:∀ v∈vs,0≤(val v).2∧(val v).2<1000) (h66:vs.length≤63)
  (h:∀ o:Array Value,o.toList.Perm vs→o.toList.Pairwise (fun x y=>rkP (val x)≤rkP (val y))→Q (.ref (s.heap.objs.size+1)) { s with heap:=sortedAll s.heap vs o }):wpAny (model prog w) A (call (.builtin "sorted") [.ref l]) Q E s:=by
 have big:63≤sizeLine:=by decide
 refine Calls.call_function_entry kind_sorted plain_sorted entry_sorted (args_sorted1 _) ?_
 unfold Builtin.«sorted»
 refine wpAny_bind (m:=checkCount "sorted" 1 1 _) (wpAny_pure (wpAny_bind (collect_list hl (wpAny_bind (wpAny_newList ?_ (by show vs.length≤_;omega))) (by omega))))
 have hz:(Heap.update (Heap.push s.heap (seqObj "list" #[] 0)) s.heap.objs.size (Obj.mapSeq fun x=>x++vs.toArray)).objs.size=s.heap.objs.size+1:=(Heap.size_update _ _ _).trans (size_push' _ _)
 have hk:∀ b o,s.heap.get? b=some o→(Heap.push (Heap.update (Heap.push s.heap (seqObj "list" #[] 0)) s.heap.objs.size (Obj.mapSeq fun x=>x++vs.toArray)) (seqObj "list" vs.toArray 0)).get? b=some o:=fun b o e=>by
  refine Heap.get?_push_of_some _ ?_
  rw[Heap.get?_update_other _ _ (Nat.ne_of_gt (Heap.lt_size e))]
  exact Heap.get?_push_of_some _ e
 have ho:=Heap.get?_push_size (Heap.update (Heap.push s.heap (seqObj "list" #[] 0)) s.heap.objs.size (Obj.mapSeq fun x=>x++vs.toArray)) (o:=seqObj "list" vs.toArray 0) rfl
 refine(show wpAny _ _ _ _ _ { s with heap:=Heap.push (Heap.update (Heap.push s.heap (seqObj "list" #[] 0)) s.heap.objs.size (Obj.mapSeq fun x=>x++vs.toArray)) (seqObj "list" vs.toArray 0) } from ?_)
 rw[hz] at ho ⊢
 refine wpAny_bind (wpAny_holding (wpAny_call_entry slot_list_sort ⟨_,ho,rfl⟩ entry_list_sort ?_ (args_list_sort _)))
 refine ZD ho (fun v hv=>(hp v hv).keeps fun b o e _=>hk b o e) hb h66 fun o z m=>⟨_,rfl,wpAny_pure ⟨_,rfl,h o z m⟩⟩
end
section
variable {X:Cx}
abbrev PT:=Addr×Int×Int
theorem Yi {α β:Type}{f:α→β}:∀ {l m:List β},l.Perm m→∀ ps:List α,ps.map f=m→∃ qs:List α,qs.Perm ps∧qs.map f=l:=by
 intro l m h
 induction h with
 |nil =>
  intro ps e
  exact⟨ps,List.Perm.refl _,e⟩
 | @cons x l m _ ih =>
  intro ps e
  cases ps with
  |nil=>cases e
  |cons p ps =>
   rw[List.map_cons] at e
   injection e with e1 e2
   obtain⟨qs,h1,h2⟩:=ih ps e2
   exact⟨p::qs,h1.cons p,by rw[List.map_cons,h2,e1]⟩
 |swap x y l =>
  intro ps e
  match ps,e with
  |p::q::ps,e =>
   rw[List.map_cons,List.map_cons] at e
   injection e with e1 e2
   injection e2 with e2 e3
   exact⟨q::p::ps,List.Perm.swap _ _ _,by rw[List.map_cons,List.map_cons,e1,e2,e3]⟩
 |trans _ _ ih1 ih2 =>
  intro ps e
  obtain⟨qs,h1,h2⟩:=ih2 ps e
  obtain⟨rs,h3,h4⟩:=ih1 qs h2
  exact⟨rs,h3.trans h1,h4⟩
def vlH (H:Hp):Value→Int×Int
 |.ref a=>match H a with
  |some (.tup [.int i,.int j])=>(i,j)
  |_=>(0,0)
 |_=>(0,0)
def PsAt (H:Hp) (ps:List PT):Prop:=∀ p∈ps,H p.1=some (.tup [.int p.2.1,.int p.2.2])∧0≤p.2.2∧p.2.2<1000
theorem PsAt.vl {H:Hp}{ps:List PT}(h:PsAt H ps){p:PT}(hp:p∈ps):vlH H (.ref p.1)=p.2:=by
 show(match H p.1 with
  |some (.tup [.int i,.int j])=>(i,j)
  |_=>(0,0))=p.2
 rw[(h p hp).1]
theorem PsAt.prv {pins:List (Addr×Obj)}{σ:St}{H:Hp}{s:Shared}{ps:List PT}(I:Inv X pins σ H s) (h:PsAt H ps):∀ v∈ps.map (fun p=>Value.ref p.1),PrV s.heap v (vlH H v):=fun v hv=>by
 obtain⟨p,hp,rfl⟩:=List.mem_map.mp hv
 rw[h.vl hp]
 obtain⟨_,vs,rr,ob,e1,e2,n,e3⟩:=(show ObjOk X.prog X.w H s.heap p.1 (.tup [.int p.2.1,.int p.2.2]) from I.hok p.1 _ (h p hp).1)
 cases rr with
 |cons r1 rr =>
  cases rr with
  |cons r2 rr =>
   cases rr
   obtain⟨t1,rfl⟩:=r1
   obtain⟨t2,rfl⟩:=r2
   exact⟨p.1,ob,t1,t2,n,rfl,e1,e2,e3⟩
theorem vA:∀ {ps:List PT}{us:List Value},Vals (ps.map fun p=>V.ref p.1) us→us=ps.map fun p=>Value.ref p.1
 |[],_,h=>by cases h;rfl
 |p::ps,_,h=>by
  cases h with
  |cons r t =>
   cases r
   rw[List.map_cons,vA t]
theorem vI:∀ (ps:List PT),Vals (ps.map fun p=>V.ref p.1) (ps.map fun p=>Value.ref p.1)
 |[]=>.nil
 |p::ps=>.cons rfl (vI ps)
def V4 (K:PySem.W.Frag):List V→Hp→VK→Prop:=fun xs H Q=>∃ (a:Addr) (ps:List PT),xs=[V.ref a]∧SqL K H a (ps.map fun p=>V.ref p.1)∧ps.length≤63∧PsAt H ps ∧
 ∀ (l:Addr) (qs:List PT),H l=none→qs.Perm ps→qs.Pairwise (fun x y=>rkP x.2≤rkP y.2)→Q (.ref l) (upd H l (.lst (qs.map fun p=>V.ref p.1)))
theorem Z7 {H:Hp}{ps:List PT}(h:PsAt H ps){o:Array Value}(po:o.toList.Perm (ps.map fun p=>Value.ref p.1)) (so:o.toList.Pairwise (fun x y=>rkP (vlH H x)≤rkP (vlH H y))):∃ qs:List PT,qs.Perm ps∧qs.Pairwise (fun x y=>rkP x.2≤rkP y.2)∧o.toList=qs.map fun p=>Value.ref p.1:=by
 obtain⟨qs,h1,h2⟩:=Yi po ps rfl
 refine⟨qs,h1,?_,h2.symm⟩
 rw[← h2,List.pairwise_map] at so
 refine so.imp_of_mem fun {x y} hx hy hxy=>?_
 rw[h.vl (h1.mem_iff.mp hx),h.vl (h1.mem_iff.mp hy)] at hxy
 exact hxy
theorem call_sortX:xb X (.builtin "sorted") (V4 X.K):=by
 intro pins s σ H xs us Q I r h
 obtain⟨a,ps,rfl,ha,h66,hy,q⟩:=h
 obtain⟨u,rfl,ru⟩:=r.one
 cases ru
 obtain⟨its,rv,p,hz⟩:=I.list ha
 have hl:=vA rv
 subst hl
 refine vF p.isList (hy.prv I) (fun v hv=>?_) (by rw[List.length_map];exact h66) fun o z m=>?_
 ·obtain⟨p,hp,rfl⟩:=List.mem_map.mp hv
  rw[hy.vl hp]
  exact(hy p hp).2
 ·obtain⟨qs,h1,h2,h3⟩:=Z7 hy z m
  have hn:H (s.heap.objs.size+1)=none:=I.hok.fresh (Nat.le_succ _)
  obtain⟨c,hc⟩:=sortedAll_at s.heap (ps.map fun p=>Value.ref p.1) o
  refine⟨.ref _,_,I.laid (a:=s.heap.objs.size+1) (o:=.lst (qs.map fun p=>V.ref p.1)) (t':=s.toks) (fun _ _ e=>sortedAll_old e) (Nat.le_succ _) ⟨by rw[List.length_map,h1.length_eq];rw[List.length_map] at hz;exact hz,o.toList,c,by rw[h3];exact vI qs,hc⟩,rfl,q _ qs hn h1 h2⟩
end
end Sco
end L2
namespace L2
open PySem PySem.Spec PyProof.Rows
def Xb (h:Heap) (d:Addr) (es:Array DictEntry) (ep:Nat):Prop:=∃ o,h.get? d=some o∧o.ExactDict∧o.data=.dict es ep
section
variable {X:Cx}
theorem Ve:OpR X (compareOp .IsNot) (fun x y H Q=>∃ b,x=.bl b∧y=.bl true∧Q (.bl (!b)) H):=by
 intro pins s σ H x y v u Q I rx ry h
 obtain⟨b,rfl,rfl,q⟩:=h
 cases rx
 cases ry
 have e:compareOp .IsNot (.bool b) (.bool true)=pure (.bool (!b)):=by cases b<;>rfl
 rw[e]
 exact wpAny_pure ⟨.bl (!b),H,I,rfl,q⟩
end
def KIt (h:Heap) (it d:Addr) (i n ep:Nat):Prop:=h.get? it=some { cls:=.type "dict_keyiterator",data:=.fields #[.ref d,.int i 0,.int n 0,.int ep 0] }
section
variable {prog:Program}{w:World}{A:Around}{E:Value→Shared→Prop}{s:Shared}
theorem WF {it d:Addr}{i ep:Nat}{es:Array DictEntry}{e:DictEntry}{Q:PySem.Fin→Shared→Prop}(hi:KIt s.heap it d i es.size ep) (hd:Xb s.heap d es ep) (he:es[i]?=some e)
  (h:∀ h',KIt h' it d (i+1) es.size ep→Heap.SameBut it s.heap h'→Q (.done (.ret e.key)) { s with heap:=h' }):wpAny (model prog w) A (Builtin.«dict_keyiterator.__next__» ⟨[.ref it],[]⟩) Q E s:=by
 obtain⟨⟨c,dct,dat,sl⟩,ho,ex,hdat⟩:=hd
 cases hdat
 have hT:s.TypeIs (.ref it) "dict_keyiterator" := ⟨_,hi,rfl⟩
 refine wpAny_bind (m:=Builtin.Dict_items.slot0 "__next__" _) (wpAny_pure ?_)
 refine wpAny_bind ?_
 refine wpAny_bind ?_
 have z1:((es.size:Int) != (es.size:Int))=false:=by simp
 have z2:((ep:Int) != (ep:Int))=false:=by simp
 repeat (any_goals (first | assumption | (simp only[z1,z2,Bool.false_eq_true,if_false]) | wp_step))
 have z3:(if (i:Int)<0 then none else es[((i:Int)).toNat]?)=some e:=by
  rw[if_neg (by omega)]
  exact he
 rw[z3]
 refine wpAny_bind ?_
 refine wpAny_bind (m:=typeNameOfWhole (.ref it)) ?_
 repeat (any_goals (first | assumption | wp_step))
 refine h _ ((Heap.get?_update_self _ hi (by kernel_rfl)).trans (congrArg some ?_)) ⟨Heap.size_update _ _ _,fun b hb=>Heap.get?_update_ne _ _ _ _ hb⟩
 kernel_rfl
theorem VE {it d:Addr}{ep:Nat}{es:Array DictEntry}{Q:PySem.Fin→Shared→Prop}(hh:A.handled=none){i:Nat}(hi:KIt s.heap it d i es.size ep) (hle:es.size≤i) (hd:Xb s.heap d es ep)
  (h:∀ h' e,Heap.ExtBut it s.heap h'→(∃ o,h'.get? e=some o∧o.cls=.type "StopIteration")→E (.ref e) { s with heap:=h' }):wpAny (model prog w) A (Builtin.«dict_keyiterator.__next__» ⟨[.ref it],[]⟩) Q E s:=by
 obtain⟨⟨c,dct,dat,sl⟩,ho,ex,hdat⟩:=hd
 cases hdat
 have hT:s.TypeIs (.ref it) "dict_keyiterator" := ⟨_,hi,rfl⟩
 refine wpAny_bind (m:=Builtin.Dict_items.slot0 "__next__" _) (wpAny_pure ?_)
 refine wpAny_bind ?_
 refine wpAny_bind ?_
 have z1:((es.size:Int) != (es.size:Int))=false:=by simp
 have z2:((ep:Int) != (ep:Int))=false:=by simp
 repeat (any_goals (first | assumption | (simp only[z1,z2,Bool.false_eq_true,if_false]) | wp_step))
 have z3:(if (i:Int)<0 then none else es[((i:Int)).toNat]?)=none:=by
  rw[if_neg (by omega)]
  show es[i]?=none
  simp[hle]
 rw[z3]
 refine wpAny_bind ?_
 refine wpAny_bind (m:=typeNameOfWhole (.ref it)) ?_
 repeat (any_goals (first | assumption | wp_step))
 refine wpAny_raiseNew_none hh ?_
 refine h _ _ (fun b o hb e=>?_) ⟨_,Heap.get?_push_size _ rfl,rfl⟩
 exact Heap.get?_push_of_some _ (Heap.get?_push_of_some _ ((Heap.get?_update_ne _ _ _ _ hb).trans e))
theorem vz {it d:Addr}{i ep:Nat}{es:Array DictEntry}{e:DictEntry}{Q:Option Value→Shared→Prop}(hi:KIt s.heap it d i es.size ep) (hd:Xb s.heap d es ep) (he:es[i]?=some e)
  (h:∀ h',KIt h' it d (i+1) es.size ep→Heap.SameBut it s.heap h'→Q (some e.key) { s with heap:=h' }):wpAny (model prog w) A (pyNext (.ref it)) Q E s:=by
 have hT:s.TypeIs (.ref it) "dict_keyiterator" := ⟨_,hi,rfl⟩
 unfold pyNext
 exact wpAny_bind (wpAny_attempt (wpAny_callSpecial?_slot (name:=Str.ofString "__next__") hT F.slot_dict_keyiterator_next (wpAny_call_entry F.slot_dict_keyiterator_next hT F.entry_dict_keyiterator_next (WF hi hd he fun h' a1 a2=>⟨_,rfl,wpAny_pure (h h' a1 a2)⟩) (F.args_dict_keyiterator_next_1 _))))
theorem uT {it d:Addr}{ep:Nat}{es:Array DictEntry}{Q:Option Value→Shared→Prop}(hh:A.handled=none){i:Nat}(hi:KIt s.heap it d i es.size ep) (hle:es.size≤i) (hd:Xb s.heap d es ep)
  (h:∀ h',Heap.ExtBut it s.heap h'→Q none { s with heap:=h' }):wpAny (model prog w) A (pyNext (.ref it)) Q E s:=by
 have hT:s.TypeIs (.ref it) "dict_keyiterator" := ⟨_,hi,rfl⟩
 unfold pyNext
 refine wpAny_bind (wpAny_attempt (wpAny_callSpecial?_slot (name:=Str.ofString "__next__") hT F.slot_dict_keyiterator_next (wpAny_call_entry F.slot_dict_keyiterator_next hT F.entry_dict_keyiterator_next (VE hh hi hle hd fun h' e hk he=>?_) (F.args_dict_keyiterator_next_1 _))))
 obtain⟨o,ho,hc⟩:=he
 exact wpAny_bind (wpAny_isInstance (T := "StopIteration") (b:=true) ⟨o,ho,hc⟩ isSubtype_stop (wpAny_pure (h _ hk)))
theorem ZX {d:Addr}{ep:Nat}{es:Array DictEntry}{Q:Value→Shared→Prop}(hd:Xb s.heap d es ep) (hm:(d == sysModules)=false)
  (q:Q (.ref s.heap.objs.size) { s with heap:=s.heap.push { cls:=.type "dict_keyiterator",data:=.fields #[.ref d,.int 0 0,.int es.size 0,.int ep 0] } }):wpAny (model prog w) A (pyIter (.ref d)) Q E s:=by
 obtain⟨⟨c,dct,dat,sl⟩,ho,ex,hdat⟩:=hd
 cases hdat
 have hT:s.TypeIs (.ref d) "dict" := ⟨_,ho,ex.1⟩
 refine wpAny_pyIter_slot hT F.slot_dict_iter (wpAny_call_entry F.slot_dict_iter hT F.entry_dict_iter ?_ (F.args_dict_iter_1 _))
 unfold Builtin.«dict.__iter__»
 refine wpAny_bind ?_
 unfold Builtin.Dict.dictSlotNone
 refine wpAny_bind (wpAny_notOrdered_dict hT ?_)
 show wpAny _ _ (pure (Value.ref d)) _ _ _
 refine wpAny_pure ?_
 have e:Builtin.Dict.showsAll d=pure ():=by
  unfold Builtin.Dict.showsAll
  rw[if_neg (by rw[hm];simp)]
 refine wpAny_bind (m:=Builtin.Dict.addrOf (.ref d)) (wpAny_pure ?_)
 rw[e]
 repeat (any_goals (first | assumption | wp_step))
 refine⟨_,rfl, "dict_keyiterator",_,⟨_,Heap.get?_push_size _ rfl,rfl⟩,F.slot_dict_keyiterator_next.lookup,?_⟩
 exact q
end
section
variable {X:Cx}{pins:List (Addr×Obj)}{σ:St}{H G:Hp}{s:Shared}{d:Addr}{od:Obj}{kvs:List (List Key×V)}
theorem Inv.frozT (I:Inv X pins σ H s) (e:H d=some (.dT kvs)) (q0:s.heap.get? d=some od):Inv X pins σ (upd H d (.frz od (.dT kvs))) s:=by
 have ne:∀ {b:Addr}{o:HO},H b=some o→(∀ kvs,o≠.dT kvs)→upd H d (.frz od (.dT kvs)) b=some o:=fun {b o} q n=>by
  rw[upd_ne (fun z=>by rw[z,e] at q;injection q with q;exact n _ q.symm)];exact q
 have no:∀ {b:Addr},H b=none→upd H d (.frz od (.dT kvs)) b=none:=fun {b} q=>by
  rw[upd_ne (fun z=>by rw[z,e] at q;cases q)];exact q
 refine⟨I.ok,I.os,I.bare,⟨I.base.keep,I.base.slot,fun b o q n x=>no (I.base.free b o q n x),I.base.there,fun b xs q=>ne (I.base.tups b xs q) (fun _ z=>by cases z),fun b o u q=>ne (I.base.frzs b o u q) (fun _ z=>by cases z),fun b ps q=>?_⟩,I.loc,I.cell,no I.free,fun x c q=>no (I.freeC x c q),fun p hp=>?_,fun b o q=>?_,I.len⟩
 ·obtain⟨m,q⟩:=I.base.tbls b ps q
  exact⟨m,ne q (fun _ z=>by cases z)⟩
 ·obtain⟨p1,p2,p3⟩:=I.pin p hp
  exact⟨p1,no p2,p3⟩
 ·have st:∀ {b:Addr}{o:HO},H b=some o→ObjOk X.prog X.w (upd H d (.frz od (.dT kvs))) s.heap b o:=fun {b o} q=>(I.hok b o q).stay (fun c u _ q=>q) (fun c q=>ne q (fun _ z=>by cases z)) fun c xs q=>ne q (fun _ z=>by cases z)
  by_cases c:b=d
  ·subst c
   rw[upd_same] at q
   cases q
   exact⟨q0,st e⟩
  ·rw[upd_ne c] at q
   exact st q
def ItT (d:Addr) (od:Obj) (kvs:List (List Key×V)):It :=
 ⟨fun i H=>H d=some (.frz od (.dT kvs))∧i<kvs.length,fun i H x H'=>H'=H∧∃ kv b,kvs[i]?=some kv∧x=.ref b∧H b=some (.tup (kv.1.map kV)),fun i H=>H d=some (.frz od (.dT kvs))∧kvs.length≤i⟩
theorem KT.getAt {H:Hp}:∀ {kvs:List (List Key×V)}{xs:List (List Key×Addr×Value)},KT H kvs xs→∀ {i:Nat}{p:List Key×V},kvs[i]?=some p→∃ x,xs[i]?=some x∧p.1=x.1∧H x.2.1=some (.tup (p.1.map kV))
 |_,_,.cons h t,0,p,e=>by cases e;exact⟨_,rfl,h.1,h.2.1⟩
 |_,_,.cons h t,i+1,p,e=>by
  obtain⟨x,h1,h2⟩:=KT.getAt t (i:=i) (p:=p) (by simpa using e)
  exact⟨x,by simpa using h1,h2⟩
 |_,_,.nil,i,p,e=>by simp at e
theorem uh {P:Program}{w:World}{K:PySem.W.Frag}{tg:Expr}{it d:Addr}{od:Obj}{kvs:List (List Key×V)}{es:Array DictEntry}{ep:Nat}(hed:od.ExactDict) (hda:od.data=.dict es ep) (hle:es.size=kvs.length) :
  Turn P w K tg (ItT d od kvs) [it] it (fun i h=>KIt h it d i es.size ep) where
 mem:=by simp
 obj:=fun i h o1 b hb=>by
  rw[List.mem_singleton.mp hb]
  exact⟨_,o1,fun v z=>by
   have z':Data.fields _=Data.cell v:=z
   cases z'⟩
 keep:=fun i h h' st k=>k it (by simp) _ st
 item:=by
  intro X hP hw hK hc i pins s σ H E I hf st hg
  subst hP hw hK
  obtain⟨f0,f1,f2,f3,f4,f5⟩:=hf it (by simp)
  obtain⟨d3,d4⟩:=I.hok d _ hg.1
  have hx:kvs[i]?=some (kvs[i]'hg.2):=List.getElem?_eq_getElem hg.2
  obtain⟨z,y,xs,rel,o,es2,ep2,h1,h2,h3,h4,h5⟩:=(show ObjOk X.prog X.w H s.heap d (.dT kvs) from d4)
  rw[d3] at h1
  cases h1
  rw[hda] at h3
  cases h3
  obtain⟨x,hxi,e1,e2⟩:=KT.getAt rel hx
  have he:es[i]?=some (entryOfKey (tupleKind (zx X.prog X.w)) x):=by
   rw[← Array.getElem?_toList,h4,List.getElem?_map,hxi]
   rfl
  refine vz st ⟨od,d3,hed,hda⟩ he fun h' st4 sb=>?_
  refine⟨_,rfl,YU (s:={ s with heap:=h' }) (n := "dict_keyiterator") st4 rfl rfl (by decide) ⟨.ref x.2.1,H,I.turned (t':=s.toks) (fun b o hb q=>sb.extBut b o hb q) f0 f1 f3 f4 f5,rfl,⟨rfl,_,x.2.1,hx,rfl,e2⟩,st4,fun b hb=>(hf b hb).1⟩⟩
 done:=by
  intro X hP hw hK hc i pins s σ H E I hf st hg
  subst hP hw hK
  obtain⟨f0,f1,f2,f3,f4,f5⟩:=hf it (by simp)
  have d3:=(I.hok d _ hg.1).1
  exact uT (I.ok.hd hc) st (by have:=hg.2;omega) ⟨od,d3,hed,hda⟩ fun h' kk=>⟨rfl,I.turned (t':=s.toks) (fun b o hb q=>kk b o hb q) f0 f1 f3 f4 f5⟩
 self:=fun _ i s _ _ st h=>wpAny_pyIter_keyiter (it:=it) (d:=d) (i:=i) (n:=es.size) (ep:=ep) ⟨_,st,rfl,rfl⟩ h
end
theorem vZ {d:Addr}{od:Obj}{kvs:List (List Key×V)}{g:TG}{tb:TS}{D:Ends}{σ:St}{H:Hp}(Pv:Nat→St→Hp→Prop) (h0:Pv 0 σ H) (hf:∀ i σ H,Pv i σ H→H d=some (.frz od (.dT kvs)))
  (hs:∀ i kv b σ H,kvs[i]?=some kv→H b=some (.tup (kv.1.map kV))→Pv i σ H→g (.ref b) σ H fun σ2 H2=>tb { D with nx:=Pv (i+1),ct:=Pv (i+1),bk:=D.nx } σ2 H2) (hd:∀ σ H,Pv kvs.length σ H→D.nx σ H) :
  ∃ W:Nat→Nat→St→Hp→Prop,(∃ m,W 0 m σ H)∧∀ i m σ H,W i m σ H →
   ((ItT d od kvs).stop i H∧D.nx σ H)∨((ItT d od kvs).go i H∧∃ N:St→Hp→Prop,(∀ σ' H',N σ' H'→∃ m',m'<m∧W (i+1) m' σ' H')∧∀ x H',(ItT d od kvs).yld i H x H'→g x σ H' fun σ2 H2=>tb { D with nx:=N,ct:=N,bk:=D.nx } σ2 H2):=by
 refine⟨fun i m σ H=>m=kvs.length-i∧i≤kvs.length∧Pv i σ H,⟨_,rfl,Nat.zero_le _,h0⟩,?_⟩
 rintro i m σ H ⟨rfl,hi,p⟩
 by_cases hlt:i<kvs.length
 ·refine .inr ⟨⟨hf i σ H p,hlt⟩,Pv (i+1),fun σ' H' p'=>⟨_,by omega,rfl,hlt,p'⟩,fun x H' y=>?_⟩
  obtain⟨rfl,kv,b,hk,rfl,hb⟩:=y
  exact hs i kv b σ _ hk hb p
 ·have e:i=kvs.length:=by omega
  subst e
  exact .inl ⟨⟨hf _ σ H p,Nat.le_refl _⟩,hd σ H p⟩
section
variable {X:Cx}
theorem Yl {H:Hp}{q t:Addr}{i j i' j':Int}(hq:H q=some (.tup [.int i',.int j'])) (ht:H t=some (.tup [.int i,.int j])):EqP X H (.ref q) (.ref t) (decide ((i',j')=(i,j))) 1:=by
 by_cases z:q=t
 ·subst z
  rw[hq] at ht
  cases ht
  rw[decide_eq_true rfl]
  exact EqP.same
 ·refine EqP.of ?_
  have e:decide ((i',j')=(i,j))=(List.range 2).all (fun k=>if k=0 then i' == i else j' == j):=by
   show decide ((i',j')=(i,j))=((i' == i)&&((j' == j)&&true))
   by_cases h1:i'=i
   ·by_cases h2:j'=j
    ·subst h1 h2;simp
    ·subst h1;simp[h2]
   ·simp[h1]
  rw[e]
  refine EqD.tup (xs:=[.int i',.int j']) (ys:=[.int i,.int j]) (e:=fun k=>if k=0 then i' == i else j' == j) (n:=0) z (SqT.of hq) (SqT.of ht) rfl fun k x y e1 e2=>?_
  match k,e1,e2 with
  |0,e1,e2=>cases e1;cases e2;exact EqD.flat (x:=.int i') (y:=.int i) rfl rfl
  |1,e1,e2=>cases e1;cases e2;exact EqD.flat (x:=.int j') (y:=.int j) rfl rfl
  |_+2,e1,e2=>simp at e1
def prO (ps:List (Addr×Int×Int)) (v:Value):Int×Int:=match v with
 |.ref t=>((ps.find? fun p=>p.1=t).map (·.2)).getD (0,0)
 |_=>(0,0)
theorem u9 {H:Hp}{ps:List (Addr×Int×Int)}(hy:∀ p∈ps,H p.1=some (.tup [.int p.2.1,.int p.2.2])){p:Addr×Int×Int}(hm:p∈ps):prO ps (.ref p.1)=p.2:=by
 obtain⟨t,i,j⟩:=p
 have ht:=hy _ hm
 show((ps.find? fun p=>p.1=t).map (·.2)).getD (0,0)=(i,j)
 cases hf:ps.find? fun p=>p.1=t with
 |none =>
  have:=List.find?_eq_none.mp hf (t,i,j) hm
  simp at this
 |some p' =>
  have e1:p'.1=t:=by simpa using List.find?_some hf
  have h2:=hy p' (List.mem_of_find?_eq_some hf)
  rw[e1] at h2
  rw[h2] at ht
  injection ht with ht
  injection ht with ht
  obtain⟨c,i',j'⟩:=p'
  simp at ht
  simp[ht]
theorem wa:∀ {ps:List (Addr×Int×Int)}{us:List Value},Vals (ps.map fun p=>V.ref p.1) us→us=ps.map fun p=>Value.ref p.1
 |[],_,.nil=>rfl
 |p::ps,_,.cons r t=>by rw[wa t];cases r;rfl
def zbl (K:PySem.W.Frag) (A:Around) (neg:Bool):R2:=fun x y H Q=>∃ (l t:Addr) (ps:List (Addr×Int×Int)) (i j:Int),x=.ref t∧y=.ref l∧SqL K H l (ps.map fun p=>V.ref p.1)∧(∀ p∈ps,H p.1=some (.tup [.int p.2.1,.int p.2.2]))∧H t=some (.tup [.int i,.int j])∧A.units+5<cLine ∧
 Q (.bl (if neg then !decide ((i,j)∈ps.map (·.2)) else decide ((i,j)∈ps.map (·.2)))) H
theorem Y7 {H:Hp}{ps:List (Addr×Int×Int)}{i j:Int}(hps:∀ p∈ps,H p.1=some (.tup [.int p.2.1,.int p.2.2])):((ps.map fun p=>Value.ref p.1).toArray.any fun v=>decide (prO ps v=(i,j)))=decide ((i,j)∈ps.map (·.2)):=by
 rw[Bool.eq_iff_iff,decide_eq_true_eq]
 simp only[List.any_toArray,List.any_eq_true,decide_eq_true_eq]
 constructor
 ·rintro⟨v,hv,e⟩
  obtain⟨p,hp,rfl⟩:=List.mem_map.mp hv
  rw[u9 hps hp] at e
  exact List.mem_map.mpr ⟨p,hp,e⟩
 ·intro hm
  obtain⟨p,hp,e⟩:=List.mem_map.mp hm
  exact⟨_,List.mem_map.mpr ⟨p,hp,rfl⟩,by rw[u9 hps hp];exact e⟩
theorem zbm:OpR X (compareOp .In) (zbl X.K X.A false):=by
 intro pins s σ H x y v u Q I rx ry h
 obtain⟨l,t,ps,i,j,rfl,rfl,hl,hps,ht,hu,q⟩:=h
 cases rx
 cases ry
 obtain⟨its,r,pl,hz⟩:=I.list hl
 obtain rfl:=wa r
 refine SeqAt.in_listAt (fun v=>decide (prO ps v=(i,j))) pl.isList (fun w hw=>?_) ⟨.bl _,H,I,rfl,?_⟩
 ·obtain⟨p,hp,rfl⟩:=List.mem_map.mp (List.mem_toArray.mp hw)
  rw[u9 hps hp]
  exact Yl (X:=X) (hps p hp) ht pins σ s I X.A.in1 _ _ (by rw[yH];omega) rfl rfl
 ·rw[Y7 hps]
  exact q
theorem Yo:OpR X (compareOp .NotIn) (zbl X.K X.A true):=by
 intro pins s σ H x y v u Q I rx ry h
 obtain⟨l,t,ps,i,j,rfl,rfl,hl,hps,ht,hu,q⟩:=h
 cases rx
 cases ry
 obtain⟨its,r,pl,hz⟩:=I.list hl
 obtain rfl:=wa r
 refine SeqAt.notIn_listAt (fun v=>decide (prO ps v=(i,j))) pl.isList (fun w hw=>?_) ⟨.bl _,H,I,rfl,?_⟩
 ·obtain⟨p,hp,rfl⟩:=List.mem_map.mp (List.mem_toArray.mp hw)
  rw[u9 hps hp]
  exact Yl (X:=X) (hps p hp) ht pins σ s I X.A.in1 _ _ (by rw[yH];omega) rfl rfl
 ·rw[Y7 hps]
  exact q
end
section
variable {prog:Program}{w:World}{A:Around}{E:Value→Shared→Prop}{s:Shared}
theorem Xp (d:Addr) (hd:(d == sysModules)=false) :
  MeetsIn prog w (Builtin.«dict.items» ⟨[.ref d],[]⟩) (fun _ R s=>s.TypeIs (.ref d) "dict" ∧
   R (.ok (.ret (.ref s.heap.objs.size))) { s with heap:=s.heap.push { cls:=.type "dict_items",data:=.fields #[.ref d] } }) :=
 .of_wp fun A R s ⟨hm,h⟩=>by
  unfold Builtin.«dict.items»
  refine wpAny_bind ?_
  unfold Builtin.Dict.noArgs
  refine wpAny_bind (wpAny_notOrdered_dict hm ?_)
  show wpAny _ _ (pure d) _ _ s
  refine wpAny_pure ?_
  show wpAny _ _ (Builtin.Dict.showsAll d >>= _) _ _ s
  unfold Builtin.Dict.showsAll
  rw[if_neg (by rw[hd];exact Bool.false_ne_true)]
  refine wpAny_bind (wpAny_pure ?_)
  exact wpAny_bind (wpAny_newObj_type (wpAny_pure ⟨_,rfl,h⟩))
theorem WV {v d:Addr}{es:Array DictEntry}{ep:Nat}{Q:Value→Shared→Prop}(hv:s.heap.IsItemsView v d) (hm:Xb s.heap d es ep)
  (hQ:Q (.ref s.heap.objs.size) { s with heap:=s.heap.push { cls:=.type "dict_itemiterator",data:=.fields #[.none,.bool false,.ref d,.int 0 0,.int es.size 0,.int ep 0,.none,.none] } }) :
  wpAny (model prog w) A (pyIter (.ref v)) Q E s:=by
 obtain⟨ov,hov,hcv,hdv⟩:=id hv
 obtain⟨o,ho,hc,hdat⟩:=id hm
 refine wpAny_pyIter_slot hv.typeIs F.slot_dict_items_iter (wpAny_call_entry F.slot_dict_items_iter hv.typeIs F.entry_dict_items_iter ?_ (F.args_dict_items_iter_1 _))
 unfold Builtin.«dict_items.__iter__»
 refine wpAny_bind (wpAny_pure ?_)
 refine wpAny_bind ?_
 unfold Builtin.Dict_items.dictOf
 refine wpAny_bind (wpAny_field hov hdv (x:=.ref d) rfl (wpAny_pure ?_))
 refine wpAny_bind ?_
 unfold Builtin.Dict_items.newIterator
 refine wpAny_bind (wpAny_dictEntries ho hdat ?_)
 refine wpAny_bind (wpAny_dictEpoch ho hdat ?_)
 have hown:Builtin.Dict_items.ownsTuple "dict_itemiterator" = true:=by decide
 simp only[hown,if_true]
 refine wpAny_newObj_type (wpAny_pure ⟨_,rfl, "dict_itemiterator",_,⟨_,Heap.get?_push_size _ rfl,rfl⟩,F.slot_dict_itemiterator_next.lookup,?_⟩)
  (by simp only[sizeOk,Builtin.Dict_items.ownedTupleFields,List.size_toArray,List.length_append,List.length_cons,List.length_nil,sizeLine_eq];omega)
 simpa[rawInt,Builtin.Dict_items.ownedTupleFields] using hQ
theorem WU {it d:Addr}{i ep:Nat}{es:Array DictEntry}{e:DictEntry}{ok ov:Value}{Q:Option Value→Shared→Prop}(hit:IsItemIter s.heap it d i es.size ep ok ov)
  (hm:Xb s.heap d es ep) (hx:es[i]?=some e)
  (hQ:∀ h',IsItemIterOut h' it d (i+1) es.size ep e.key e.val s.heap.objs.size →
   h'.get? s.heap.objs.size=some { cls:=.type "tuple",data:=.seq #[e.key,e.val] }→h'.objs.size=s.heap.objs.size+1 →
   (∀ b o,b≠it→s.heap.get? b=some o→h'.get? b=some o)→Q (some (.ref s.heap.objs.size)) { s with heap:=h' }) :
  wpAny (model prog w) A (pyNext (.ref it)) Q E s:=by
 obtain⟨hp,g,dr,tk,os⟩:=s
 obtain⟨od,hod,hcd,hdd⟩:=id hm
 have hT:Shared.TypeIs ⟨hp,g,dr,tk,os⟩ (.ref it) "dict_itemiterator" := ⟨_,hit,rfl⟩
 unfold pyNext
 refine wpAny_bind (wpAny_attempt (wpAny_callSpecial?_slot (name:=Str.ofString "__next__") hT F.slot_dict_itemiterator_next
  (wpAny_call_entry F.slot_dict_itemiterator_next hT F.entry_dict_itemiterator_next ?_ (F.args_dict_itemiterator_next_1 _))))
 refine wpAny_bind (wpAny_pure ?_)
 refine wpAny_bind ?_
 refine wpAny_bind ?_
 first | refine wpAny_bind (wpAny_typeNameOfWhole_itemiter hT (wpAny_pure ?_)) | refine wpAny_bind (wpAny_typeNameOf_itemiter hT (wpAny_pure ?_))
 refine wpAny_bind (wpAny_fieldsOf hit rfl ?_)
 have hown:Builtin.Dict_items.ownsTuple "dict_itemiterator" = true:=by decide
 simp only[hown,if_true]
 show wpAny _ _ (if (Value.ref d == Value.none)=true then _ else _) _ _ _
 rw[if_neg (show ¬ ((Value.ref d == Value.none)=true) from Bool.false_ne_true)]
 refine wpAny_bind (wpAny_pure ?_)
 refine wpAny_bind (wpAny_dictEntries hod hdd ?_)
 rw[if_neg (by simp)]
 refine wpAny_bind (wpAny_pure ?_)
 refine wpAny_bind (wpAny_dictEpoch hod hdd ?_)
 rw[if_neg (by simp)]
 refine wpAny_pure ?_
 simp only[show ¬ ((i:Int)<0) from by omega,if_false,Int.toNat_natCast,hx]
 refine wpAny_bind ?_
 first | refine wpAny_bind (wpAny_typeNameOfWhole_itemiter hT (wpAny_pure ?_)) | refine wpAny_bind (wpAny_typeNameOf_itemiter hT (wpAny_pure ?_))
 refine wpAny_bind (wpAny_isOneOf_itemiter hT ?_)
 show wpAny _ _ (setField (.ref it) 3 (rawInt ((i:Int)+1)) >>= _) _ _ ⟨hp,g,dr,tk,os⟩
 refine wpAny_bind (wpAny_setField_rec hit (by simp) fun h₁ he₁ hs₁=>?_)
 replace hs₁:Heap.SameBut it hp h₁:=hs₁
 replace he₁:IsItemIter h₁ it d (i+1) es.size ep ok ov:=by
  have e:((i+1:Nat):Int)=(i:Int)+1:=by omega
  unfold IsItemIter;rw[e];simpa[rawInt] using he₁
 have hT₁:Shared.TypeIs ⟨h₁,g,dr,tk,os⟩ (.ref it) "dict_itemiterator" := ⟨_,he₁,rfl⟩
 refine wpAny_bind (wpAny_holding ?_)
 refine wpAny_bind (wpAny_isOneOf_itemiter hT₁ ?_)
 refine wpAny_bind (wpAny_isOneOf_itemiter hT₁ ?_)
 show wpAny _ _ (Builtin.Dict_items.pairFromOwner (.ref it) 6 e.key e.val) _ _ ⟨h₁,g,dr,tk,os⟩
 unfold Builtin.Dict_items.pairFromOwner
 refine wpAny_bind (wpAny_newTuple ?_)
 have he₂:IsItemIter (h₁.push { cls:=.type "tuple",data:=.seq #[e.key,e.val] }) it d (i+1) es.size ep ok ov:=Heap.get?_push_of_some _ he₁
 generalize hh₂:h₁.push { cls:=.type "tuple",data:=.seq #[e.key,e.val] }=h₂ at he₂
 have hz₁:h₁.objs.size=hp.objs.size:=hs₁.1
 have hil:it<hp.objs.size:=Heap.lt_size hit
 have ht₂:h₂.get? hp.objs.size=some { cls:=.type "tuple",data:=.seq #[e.key,e.val] }:=by rw[← hh₂,← hz₁];exact Heap.get?_push_size _ rfl
 have hz₂:h₂.objs.size=hp.objs.size+1:=by rw[← hh₂,Heap.size_push,hz₁]
 have hk₂:∀ b o,b≠it→hp.get? b=some o→h₂.get? b=some o:=fun b o hb e=>by rw[← hh₂];exact Heap.get?_push_of_some _ (hs₁.extBut b o hb e)
 show wpAny _ _ (Builtin.Dict_items.ownedTupleIsFree (.ref it) >>= _) _ _ ⟨h₂,g,dr,tk,os⟩
 rw[hz₁]
 clear hh₂ he₁ hs₁ hT₁ hz₁ h₁
 refine wpAny_bind ?_
 unfold Builtin.Dict_items.ownedTupleIsFree
 refine wpAny_bind (wpAny_field he₂ rfl (x:=.none) rfl (wpAny_pure ?_))
 simp only[if_true]
 refine wpAny_bind (wpAny_field he₂ rfl (x:=ok) rfl ?_)
 refine wpAny_bind (wpAny_field he₂ rfl (x:=ov) rfl ?_)
 refine wpAny_bind (wpAny_setField_rec he₂ (by simp) fun h₃ he₃ hs₃=>?_)
 replace hs₃:Heap.SameBut it h₂ h₃:=hs₃
 replace he₃:IsItemIter h₃ it d (i+1) es.size ep e.key ov:=he₃
 refine wpAny_bind (wpAny_setField_rec he₃ (by simp) fun h₄ he₄ hs₄=>?_)
 replace hs₄:Heap.SameBut it h₃ h₄:=hs₄
 replace he₄:IsItemIter h₄ it d (i+1) es.size ep e.key e.val:=he₄
 refine wpAny_bind (wpAny_setField_rec he₄ (by simp) fun h₅ he₅ hs₅=>?_)
 replace hs₅:Heap.SameBut it h₄ h₅:=hs₅
 replace he₅:IsItemIterOut h₅ it d (i+1) es.size ep e.key e.val hp.objs.size:=he₅
 refine wpAny_bind (wpAny_setField_rec he₅ (by simp) fun h₆ he₆ hs₆=>?_)
 replace hs₆:Heap.SameBut it h₅ h₆:=hs₆
 replace he₆:IsItemIterOut h₆ it d (i+1) es.size ep e.key e.val hp.objs.size:=he₆
 refine wpAny_bind (wpAny_letGo (wpAny_pure (wpAny_pure ⟨_,rfl,wpAny_pure (hQ h₆ he₆ ?_ ?_ ?_)⟩)))
 ·exact hs₆.extBut _ _ (Nat.ne_of_gt hil) (hs₅.extBut _ _ (Nat.ne_of_gt hil) (hs₄.extBut _ _ (Nat.ne_of_gt hil) (hs₃.extBut _ _ (Nat.ne_of_gt hil) ht₂)))
 ·show h₆.objs.size=hp.objs.size+1
  rw[hs₆.1,hs₅.1,hs₄.1,hs₃.1,hz₂]
 ·exact fun b o hb e=>hs₆.extBut b o hb (hs₅.extBut b o hb (hs₄.extBut b o hb (hs₃.extBut b o hb (hk₂ b o hb e))))
theorem V0 {it d:Addr}{i ep:Nat}{es:Array DictEntry}{ok ov:Value}{Q:Option Value→Shared→Prop}(hh:A.handled=none) (hit:IsItemIter s.heap it d i es.size ep ok ov)
  (hm:Xb s.heap d es ep) (hge:es.size≤i)
  (hQ:∀ h',Heap.ExtBut it s.heap h'→Q none { s with heap:=h' }):wpAny (model prog w) A (pyNext (.ref it)) Q E s:=by
 obtain⟨od,hod,hcd,hdd⟩:=id hm
 have hT:s.TypeIs (.ref it) "dict_itemiterator" := ⟨_,hit,rfl⟩
 unfold pyNext
 refine wpAny_bind (wpAny_attempt (wpAny_callSpecial?_slot (name:=Str.ofString "__next__") hT F.slot_dict_itemiterator_next
  (wpAny_call_entry F.slot_dict_itemiterator_next hT F.entry_dict_itemiterator_next ?_ (F.args_dict_itemiterator_next_1 _))))
 refine wpAny_bind (wpAny_pure ?_)
 refine wpAny_bind ?_
 refine wpAny_bind ?_
 first | refine wpAny_bind (wpAny_typeNameOfWhole_itemiter hT (wpAny_pure ?_)) | refine wpAny_bind (wpAny_typeNameOf_itemiter hT (wpAny_pure ?_))
 refine wpAny_bind (wpAny_fieldsOf hit rfl ?_)
 have hown:Builtin.Dict_items.ownsTuple "dict_itemiterator" = true:=by decide
 simp only[hown,if_true]
 show wpAny _ _ (if (Value.ref d == Value.none)=true then _ else _) _ _ s
 rw[if_neg (show ¬ ((Value.ref d == Value.none)=true) from Bool.false_ne_true)]
 refine wpAny_bind (wpAny_pure ?_)
 refine wpAny_bind (wpAny_dictEntries hod hdd ?_)
 rw[if_neg (by simp)]
 refine wpAny_bind (wpAny_pure ?_)
 refine wpAny_bind (wpAny_dictEpoch hod hdd ?_)
 rw[if_neg (by simp)]
 refine wpAny_pure ?_
 simp only[show ¬ ((i:Int)<0) from by omega,if_false,Int.toNat_natCast,Array.getElem?_eq_none hge]
 refine wpAny_bind ?_
 first | refine wpAny_bind (wpAny_typeNameOfWhole_itemiter hT (wpAny_pure ?_)) | refine wpAny_bind (wpAny_typeNameOf_itemiter hT (wpAny_pure ?_))
 show wpAny _ _ (setField (.ref it) 2 .none >>= _) _ _ s
 refine wpAny_bind (wpAny_setField hit rfl (by simp) ?_)
 show wpAny _ _ (newExc (.type "StopIteration") [] >>= _) _ _ _
 refine wpAny_bind ?_
 simp only[newExc,newTuple]
 refine wpAny_bind (wpAny_newObj_type ?_ (by size_fits))
 refine wpAny_bind (m:=firstArgMember _ _) (wpAny_of_eq (a:=Value.none) (by first | rfl | (simp only[firstArgMember];rfl)) ?_)
 refine wpAny_newObj_type ?_ (by size_fits)
 simp only[raiseNew]
 refine wpAny_bind (wpAny_handled ?_)
 rw[show A.in1.handled=none from hh]
 refine wpAny_bind (wpAny_pure (wpAny_throw ?_))
 refine wpAny_bind (wpAny_isInstance (T := "StopIteration") (b:=true) ⟨_,Heap.get?_push_size _ rfl,rfl⟩ isSubtype_stop ?_)
 exact wpAny_pure (hQ _ (((Heap.SameBut.update ..).extBut.push _).push _))
end
def ThT (G:Hp) (Q:Hp→Prop) (H:Hp):Prop:=Q H∨∃ (d:Addr) (od:Obj) (kvs:List (List Key×V)),(∀ o u,G d≠some (.frz o u))∧H d=some (.frz od (.dT kvs))∧Q (upd H d (.dT kvs))
def zbv (G:Hp) (t:TE):TE:=fun σ H Q=>t σ H fun v=>ThT G (Q v)
def zbu (G:Hp) (t:TS):TS:=fun D σ H=>t ⟨fun σ=>ThT G (D.nx σ),fun v=>ThT G (D.rt v),fun σ=>ThT G (D.bk σ),fun σ=>ThT G (D.ct σ)⟩ σ H
section
variable {X:Cx}{pins:List (Addr×Obj)}{σ:St}{H G:Hp}{s:Shared}{d:Addr}{od:Obj}{kvs:List (List Key×V)}
theorem Inv.thawT (I:Inv X pins σ G s) (S:∀ o u,X.H₀ d≠some (.frz o u)) (g:G d=some (.frz od (.dT kvs))):Inv X pins σ (upd G d (.dT kvs)) s:=by
 have ne:∀ {b:Addr}{o:HO},G b=some o→(∀ ob u,o≠.frz ob u)→upd G d (.dT kvs) b=some o:=fun {b o} q n=>by
  rw[upd_ne (fun z=>by rw[z,g] at q;injection q with q;exact n _ _ q.symm)];exact q
 have no:∀ {b:Addr},G b=none→upd G d (.dT kvs) b=none:=fun {b} q=>by
  rw[upd_ne (fun z=>by rw[z,g] at q;cases q)];exact q
 refine⟨I.ok,I.os,I.bare,⟨I.base.keep,I.base.slot,fun b o q n x=>no (I.base.free b o q n x),I.base.there,fun b xs q=>ne (I.base.tups b xs q) (fun _ _ z=>by cases z),fun b o u q=>?_,fun b ps q=>?_⟩,I.loc,I.cell,no I.free,fun x c q=>no (I.freeC x c q),fun p hp=>?_,fun b o q=>?_,I.len⟩
 ·rw[upd_ne (fun(z:b=d)=>S o u (by rw[← z];exact q))]
  exact I.base.frzs b o u q
 ·obtain⟨m,q⟩:=I.base.tbls b ps q
  exact⟨m,ne q (fun _ _ z=>by cases z)⟩
 ·obtain⟨p1,p2,p3⟩:=I.pin p hp
  exact⟨p1,no p2,p3⟩
 ·have st:∀ {b:Addr}{o:HO},ObjOk X.prog X.w G s.heap b o→ObjOk X.prog X.w (upd G d (.dT kvs)) s.heap b o:=fun {b o} q=>q.stay (fun c u _ q=>q) (fun c q=>ne q (fun _ _ z=>by cases z)) fun c xs q=>ne q (fun _ _ z=>by cases z)
  by_cases c:b=d
  ·subst c
   rw[upd_same] at q
   cases q
   exact st (I.hok b _ g).2
  ·rw[upd_ne c] at q
   exact st (I.hok b o q)
theorem ThT.inv {Q:Hp→Prop}(I:Inv X pins σ H s) (h:ThT X.H₀ Q H):∃ H',Inv X pins σ H' s∧Q H':=by
 rcases h with h | ⟨d,od,kvs,S,g,h⟩
 ·exact⟨_,I,h⟩
 ·exact⟨_,I.thawT S g,h⟩
theorem Zw {e:Expr}{t:TE}(h:Bx (PE X e t)):Bx (PE X e (zbv X.H₀ t)):=by
 have h:=h.of
 refine⟨?_⟩
 intro pins s σ H Q I q
 refine thn (h pins s σ H _ I q) fun u s' hq0=>?_
 obtain⟨v,H',I',r,q'⟩:=hq0
 obtain⟨H2,I2,q2⟩:=ThT.inv I' q'
 exact⟨v,H2,I2,r,q2⟩
theorem Zs {st:Stmt}{t:TS}(h:Bx (PS X st t)):Bx (PS X st (zbu X.H₀ t)):=by
 have h:=h.of
 refine⟨?_⟩
 intro pins s σ H D I q
 refine thn (h pins s σ H _ I q) fun f s' q'=>?_
 cases f with
 |next=>obtain⟨σ',H',I',q'⟩:=q';obtain⟨H2,I2,q2⟩:=ThT.inv I' q';exact⟨_,_,I2,q2⟩
 |cont=>obtain⟨σ',H',I',q'⟩:=q';obtain⟨H2,I2,q2⟩:=ThT.inv I' q';exact⟨_,_,I2,q2⟩
 |brk=>obtain⟨σ',H',I',q'⟩:=q';obtain⟨H2,I2,q2⟩:=ThT.inv I' q';exact⟨_,_,I2,q2⟩
 |ret v=>obtain⟨x,σ',H',I',r,q'⟩:=q';obtain⟨H2,I2,q2⟩:=ThT.inv I' q';exact⟨_,_,_,I2,r,q2⟩
theorem Zl (I:Inv X pins σ H s) (e:H d=some (.dT kvs)):∀ o u,X.H₀ d≠some (.frz o u):=fun o u z=>by
 have:=I.base.frzs d o u z
 rw[e] at this;cases this
def iKT (G:Hp) (td:TE):TI:=fun σ H R=>td σ H fun x H1=>∃ (d:Addr) (kvs:List (List Key×V)),x=.ref d∧H1 d=some (.dT kvs)∧∀ od:Obj,(∀ o u,G d≠some (.frz o u))→R (ItT d od kvs) (upd H1 d (.frz od (.dT kvs)))
theorem ue {tg l:Expr}{td:TE}(hl:Bx (PE X l td)):Bx (PI X tg l (iKT X.H₀ td)):=by
 have hl:=hl.of
 refine⟨?_⟩
 intro pins s σ H R I h
 refine thn (hl pins s σ H _ I h) fun v s1 hq0=>?_
 obtain⟨x,H1,I1,rx,d,kvs,ex,e,q⟩:=hq0
 subst ex
 obtain rfl:v=Value.ref d:=rx
 obtain⟨z,hd,xs,rel,dd⟩:=uG I1.hok e
 obtain⟨od,es',ep,q1,q2,q3,q4,q5,q6⟩:=dd
 refine ZX ⟨od,q1,q2,q3⟩ hd ?_
 have I1f:=I1.frozT e q1
 have hle:es'.size=kvs.length:=by
  rw[← Array.length_toList,q4,List.length_map]
  exact(Paired.length rel).symm
 refine⟨_,[s1.heap.objs.size],_,_,_,rfl,I1f.kept (t':=s1.toks) fun b u q=>Heap.get?_push_of_some _ q,uh q2 q3 hle,Heap.get?_push_size _ rfl,fun b hb=>?_,q od (Zl I1 e)⟩
 rw[List.mem_singleton.mp hb]
 exact I1f.fpOk (Nat.le_refl _) (I1f.hok.fresh (Nat.le_refl _))
def ItI (d:Addr) (od:Obj) (kvs:List (List Key×V)):It :=
 ⟨fun i H=>H d=some (.frz od (.dT kvs))∧i<kvs.length,fun i H x H'=>∃ kv b p,kvs[i]?=some kv∧H b=some (.tup (kv.1.map kV))∧H p=none∧x=.ref p∧H'=upd H p (.tup [.ref b,kv.2]),fun i H=>H d=some (.frz od (.dT kvs))∧kvs.length≤i⟩
theorem KT.getR {H:Hp}:∀ {kvs:List (List Key×V)}{xs:List (List Key×Addr×Value)},KT H kvs xs→∀ {i:Nat}{p:List Key×V},kvs[i]?=some p→∃ x,xs[i]?=some x∧p.1=x.1∧H x.2.1=some (.tup (p.1.map kV))∧RelV p.2 x.2.2
 |_,_,.cons h t,0,p,e=>by cases e;exact⟨_,rfl,h.1,h.2.1,h.2.2⟩
 |_,_,.cons h t,i+1,p,e=>by
  obtain⟨x,h1,h2⟩:=KT.getR t (i:=i) (p:=p) (by simpa using e)
  exact⟨x,by simpa using h1,h2⟩
 |_,_,.nil,i,p,e=>by simp at e
theorem ug {P:Program}{w:World}{K:PySem.W.Frag}{es0:List Expr}{n:Nat}{tp:Pos}{it d:Addr}{od:Obj}{kvs:List (List Key×V)}{es:Array DictEntry}{ep:Nat}(hed:od.ExactDict) (hda:od.data=.dict es ep) (hle:es.size=kvs.length) :
  Turn P w K (.Tuple es0 n tp) (ItI d od kvs) [it] it (fun i h=>∃ ok ov,IsItemIter h it d i es.size ep ok ov) where
 mem:=by simp
 obj:=fun i h ⟨ok,ov,st⟩ b hb=>by
  rw[List.mem_singleton.mp hb]
  exact⟨_,st,fun v z=>by
   have z':Data.fields _=Data.cell v:=z
   cases z'⟩
 keep:=fun i h h' ⟨ok,ov,st⟩ k=>⟨ok,ov,k it (by simp) _ st⟩
 item:=by
  intro X hP hw hK hc i pins s σ H E I hf st hg
  subst hP hw hK
  obtain⟨ok,ov,st⟩:=st
  have fi:=hf it (by simp)
  obtain⟨d3,d4⟩:=I.hok d _ hg.1
  have hx:kvs[i]?=some (kvs[i]'hg.2):=List.getElem?_eq_getElem hg.2
  obtain⟨z,y,xs,rel,o,es2,ep2,h1,h2,h3,h4,h5⟩:=(show ObjOk X.prog X.w H s.heap d (.dT kvs) from d4)
  rw[d3] at h1
  cases h1
  rw[hda] at h3
  cases h3
  obtain⟨x,hxi,e1,e2,e3⟩:=KT.getR rel hx
  have he:es[i]?=some (entryOfKey (tupleKind (zx X.prog X.w)) x):=by
   rw[← Array.getElem?_toList,h4,List.getElem?_map,hxi]
   rfl
  refine WU st ⟨od,d3,hed,hda⟩ he fun h1 O1 T1 z1 kk=>?_
  refine⟨_,rfl,wpAny_letOwnedTupleGo_items (s:={ s with heap:=h1 }) O1 fun h2 E2 sb=>?_⟩
  have te:s.heap.objs.size≠it:=(Nat.ne_of_lt (Heap.lt_size st)).symm
  have T2:=sb.extBut _ _ te T1
  have k2:∀ c o,c∉[it]→s.heap.get? c=some o→h2.get? c=some o:=fun c o hc q=>by
   have hc:c≠it:=by simpa using hc
   exact sb.extBut c o hc (kk c o hc q)
  have hn:H s.heap.objs.size=none:=I.fresh
  refine⟨.ref s.heap.objs.size,upd H s.heap.objs.size (.tup [.ref x.2.1,(kvs[i]'hg.2).2]),I.turnedLaid (t':=s.toks) (ch:=[it]) hf k2 (Nat.le_refl _) ⟨by show 2≤sizeLine;decide,[.ref x.2.1,x.2.2],.cons rfl (.cons e3 .nil),⟨_,T2,rfl,_,rfl⟩⟩,rfl,
   ⟨_,x.2.1,_,hx,e2,hn,rfl,rfl⟩,⟨_,_,E2⟩,fun c hc=>?_⟩
  rw[List.mem_singleton.mp hc,upd_ne te.symm]
  exact fi.1
 done:=by
  intro X hP hw hK hc i pins s σ H E I hf st hg
  subst hP hw hK
  obtain⟨ok,ov,st⟩:=st
  obtain⟨f0,f1,f2,f3,f4,f5⟩:=hf it (by simp)
  have d3:=(I.hok d _ hg.1).1
  exact V0 (I.ok.hd hc) st ⟨od,d3,hed,hda⟩ (by have:=hg.2;omega) fun h' kk=>⟨rfl,I.turned (t':=s.toks) (fun b o hb q=>kk b o hb q) f0 f1 f3 f4 f5⟩
 self:=fun _ _ _ _ _ ⟨_,_,st⟩ h=>xj st h
def iIT (G:Hp) (td:TE):TI:=fun σ H R=>td σ H fun x H1=>∃ (d:Addr) (kvs:List (List Key×V)),x=.ref d∧H1 d=some (.dT kvs)∧∀ od:Obj,(∀ o u,G d≠some (.frz o u))→R (ItI d od kvs) (upd H1 d (.frz od (.dT kvs)))
theorem uf {o:Expr}{es:List Expr}{n:Nat}{tp:Pos}{td:TE}{apos cpos:Pos}(ho:Bx (PE X o td)) (hbase:attributeBase o "items" X.env (eval o X.env)=eval o X.env:=by rfl) (hline:(apos.endLine == cpos.line)=true:=by rfl):Bx (PI X (.Tuple es n tp) (.Call (.Attribute o "items" apos) [] [] cpos) (iIT X.H₀ td)):=by
 have ho:=ho.of
 refine⟨?_⟩
 intro pins s σ H R I h
 refine wpAny_Call_method0_late hbase hline (thn (ho pins s σ H _ I h) fun v s1 hq0=>?_)
 obtain⟨x,H1,I1,rx,d,kvs,ex,e,q⟩:=hq0
 subst ex
 obtain rfl:v=Value.ref d:=rx
 obtain⟨t1,t2,_⟩:=wS I1 (.inr ⟨_,.inl e⟩)
 obtain⟨z,hd,xs,rel,dd⟩:=uG I1.hok e
 refine⟨"dict", "dict.items",PySem.F.plainAttrs_dict,PySem.F.slot_dict_items,PySem.F.type_dict_items,t1,t2,Calls.callWith_builtin rfl (PySem.evalArgs_none ?_)⟩
 refine call_meetsIn PySem.F.slot_dict_items dd.typeIs PySem.F.entry_dict_items (PySem.F.args_dict_items_1 _) (Xp d hd) ⟨dd.typeIs,?_⟩
 obtain⟨od,es',ep,q1,q2,q3,q4,q5,q6⟩:=dd
 have hle2:es'.size=kvs.length:=by
  rw[← Array.length_toList,q4,List.length_map]
  exact(Paired.length rel).symm
 refine WV (s:={ s1 with heap:=s1.heap.push _ }) (d:=d) ⟨_,Heap.get?_push_size _ rfl,rfl,rfl⟩ ⟨od,Heap.get?_push_of_some _ q1,q2,q3⟩ ?_
 have hle:s1.heap.objs.size≤(s1.heap.push { cls:=.type "dict_items",data:=.fields #[.ref d] }).objs.size:=by rw[Heap.size_push];exact Nat.le_succ _
 have I1f:=I1.frozT e q1
 refine⟨_,[(s1.heap.push { cls:=.type "dict_items",data:=.fields #[.ref d] }).objs.size],_,_,_,rfl,I1f.kept (t':=s1.toks) fun b u q=>Heap.get?_push_of_some _ (Heap.get?_push_of_some _ q),ug q2 q3 hle2,⟨_,_,Heap.get?_push_size _ rfl⟩,fun b hb=>?_,q od (Zl I1 e)⟩
 rw[List.mem_singleton.mp hb]
 exact I1f.fpOk hle (I1f.hok.fresh hle)
end
theorem ZN {d:Addr}{od:Obj}{kvs:List (List Key×V)}{g:TG}{tc:TT}{te:TE}{Q:VK}{D:Addr}{τ0:St}{H0:Hp}(Pv:Nat→List V→St→Hp→Prop) (h0:Pv 0 [] τ0 H0) (hf:∀ i zs τ H,Pv i zs τ H→H d=some (.frz od (.dT kvs)))
  (hs:∀ i kv b p zs τ H,kvs[i]?=some kv→H b=some (.tup (kv.1.map kV))→H p=none→Pv i zs τ H→g (.ref p) τ (upd H p (.tup [.ref b,kv.2])) fun τ2 H4=>tc τ2 H4 fun b H5 =>
   if b=true then te τ2 H5 fun y H6=>H6 D=some (.lst zs)∧zs.length<sizeLine∧Pv (i+1) (zs++[y]) τ2 (upd H6 D (.lst (zs++[y]))) else Pv (i+1) zs τ2 H5)
  (hd:∀ zs τ H,Pv kvs.length zs τ H→Q (.ref D) H):uc (ItI d od kvs) g tc te Q D τ0 H0 :=
 vp kvs.length Pv h0 (fun zs τ H p=>⟨⟨hf _ _ _ _ p,Nat.le_refl _⟩,hd zs τ H p⟩) fun i zs τ H hi p=>⟨⟨hf _ _ _ _ p,hi⟩,fun x H3 y=>by
  obtain⟨kv,b,q,hk,hb,hq,rfl,rfl⟩:=y
  exact hs i kv b q zs τ H hk hb hq p⟩
section
variable {P:Program}{w:World}{A:Around}{E:Value→Shared→Prop}{s:Shared}
theorem VH {h h':Heap}{ks:List Key}{a:Addr}(i:(tupleKind (zx P w)).is h ks a) (k:∀ o,h.get? a=some o→h'.get? a=some o):(tupleKind (zx P w)).is h' ks a:=by
 obtain⟨o,its,n,e,r⟩:=(show IsTupleKey (zx P w) h ks a from i)
 exact(show IsTupleKey (zx P w) h' ks a from⟨o,its,n,k o e,r⟩)
theorem zaD {h h':Heap}{d:Addr}{xs:List (List Key×Addr×Value)}(i:h.DictOfH (tupleKind (zx P w)) d xs) (k:∀ b o,(b=d∨b∈xs.map (·.2.1))→h.get? b=some o→h'.get? b=some o):h'.DictOfH (tupleKind (zx P w)) d xs:=by
 obtain⟨o,es,ep,ho,hc,hd,he,his,hn⟩:=i
 exact⟨o,es,ep,k d o (.inl rfl) ho,hc,hd,he,fun x hx=>VH (his x hx) fun o e=>k _ o (.inr (List.mem_map.mpr ⟨x,hx,rfl⟩)) e,hn⟩
theorem zbP {d I:Addr}{fp wr:List Addr}{n:Nat}{Is:Nat→Value→Prop}{St:Nat→Heap→Prop}{R:Except Value Flow→Shared→Prop}(W:Walks P w A.in1 I fp wr n Is St) (nf:d∉fp) (xs:List (List Key×Addr×Value)) (hk:xs.length=n) (hz:n≤1000) (hnd:(xs.map (·.1)).Nodup) (hu:A.in1.units<cLine)
  (h0:Heap) (hI:∀ i v,Is i v→∃ q x,v=.ref q∧xs[i]?=some x∧∃ o y,h0.get? q=some o∧o.cls=.type "tuple" ∧ o.data=.seq #[.ref x.2.1,x.2.2] y)
  (hq:∀ i v q,Is i v→v=.ref q→q∉wr∧q≠d) (hks:∀ x∈xs,(tupleKind (zx P w)).is h0 x.1 x.2.1∧x.2.1∉wr∧x.2.1≠d) :
  ∀ (r j:Nat) (t:Shared) (tk0:Tok),j+r=n→St j t.heap→t.heap.DictOfH (tupleKind (zx P w)) d (xs.take j)→(∀ b o,b∉wr→b≠d→h0.get? b=some o→t.heap.get? b=some o) →
   (∀ h' tk,h'.DictOfH (tupleKind (zx P w)) d xs→(∀ b o,b∉wr→b≠d→t.heap.get? b=some o→h'.get? b=some o)→R (.ok (.ret .none)) { t with heap:=h',toks:=tk }) →
   codeAny (model P w) A (.builtin "dict.update.loop" ⟨[.ref d,.ref I,.int (j:Int) tk0,.none],[]⟩) R t:=by
 have nw:d∉wr:=fun z=>nf (W.sub _ z)
 have mv:∀ {j:Nat}{h h':Heap},h.DictOfH (tupleKind (zx P w)) d (xs.take j)→(∀ b o,b∉wr→h.get? b=some o→h'.get? b=some o)→h'.DictOfH (tupleKind (zx P w)) d (xs.take j):=fun {j h h'} i k=>zaD i fun b o hb e=>by
  refine k b o ?_ e
  rcases hb with z | z
  ·rw[z];exact nw
  ·obtain⟨x,hx,rfl⟩:=List.mem_map.mp z
   exact(hks x (List.mem_of_mem_take hx)).2.1
 intro r
 induction r with
 |zero =>
  intro j t tk0 hj st hd keep fin
  have ej:j=n:=by omega
  subst ej
  refine codeAny_builtin entry_dul (by
   rw[Around.under_plainId plain_dul _]
   show wpAny _ A.in1 (pyNext (.ref I) >>= _) _ _ t
   refine wpAny_bind (W.done t _ _ st fun h1 tk kk=>?_)
   show wpAny _ A.in1 (Builtin.Dict.addKeywords d [] >>= _) _ _ _
   have hd1:=mv hd kk
   rw[← hk,List.take_length] at hd1
   exact wpAny_bind (wpAny_pure (wpAny_pure (fin h1 tk hd1 fun b o n1 _ e=>kk b o n1 e))))
 |succ r ih =>
  intro j t tk0 hj st hd keep fin
  refine codeAny_builtin entry_dul (by
   rw[Around.under_plainId plain_dul _]
   show wpAny _ A.in1 (pyNext (.ref I) >>= _) _ _ t
   refine wpAny_bind (W.item j t _ _ (by omega) st fun v h1 tk iv st1 kk=>?_)
   obtain⟨q,x,rfl,hx,o,y,hq0,hc,hs⟩:=hI j v iv
   obtain⟨nq1,nq2⟩:=hq j _ q iv rfl
   have hq1:=kk q o nq1 (keep q o nq1 nq2 hq0)
   have hd1:=mv hd kk
   have hxm:=List.mem_of_getElem? hx
   obtain⟨k0,k1,k2⟩:=hks x hxm
   obtain⟨kx,ax,vx⟩:=x
   dsimp only at hs k0 k1 k2
   have hkey:=VH (h':=h1) k0 fun o e=>kk _ o k1 (keep _ o k1 k2 e)
   have etk:xs.take (j+1)=xs.take j++[(kx,ax,vx)]:=by rw[List.take_add_one,hx];rfl
   have hno:atKey (xs.take j) kx=none:=by
    have h1:kx∉(xs.take j).map (·.1):=fun z=>by
     have h2:=hnd.sublist ((List.take_sublist (j+1) xs).map (·.1))
     rw[etk,List.map_append,List.nodup_append] at h2
     exact h2.2.2 kx z kx (by simp) rfl
    cases h:atKey (xs.take j) kx with
    |none=>rfl
    |some p =>
     unfold atKey at h
     obtain⟨x',hf,_⟩:=Option.map_eq_some_iff.mp h
     have hfe:x'.1=kx:=by simpa using List.find?_some hf
     exact absurd (List.mem_map.mpr ⟨x',List.mem_of_find?_eq_some hf,hfe⟩) h1
   show wpAny _ A.in1 (holding [Value.ref q] (tryCatch (Builtin.Dict.pairItems (Value.ref q)) _ >>= _) >>= _) _ _ _
   refine wpAny_bind (wpAny_holding (wpAny_bind (wpAny_tryCatch ?_)))
   unfold Builtin.Dict.pairItems
   refine wpAny_bind (wpAny_typeOf (T := "tuple") ⟨o,hq1,hc⟩ ?_)
   rw[if_pos (by decide)]
   refine wpAny_bind (wpAny_seqItems hq1 hs (wpAny_pure ?_))
   show wpAny _ A.in1 (holding [Value.ref ax,vx] (dictSet d (.ref ax) vx)) _ _ _
   refine wpAny_holding (wpAny_dictSet_heap (show(tupleKind (zx P w)).room A.in1 from hu) hkey hd1 (fun h2 hd2 sb=>?_) ?_)
   ·show wpAny _ A.in1 (pure _) _ _ _
    rw[storedH_new hno,← etk] at hd2
    refine wpAny_pure ⟨plainId_quiet plain_dul _,ih (j+1) _ _ (by omega) (W.frame _ _ _ st1 fun b hb o e=>?_) hd2 (fun b o n1 n2 e=>?_) fun h3 tk3 hd3 kk3=>fin h3 tk3 hd3 fun b o n1 n2 e=>kk3 b o n1 n2 ?_⟩
    ·exact(sb.2 b fun z=>nf (z ▸ hb)).trans e
    ·exact(sb.2 b n2).trans (kk b o n1 (keep b o n1 n2 e))
    ·exact(sb.2 b n2).trans (kk b o n1 e)
   ·rw[List.length_take]
    exact Nat.le_trans (show _≤1000 by omega) (by decide))
end
section
variable {X:Cx}
theorem vP {pins:List (Addr×Obj)}{σ:St}{H:Hp}{s:Shared}(I:Inv X pins σ H s):∀ (qs ks:List Addr) (kvs:List (List Key×V)),qs.length=kvs.length→ks.length=kvs.length→(∀ (i:Nat) (q b:Addr) (kv:List Key×V),qs[i]?=some q→ks[i]?=some b→kvs[i]?=some kv→H q=some (.tup [.ref b,kv.2])∧H b=some (.tup (kv.1.map kV))) →
  ∃ xs:List (List Key×Addr×Value),KT H kvs xs∧∀ (i:Nat) (q:Addr),qs[i]?=some q→∃ x o y,xs[i]?=some x∧s.heap.get? q=some o∧o.cls=.type "tuple" ∧ o.data=.seq #[.ref x.2.1,x.2.2] y
 |[],[],[],_,_,_=>⟨[],.nil,fun i q h=>by simp at h⟩
 |q::qs,b::ks,kv::kvs,hl,hl2,h=>by
  obtain⟨xs,r,hv⟩:=vP I qs ks kvs (by simpa using hl) (by simpa using hl2) fun i q' b' kv' h1 h2 h3=>h (i+1) q' b' kv' (by simpa using h1) (by simpa using h2) (by simpa using h3)
  obtain⟨h0,h0b⟩:=h 0 q b kv rfl rfl rfl
  obtain⟨its,rv,it,_⟩:=I.tuple (SqT.of h0)
  obtain⟨ux,rfl,rx⟩:∃ ux,its=[.ref b,ux]∧RelV kv.2 ux:=by
   cases rv with | cons r1 rv =>
   cases rv with | cons r2 rv =>
   cases rv
   cases r1
   exact⟨_,rfl,r2⟩
  obtain⟨o,e,oc,n,od⟩:=it
  refine⟨(kv.1,b,ux)::xs,.cons ⟨rfl,h0b,rx⟩ r,fun i q' hi=>?_⟩
  cases i with
  |zero =>
   cases hi
   exact⟨_,o,n,rfl,e,oc,od⟩
  |succ i =>
   obtain⟨x,o,y,e1,e2⟩:=hv i q' (by simpa using hi)
   exact⟨x,o,y,by simpa using e1,e2⟩
 |[],_::_,[],_,h,_=>absurd h (by simp)
 |[],_,_::_,h,_,_=>absurd h (by simp)
 |_::_,_,[],h,_,_=>absurd h (by simp)
 |_::_,[],_::_,_,h,_=>absurd h (by simp)
def Wh (X:Cx):List V→Hp→VK→Prop:=fun xs H Q=>∃ (a:Addr) (qs ks:List Addr) (kvs:List (List Key×V)),xs=[V.ref a]∧H a=some (.lst (qs.map V.ref))∧qs.length=kvs.length∧ks.length=kvs.length∧kvs.length≤1000∧(kvs.map (·.1)).Nodup∧X.A.units+5<cLine∧(∀ (i:Nat) (q b:Addr) (kv:List Key×V),qs[i]?=some q→ks[i]?=some b→kvs[i]?=some kv→H q=some (.tup [.ref b,kv.2])∧H b=some (.tup (kv.1.map kV))) ∧
 ∀ p,H p=none→Q (.ref p) (upd H p (.dT kvs))
theorem wW (hc:X.calm=true):xb X (.type "dict") (Wh X):=by
 intro pins s σ H xs us Q I r h
 obtain⟨a,qs,ks,kvs,rfl,ha,hl,hl2,hz,hnd,hun,hq,k⟩:=h
 obtain⟨u,rfl,ru⟩:=r.one
 cases ru
 obtain⟨its,rv,pl,_⟩:=I.list (SqL.of ha)
 have hA:X.A.handled=none:=I.ok.hd hc
 refine callType_codes (Q₁:=fun obj s₁=>obj=.ref s.heap.objs.size∧s₁={ s with heap:=s.heap.push { cls:=.type "dict",data:=.dict #[] } }) F.kt_called_dict (F.kt_typeCall_dict_1 _) F.entry_dict_init (kt_code_dict_new _ ⟨rfl,rfl⟩) ?_
 rintro obj s₁ ⟨rfl,rfl⟩
 have hnew:(s.heap.push { cls:=.type "dict",data:=.dict #[] }).DictOfH (tupleKind (zx X.prog X.w)) s.heap.objs.size []:=Heap.DictOfH.new s.heap
 have lt:a<s.heap.objs.size:=by
  obtain⟨_,e,_⟩:=pl.isList
  exact Heap.lt_size e
 have pl1:PlainL (s.heap.push { cls:=.type "dict",data:=.dict #[] }) a its.toArray:=by
  obtain⟨o,n,e,r⟩:=pl
  exact⟨o,n,Heap.get?_push_of_some _ e,r⟩
 refine⟨hnew.typeIs,F.args_dict_init_2 _ _,?_⟩
 unfold Builtin.«dict.__init__»
 refine wpAny_bind ?_
 unfold Builtin.Dict.selfAndRest
 refine wpAny_bind (wpAny_notOrdered_dict hnew.typeIs ?_)
 show wpAny _ _ (pure (s.heap.objs.size,[Value.ref a])) _ _ _
 refine wpAny_pure ?_
 show wpAny _ _ (Builtin.Dict.updateFrom "dict.__init__" s.heap.objs.size (.ref a) [] .none) _ _ _
 unfold Builtin.Dict.updateFrom
 obtain⟨o,n,e,oc,od,os⟩:=pl1
 refine wpAny_bind (wpAny_typeOf (T := "list") ⟨o,e,oc⟩ ?_)
 rw[if_pos (by decide)]
 refine wpAny_bind (Yz ⟨o,n,e,oc,od,os⟩ hA fun h1 tk1 kk1=>?_)
 obtain⟨vs,rel,hvs⟩:=vP I qs ks kvs hl hl2 hq
 have hl1:h1.IsList a its.toArray:=⟨o,kk1 _ _ e,oc,n,os⟩
 show wpAny _ _ (rule _ >>= _) _ _ _
 refine wpAny_bind (wpAny_rule (wpAny_bind (wpAny_pyIter_list hl1 ?_)))
 have nd0:(s.heap.push { cls:=.type "dict",data:=.dict #[] }).get? s.heap.objs.size=some { cls:=.type "dict",data:=.dict #[] }:=Heap.get?_push_size _ rfl
 have nd1:=kk1 _ _ nd0
 have ltd:s.heap.objs.size<h1.objs.size:=Heap.lt_size nd1
 have lta:a<h1.objs.size:=Nat.lt_trans lt ltd
 have lvs:vs.length=kvs.length:=(Paired.length rel).symm
 have len:its.toArray.size=vs.length:=by
  have e1:=rv.length
  rw[List.length_map] at e1
  simp
  omega
 have W:=Walks.list (prog:=X.prog) (w:=X.w) (A:=X.A.in1.in1) hA h1.objs.size a (Nat.ne_of_lt lta) its.toArray
 have st:((h1.push { cls:=.type "list_iterator",data:=.fields #[.ref a,.int 0 0] }).IsListIter h1.objs.size a 0∧(h1.push { cls:=.type "list_iterator",data:=.fields #[.ref a,.int 0 0] }).IsList a its.toArray):=⟨⟨_,Heap.get?_push_size _ rfl,rfl,rfl⟩,hl1.push _⟩
 have nf:s.heap.objs.size∉[h1.objs.size,a]:=by
  intro z
  rcases List.mem_cons.mp z with z | z
  ·exact Nat.lt_irrefl _ (z ▸ ltd)
  ·exact Nat.lt_irrefl _ ((List.mem_singleton.mp z) ▸ lt)
 have item:∀ (i:Nat) (v:Value),its.toArray[i]?=some v→∃ q:Addr,v=Value.ref q∧qs[i]?=some q:=fun i v hv=>by
  have hv:its[i]?=some v:=by simpa using hv
  obtain⟨x,hx,rx⟩:=wY rv hv
  rw[List.getElem?_map] at hx
  obtain⟨q,hq,rfl⟩:=Option.map_eq_some_iff.mp hx
  exact⟨q,rx,hq⟩
 have hd0:(h1.push { cls:=.type "list_iterator",data:=.fields #[.ref a,.int 0 0] }).DictOfH (tupleKind (zx X.prog X.w)) s.heap.objs.size (vs.take 0):=by
  rw[List.take_zero]
  obtain⟨o,es,ep,ho,hc,hd,he,_,hn⟩:=hnew
  exact⟨o,es,ep,Heap.get?_push_of_some _ (kk1 _ _ ho),hc,hd,he,fun x hx=>(nomatch hx),hn⟩
 have hnv:(vs.map (·.1)).Nodup:=by
  have e:vs.map (·.1)=kvs.map (·.1):=by
   have go:∀ {l:List (List Key×V)}{m:List (List Key×Addr×Value)},KT H l m→m.map (·.1)=l.map (·.1):=by
    intro l m r
    induction r with
    |nil=>rfl
    |cons h t ih=>rw[List.map_cons,List.map_cons,ih,h.1]
   exact go rel
  rw[e]
  exact hnd
 have hkx:∀ x∈vs,H x.2.1=some (.tup (x.1.map kV)):=fun x hx=>by
  have go:∀ {l:List (List Key×V)}{m:List (List Key×Addr×Value)},KT H l m→∀ x∈m,H x.2.1=some (.tup (x.1.map kV)):=by
   intro l m r
   induction r with
   |nil=>intro x hx;exact nomatch hx
   |cons h t ih =>
    intro x hx
    rcases List.mem_cons.mp hx with z | z
    ·rw[z,← h.1];exact h.2.1
    ·exact ih x z
  exact go rel x hx
 have ltk:∀ x∈vs,x.2.1<s.heap.objs.size:=fun x hx=>by
  obtain⟨o,its,n,e,_⟩:=(show IsTupleKey (zx X.prog X.w) s.heap x.1 x.2.1 from xm I.hok (hkx x hx))
  exact Heap.lt_size e
 refine wpAny_pure ⟨plainId_quiet plain_dul _,zbP (A:=X.A.in1) W nf vs len.symm (by omega) hnv (by show X.A.units+1+1<cLine;omega) s.heap ?_ ?_ ?_ its.toArray.size 0 _ 0 (by omega) st hd0 ?_ ?_⟩
 ·intro i v hv
  obtain⟨q,rfl,hq'⟩:=item i v hv
  obtain⟨x,o,y,e1,e2,e3,e4⟩:=hvs i q hq'
  exact⟨q,x,rfl,e1,o,y,e2,e3,e4⟩
 ·intro i v q hv ev
  obtain⟨q',rfl,hq'⟩:=item i v hv
  cases ev
  obtain⟨x,o,y,_,e1,_⟩:=hvs i _ hq'
  have l1:=Heap.lt_size e1
  exact⟨fun z=>by rw[List.mem_singleton.mp z] at l1;exact Nat.lt_irrefl _ (Nat.lt_trans l1 ltd),fun z=>by rw[z] at l1;exact Nat.lt_irrefl _ l1⟩
 ·intro x hx
  have l1:=ltk x hx
  exact⟨xm I.hok (hkx x hx),fun z=>by rw[List.mem_singleton.mp z] at l1;exact Nat.lt_irrefl _ (Nat.lt_trans l1 ltd),fun z=>by rw[z] at l1;exact Nat.lt_irrefl _ l1⟩
 ·intro b o n1 n2 e
  exact Heap.get?_push_of_some _ (kk1 _ _ (Heap.get?_push_of_some _ e))
 ·intro h' tk hd' kk'
  refine⟨rfl,?_⟩
  have hfr:H s.heap.objs.size=none:=I.hok.fresh (Nat.le_refl _)
  refine⟨.ref s.heap.objs.size,_,I.laid (a:=s.heap.objs.size) (o:=.dT kvs) (t':=tk) (fun b o e=>?_) (Nat.le_refl _) ?_,rfl,k _ hfr⟩
  ·have l1:=Heap.lt_size e
   refine kk' b o (fun z=>?_) (fun z=>?_) (Heap.get?_push_of_some _ (kk1 _ _ (Heap.get?_push_of_some _ e)))
   ·rw[List.mem_singleton.mp z] at l1
    exact Nat.lt_irrefl _ (Nat.lt_trans l1 ltd)
   ·rw[z] at l1
    exact Nat.lt_irrefl _ l1
  ·obtain⟨o,es,ep,ho,hc,hd,he,his,hn⟩:=hd'
   refine⟨Nat.le_trans hz (by decide),beq_eq_false_iff_ne.mpr (Ne.symm (Nat.ne_of_lt I.big)),vs,KT.keeps rel fun b ys e=>?_,o,es,ep,ho,hc,hd,he,hn⟩
   rw[upd_ne (fun z=>by rw[z,hfr] at e;cases e)]
   exact e
end
theorem ZK:typeLookup (.type "list_reverseiterator") "__len__" = pure none:=by rw[typeLookup_type,builtinLookup_eq_fast];kernel_rfl
theorem XG:typeLookup (.type "list_reverseiterator") "__length_hint__" = pure (some (.builtin "list_reverseiterator.__length_hint__")):=by rw[typeLookup_type,builtinLookup_eq_fast];kernel_rfl
section
variable {prog:Program}{w:World}{A:Around}{E:Value→Shared→Prop}{s:Shared}
theorem WS {it l:Addr}{i:Int}{Q:Bool→Shared→Prop}(hit:s.heap.IsRevIter it l i) (q:Q false s):wpAny (model prog w) A (Builtin.List.listLengthHint (.ref it)) Q E s:=by
 unfold Builtin.List.listLengthHint
 refine wpAny_bind (wpAny_specialOf hit.typeIs ZK ?_)
 show wpAny _ _ (specialOf (Value.ref it) (Str.ofString "__length_hint__") >>= _) _ _ _
 refine wpAny_bind (wpAny_specialOf hit.typeIs XG ?_)
 generalize hid:("list_reverseiterator.__length_hint__" : String)=id0
 wp_delta
 rw[show splitId id0=some ("list_reverseiterator", "__length_hint__") from by subst hid;decide +kernel]
 subst hid
 refine wpAny_bind (wpAny_isInstance (T := "list_reverseiterator") (b:=true) hit.typeIs (by rw[isSubtype_type];kernel_rfl) ?_)
 refine wpAny_ite_split (fun hab=>absurd hab (by decide)) (fun _=>?_)
 refine wpAny_ite_split (fun _=>?_) (fun hab=>absurd (by decide +kernel) hab)
 refine wpAny_ite_split (fun hab=>absurd hab (by decide +kernel)) (fun _=>?_)
 exact wpAny_pure q
theorem WR {it l:Addr}{items:Array Value}{Q:Value→Shared→Prop}(hh:A.handled=none) (hne:l≠it) (hit:s.heap.IsRevIter it l ((items.size:Int)-1)) (hl:s.heap.IsList l items) (hn:items.size≤sizeLine)
  (hQ:∀ h' tk acc' c',(∀ b o,b≠it→s.heap.get? b=some o→h'.get? b=some o)→h'.get? s.heap.objs.size=some { cls:=.type "list",dict:=none,data:=.seq acc' c',slots:=#[] }→ItemsOf (fun i v=>items[items.size-1-i]?=some v) acc' items.size→Q (.ref s.heap.objs.size) { s with heap:=h',toks:=tk }) :
  wpAny (model prog w) A (call (.type "list") [.ref it]) Q E s:=by
 refine callType_codes (Q₁:=fun obj s₁=>obj=.ref s.heap.objs.size∧s₁={ s with heap:=s.heap.push { cls:=.type "list",data:=.seq #[] } }) PySem.F.called_list (PySem.F.typeCall_list_1 _) PySem.F.entry_list_init
  (code_list_new _ ⟨rfl,rfl⟩) fun obj s₁ h₁=>?_
 obtain⟨rfl,rfl⟩:=h₁
 have hS:(s.heap.push { cls:=.type "list",data:=.seq #[] }).get? s.heap.objs.size=some { cls:=.type "list",data:=.seq #[] }:=Heap.get?_push_size _ rfl
 have li:it<s.heap.objs.size:=by obtain⟨o,e,_⟩:=hit;exact Heap.lt_size e
 have ll:l<s.heap.objs.size:=by obtain⟨o,e,_⟩:=hl;exact Heap.lt_size e
 have hSI:s.heap.objs.size≠it:=Nat.ne_of_gt li
 have hSf:s.heap.objs.size∉[it,l]:=by
  simp only[List.mem_cons,List.not_mem_nil,or_false,not_or]
  exact⟨hSI,Nat.ne_of_gt ll⟩
 refine⟨⟨_,hS,rfl⟩,PySem.F.args_list_init_2 _ _,?_⟩
 show wpAny _ _ (do let old ← Builtin.List.listItems (.ref s.heap.objs.size);Builtin.List.listUpdate (.ref s.heap.objs.size) (fun _=>#[]);letGo old.toList.reverse;Builtin.List.listExtendWith (.ref s.heap.objs.size) (.ref it) .none) _ _ _
 refine wpAny_bind ?_
 unfold Builtin.List.listItems
 refine wpAny_bind (wpAny_seqItems hS rfl (wpAny_pure ?_))
 show wpAny _ _ (updateSeq s.heap.objs.size (fun _=>#[]) >>= fun _=>letGo (#[]:Array Value).toList.reverse >>= fun _=>Builtin.List.listExtendWith (.ref s.heap.objs.size) (.ref it) .none) _ _ _
 refine wpAny_bind (wpAny_updateSeq hS rfl ?_)
 have hS₂:=Heap.get?_update_self (Obj.mapSeq (fun _=>(#[]:Array Value))) hS rfl
 have oth:∀ b o,s.heap.get? b=some o→((s.heap.push { cls:=.type "list",data:=.seq #[] }).update s.heap.objs.size (Obj.mapSeq (fun _=>(#[]:Array Value)))).get? b=some o :=
  fun b o e=>(Heap.get?_update_other _ _ (Nat.ne_of_gt (Heap.lt_size e))).trans (Heap.get?_push_of_some _ e)
 refine wpAny_bind (wpAny_letGo ?_)
 generalize hh2:(s.heap.push { cls:=.type "list",data:=.seq #[] }).update s.heap.objs.size (Obj.mapSeq (fun _=>(#[]:Array Value)))=h2 at *
 have hit2:h2.IsRevIter it l ((items.size:Int)-1):=hit.at fun o e=>oth _ o e
 have hl2:h2.IsList l items:=hl.at fun o e=>oth _ o e
 unfold Builtin.List.listExtendWith
 refine wpAny_bind (wpAny_typeOf (T := "list_reverseiterator") (s:={ s with heap:=h2 }) hit2.typeIs ?_)
 have h1:Builtin.List.listSameRef (.ref s.heap.objs.size) (.ref it)=false:=by simp[Builtin.List.listSameRef,hSI]
 have h3:(Value.type "list_reverseiterator" == Value.type "list")=false:=by decide
 have h4:(Value.type "list_reverseiterator" == Value.type "tuple")=false:=by decide
 simp only[h1,h3,h4,Bool.or_false,Bool.false_eq_true,if_false]
 refine wpAny_bind (wpAny_pyIter_revIter (s:={ s with heap:=h2 }) hit2 ?_)
 refine wpAny_bind (wpAny_holding (WS (s:={ s with heap:=h2 }) hit2 ?_))
 refine wpAny_ite_split (fun hab=>absurd hab (by decide +kernel)) (fun _=>?_)
 have W:=(Walks.listRev (prog:=prog) (w:=w) (A:=A.in1.in1) hh it l hne items).toS
 have hst:0≤items.size∧h2.IsRevIter it l ((items.size:Int)-1-((0:Nat):Int))∧h2.IsList l items:=⟨Nat.zero_le _,by simpa using hit2,hl2⟩
 refine wpAny_pure ⟨plainId_quiet F.plain_extend_loop _,codeAny_extend_loopS W hn _ hSf _ items.size 0 _ _ _ rfl (Nat.zero_le _) hst hS₂ (ItemsOf.nil _) fun s' acc' c' hm hS' hacc=>?_⟩
 refine⟨rfl,?_⟩
 rw[Moved.eq_with hm]
 refine hQ s'.heap s'.toks acc' c' (fun b o hb e=>hm.heap b o (fun hmem=>?_) (oth b o e)) hS' hacc
 rcases List.mem_cons.mp hmem with e' | hmem
 ·exact absurd (Heap.lt_size e) (by rw[e'];exact Nat.lt_irrefl _)
 ·exact hb (List.mem_singleton.mp hmem)
end
section
variable {X:Cx}
def UV (K:PySem.W.Frag) (ta:TA):TE:=fun σ H Q=>ta σ H fun vs H1=>∃ (a:Addr) (xs:List V),vs=[.ref a]∧SqL K H1 a xs∧∀ l,H1 l=none→Q (.ref l) (upd H1 l (.lst xs.reverse))
theorem V2 {its:List Value}{acc:Array Value}(h:ItemsOf (fun i v=>its.toArray[its.toArray.size-1-i]?=some v) acc its.toArray.size):acc.toList=its.reverse:=by
 refine List.ext_getElem? fun j=>?_
 by_cases c:j<its.length
 ·have hj:j<acc.size:=by rw[h.1];simpa using c
  have e:acc.toList[j]?=some acc[j]:=by simp[hj]
  have h2:=h.2 j acc[j] (by simp[hj])
  rw[e,List.getElem?_reverse c]
  simp only[List.size_toArray,List.getElem?_toArray] at h2
  exact h2.symm
 ·rw[List.getElem?_eq_none (by rw[Array.length_toList,h.1];simp;omega),List.getElem?_eq_none (by simp;omega)]
theorem vw {e:Expr}{ta:TA}{p p2 pos cpos:Pos}(hc:X.calm=true) (hgl:Gl X "list") (hm:X.mg "list" = none) (hg:Gl X "reversed") (hm2:X.mg "reversed" = none) (ha:Bx (PA X [e] ta)) (hs2:starEach [e] X.env=[(false,eval e X.env)]:=by rfl) (hs:starEach [.Call (.Name "reversed" p2) [e] [] cpos] X.env=[(false,eval (.Call (.Name "reversed" p2) [e] [] cpos) X.env)]:=by rfl):Bx (PE X (.Call (.Name "list" p) [.Call (.Name "reversed" p2) [e] [] cpos] [] pos) (UV X.K ta)):=by
 have ha:=ha.of
 refine⟨?_⟩
 intro pins s σ H Q I h
 refine wpAny_Call_Name_kw (ld_blt I hgl hm bt_list ?_ (by decide) (by decide))
 refine PyProof.Rows.callWith_type1 ?_ hs rfl
 rw[hs]
 show wpAny _ _ (spliced ((false,eval (.Call (.Name "reversed" p2) [e] [] cpos) X.env)::backTo pos [])) _ _ s
 refine Calls.spliced_cons (Call_ (ld_blt I hg hm2 vq (PyProof.Rows.callWith_type1 (thn (ha cpos pins s σ H _ I h) fun us s1 hq0=>?_) hs2 rfl)))
 obtain⟨vs,H1,I1,r1,q1⟩:=hq0
 obtain⟨b,xs,ex,hq,q⟩:=q1
 subst ex
 obtain⟨u,rfl,ru⟩:=r1.one
 cases ru
 obtain⟨its,rv,pl,hz⟩:=I1.list hq
 have hl:=rv.length
 refine call_reversed_list pl.isList ?_
 refine Calls.spliced_nil ?_
 have lb:b<s1.heap.objs.size:=by obtain⟨o,e,_⟩:=pl.isList;exact Heap.lt_size e
 have hle:s1.heap.objs.size≤(s1.heap.push (revObj b ((its.toArray.size:Int)-1))).objs.size:=by rw[Heap.size_push];exact Nat.le_succ _
 refine WR (s:={ s1 with heap:=s1.heap.push (revObj b ((its.toArray.size:Int)-1)) }) (it:=s1.heap.objs.size) (l:=b) (items:=its.toArray) (I1.ok.hd hc) (Nat.ne_of_lt lb) ⟨_,Heap.get?_push_size _ rfl,rfl,rfl⟩ (pl.isList.push _) (by rw[List.size_toArray,← hl];exact hz) fun h' tk acc c' kp ea hit=>?_
 refine⟨.ref _,_,I1.laid (t':=tk) (h':=h') (fun b o e=>kp b o (Nat.ne_of_lt (Heap.lt_size e)) (Heap.get?_push_of_some _ e)) hle (show ObjOk X.prog X.w _ h' _ (.lst xs.reverse) from⟨by rw[List.length_reverse];exact hz,acc.toList,c',?_,ea⟩),rfl,q _ (I1.hok.fresh hle)⟩
 rw[V2 hit]
 exact rv.reverse
theorem uN {tg e:Expr}{i1 i2:TI}(h1:Bx (PI X tg e i1)) (h2:Bx (PI X tg e i2)):Bx (PI X tg e (fun σ H R=>i1 σ H R∨i2 σ H R)):=by
 have h1:=h1.of
 have h2:=h2.of
 refine⟨?_⟩
 intro pins s σ H R I h
 rcases h with h | h
 ·exact h1 pins s σ H R I h
 ·exact h2 pins s σ H R I h
def lsO (ps:List (Addr×LI)) (v:Value):LI:=match v with
 |.ref t=>((ps.find? fun p=>p.1=t).map (·.2)).getD []
 |_=>[]
theorem YE {H:Hp}{ps:List (Addr×LI)}(hy:∀ p∈ps,H p.1=some (.lst (p.2.map V.int))){p:Addr×LI}(hm:p∈ps):lsO ps (.ref p.1)=p.2:=by
 obtain⟨t,ns⟩:=p
 have ht:=hy _ hm
 show((ps.find? fun p=>p.1=t).map (·.2)).getD []=ns
 cases hf:ps.find? fun p=>p.1=t with
 |none =>
  have:=List.find?_eq_none.mp hf (t,ns) hm
  simp at this
 |some p' =>
  have e1:p'.1=t:=by simpa using List.find?_some hf
  have h2:=hy p' (List.mem_of_find?_eq_some hf)
  rw[e1,ht] at h2
  injection h2 with h2
  injection h2 with h2
  have inj:∀ {as bs:LI},as.map V.int=bs.map V.int→as=bs:=by
   intro as
   induction as with
   |nil=>intro bs h;cases bs with
    |nil=>rfl
    |cons b bs=>simp at h
   |cons a as ih=>intro bs h;cases bs with
    |nil=>simp at h
    |cons b bs =>
     rw[List.map_cons,List.map_cons] at h
     injection h with h1 h2
     injection h1 with h1
     rw[h1,ih h2]
  exact(inj h2).symm
theorem uU {β:Type}:∀ {ps:List (Addr×β)}{us:List Value},Vals (ps.map fun p=>V.ref p.1) us→us=ps.map fun p=>Value.ref p.1
 |[],_,.nil=>rfl
 |p::ps,_,.cons r t=>by rw[uU t];cases r;rfl
def zbG (K:PySem.W.Frag) (A:Around) (neg:Bool):R2:=fun x y H Q=>∃ (l t:Addr) (ps:List (Addr×LI)) (ns:LI),x=.ref t∧y=.ref l∧SqL K H l (ps.map fun p=>V.ref p.1)∧(∀ p∈ps,H p.1=some (.lst (p.2.map V.int)))∧H t=some (.lst (ns.map V.int))∧A.units+70<cLine ∧
 Q (.bl (if neg then !decide (ns∈ps.map (·.2)) else decide (ns∈ps.map (·.2)))) H
theorem vR:OpR X (compareOp .NotIn) (zbG X.K X.A true):=by
 intro pins s σ H x y v u Q I rx ry h
 obtain⟨l,t,ps,ns,rfl,rfl,hl,hps,ht,hu,q⟩:=h
 cases rx
 cases ry
 obtain⟨its,r,pl,hz⟩:=I.list hl
 obtain rfl:=uU r
 obtain⟨it2,r2,pl2,_⟩:=I.list (SqL.of ht)
 refine SeqAt.notIn_listAt (fun v=>decide (lsO ps v=ns)) pl.isList (fun w hw=>?_) ⟨.bl _,H,I,rfl,?_⟩
 ·obtain⟨p,hp,rfl⟩:=List.mem_map.mp (List.mem_toArray.mp hw)
  rw[YE hps hp]
  obtain⟨it3,r3,pl3,_⟩:=I.list (SqL.of (hps p hp))
  exact PySem.W.keq_ints pl3.isList (vm r3) pl2.isList (vm r2) (by rw[yH];omega)
 ·have e:((ps.map fun p=>Value.ref p.1).toArray.any fun v=>decide (lsO ps v=ns))=decide (ns∈ps.map (·.2)):=by
   rw[Bool.eq_iff_iff,decide_eq_true_eq]
   simp only[List.any_toArray,List.any_eq_true,decide_eq_true_eq]
   constructor
   ·rintro⟨v,hv,e⟩
    obtain⟨p,hp,rfl⟩:=List.mem_map.mp hv
    rw[YE hps hp] at e
    exact List.mem_map.mpr ⟨p,hp,e⟩
   ·intro hm
    obtain⟨p,hp,e⟩:=List.mem_map.mp hm
    exact⟨_,List.mem_map.mpr ⟨p,hp,rfl⟩,by rw[YE hps hp];exact e⟩
  rw[e]
  exact q
end
end L2
namespace L2
open PySem PySem.W PyProof.Rows
structure Fe where
 a:Addr
 n:Str
 q:Str
 s:Stmt
 ps:List Str
 N:List Str
 c:Addr
structure Ce where
 a:Addr
 n:Str
 i:Addr
 fs:List Str
structure Tab where
 f:List Fe
 c:List Ce
 b:List Str
 k:List (Value×Value×Bool)
 m:List (Str×Value)
 t:List (Addr×List Str)
 x:List Addr
 y:List Addr
 u:List (Addr×Addr×Bool)
def dK (K:Frag) (f:Addr):FuncData:=match K.lookup f with
 |some ⟨_,_,.func d,_⟩=>d
 |_=>default
def fnX (e:Fe) (g:FuncData):FuncData:=fnOf e.n e.q (defArgs e.s) (defBody e.s) (defScope e.s) .none g.kwdefaults g.doc g.pyModule g.annotations g.code g.closureTuple
def fnB (K:Frag) (e:Fe):Option Obj:=match K.lookup e.a with
 |some ⟨c,d,.func g,sl⟩=>some ⟨c,d,.func (fnX e g),sl⟩
 |_=>none
def scB (e:Fe):Bool:=decide ((defScope e.s).kind=.function)&&!(defScope e.s).isCoroutine&&!(defScope e.s).isGenerator&&decide e.N.Nodup&&decide (e.N.take e.ps.length=e.ps) &&
 e.ps.all (fun x=>decide ((defScope e.s).names.lookup x=some .local∨(defScope e.s).names.lookup x=some .cell))&&(defScope e.s).names.all fun y=>decide (y.2≠.free)
theorem zbE {e:Fe}(h:scB e=true):FnScope e.N e.ps (defScope e.s):=by
 unfold scB at h
 simp only[Bool.and_eq_true,decide_eq_true_eq,Bool.not_eq_true',List.all_eq_true] at h
 exact⟨h.1.1.1.1.1.1,h.1.1.1.1.1.2,h.1.1.1.1.2,h.1.1.1.2,h.1.1.2,h.1.2,h.2⟩
def eqv (x y:Option (Option Value)):Bool:=decide (x=y)
def fnC (K:Frag) (e:Fe):Bool:=codeIn K (dK K e.a).code e.q&&keepIn K (.ref e.a)&&isFn K (.ref e.a)&&eqv (if e.c=0 then nsIn K mainGlobals e.n else findIn K (.ref e.c) e.n) (some (some (.ref e.a)))
def clC (K:Frag) (e:Ce):Bool:=plainGet K e.a Str.empty&&hasDictIn K e.a&&plainOver K e.a&&eqv (findIn K (.ref e.a) "__setattr__") (some (some (.builtin "object.__setattr__"))) &&
 eqv (nsIn K mainGlobals e.n) (some (some (.ref e.a)))&&makesIn K e.a&&eqv (findIn K (.ref e.a) "__init__") (some (some (if e.i=0 then .builtin "object.__init__" else .ref e.i)))&&keepIn K (.ref e.a) &&
 eqv (findIn K (.ref e.a) "__class__") (some (some (.builtin "object.__class__")))&&decide (mroIn K e.a (.type "object")=some true)&&e.fs.all (fun f=>eqv (findIn K (.ref e.a) f) (some none))&&(e.i == 0||isFn K (.ref e.i))
def tpC (K:Frag) (p:Addr×List Str):Bool:=match K.lookup p.1 with
 |some ⟨.type "tuple",_,.seq its _,_⟩=>decide (its.toList.map (fun v=>match v with | .str x _=>some x | _=>none)=p.2.map some)
 |_=>false
def xiC (K:Frag) (c:Addr):Bool:=eqv (findIn K (.ref c) "__getattribute__") (some (some (.builtin "BaseException.__getattribute__")))&&eqv (findIn K (.ref c) "__getattr__") (some none)&&eqv (findIn K (.ref c) "__class__") (some (some (.builtin "object.__class__"))) &&
 decide (mroIn K c (.type "object")=some true)&&decide (mroIn K c (.type "BaseException")=some true)&&hasDictIn K c
def chk (t:Tab) (K:Frag):Bool :=
 t.f.all (fnC K)&&t.c.all (clC K)&&t.b.all (fun x=>eqv (nsIn K mainGlobals x) (some none))&&t.k.all (fun p=>decide (kitOne K p.1 p.2.1=some p.2.2))&&t.m.all (fun p=>eqv (nsIn K mainGlobals p.1) (some (some p.2)))&&t.t.all (tpC K) &&
 t.x.all (fun c=>excIn K c UI "ValueError.__new__")&&t.y.all (xiC K)&&t.u.all (fun p=>decide (zaM K p.1 p.2.1=some p.2.2))&&eqv (specialIn K (.builtin "object.__class__") "__get__") (some (some (.builtin "getset_descriptor.__get__")))&&decide (takesIn K (.builtin "object.__class__")=some true)
abbrev bdA (t:Tab) (g:FuncData) (us:List Value):Prop:=(t.f.filter fun e=>e.ps.length == us.length).map (fun e=>bindArgs (fnX e g) ⟨us,[]⟩)=(t.f.filter fun e=>e.ps.length == us.length).map fun e=>pure (e.ps.zip us)
structure Txt0 (t:Tab) (K:Frag) (mg:Str→Option Value):Prop where
 ck:chk t K=true
 fe:t.f.map (fun e=>K.lookup e.a)=t.f.map (fnB K)
 bd:∀ (g:FuncData) (us:List Value),us.length≤8→bdA t g us
 mg:∀ x v,nsIn K mainGlobals x=some v→mg x=v
theorem Ws {α β:Type}{f g:α→β}{l:List α}(h:l.map f=l.map g){i:Nat}{e:α}(hi:l[i]?=some e):f e=g e:=by
 have:=congrArg (fun l=>l[i]?) h
 simpa[List.getElem?_map,hi] using this
theorem yT {α:Type}{f:α→Bool}{l:List α}(h:l.all f=true){i:Nat}{e:α}(hi:l[i]?=some e):f e=true:=List.all_eq_true.mp h e (List.mem_of_getElem? hi)
section
variable {t:Tab}{K:Frag}{mg:Str→Option Value}
theorem Txt0.parts (T:Txt0 t K mg):(t.f.all (fnC K)=true∧t.c.all (clC K)=true∧t.b.all (fun x=>eqv (nsIn K mainGlobals x) (some none))=true∧t.k.all (fun p=>decide (kitOne K p.1 p.2.1=some p.2.2))=true)∧(t.m.all (fun p=>eqv (nsIn K mainGlobals p.1) (some (some p.2)))=true∧t.t.all (tpC K)=true ∧
  t.x.all (fun c=>excIn K c UI "ValueError.__new__")=true∧t.y.all (xiC K)=true∧t.u.all (fun p=>decide (zaM K p.1 p.2.1=some p.2.2))=true)∧specialIn K (.builtin "object.__class__") "__get__" = some (some (.builtin "getset_descriptor.__get__"))∧takesIn K (.builtin "object.__class__")=some true:=by
 have h:=T.ck
 unfold chk at h
 simp only[Bool.and_eq_true] at h
 obtain⟨⟨⟨⟨⟨⟨⟨⟨⟨⟨h1,h2⟩,h3⟩,h4⟩,h5⟩,h6⟩,h7⟩,h8⟩,h9⟩,h10⟩,h11⟩:=h
 exact⟨⟨h1,h2,h3,h4⟩,⟨h5,h6,h7,h8,h9⟩,of_decide_eq_true h10,of_decide_eq_true h11⟩
theorem Zn {e:Fe}(h:fnC K e=true):codeIn K (dK K e.a).code e.q=true∧keepIn K (.ref e.a)=true∧isFn K (.ref e.a)=true∧(if e.c=0 then nsIn K mainGlobals e.n else findIn K (.ref e.c) e.n)=some (some (.ref e.a)):=by
 unfold fnC at h
 simp only[Bool.and_eq_true] at h
 exact⟨h.1.1.1,h.1.1.2,h.1.2,of_decide_eq_true h.2⟩
theorem fnD {e:Fe}(T:Txt0 t K mg){i:Nat}(hi:t.f[i]?=some e):∃ oc od sl,K.lookup e.a=some ⟨oc,od,.func (dK K e.a),sl⟩∧dK K e.a=fnX e (dK K e.a):=by
 have h1:=Ws T.fe hi
 have hk:=(Zn (yT T.parts.1.1 hi)).2.1
 simp only[fnB] at h1
 unfold dK
 split at h1
 ·rename_i c d g sl lk
  rw[lk] at h1 ⊢
  injection h1 with h1
  injection h1 with _ _ h1 _
  injection h1 with h1
  exact⟨c,d,sl,rfl,h1⟩
 ·unfold keepIn at hk
  simp only[h1] at hk
  cases hk
theorem Txt0.fn (T:Txt0 t K mg) (i:Nat){a c:Addr}{n q:Str}{s:Stmt}{ps N:List Str}(hi:t.f[i]?=some ⟨a,n,q,s,ps,N,c⟩:=by rfl):Fun K n q s a (dK K a):=by
 obtain⟨oc,od,sl,h1,h2⟩:=fnD T hi
 obtain⟨k1,k2,_⟩:=Zn (yT T.parts.1.1 hi)
 exact⟨⟨oc,od,(dK K a).kwdefaults,(dK K a).doc,(dK K a).pyModule,(dK K a).annotations,(dK K a).code,(dK K a).closureTuple,sl,h2,h1,k1⟩,k2⟩
theorem Txt0.be (T:Txt0 t K mg) (i:Nat){a c:Addr}{n q:Str}{s:Stmt}{ps N:List Str}(hi:t.f[i]?=some ⟨a,n,q,s,ps,N,c⟩:=by rfl) (h8:ps.length≤8:=by exact Nat.le_of_ble_eq_true rfl) (us:List Value) (hl:us.length=ps.length):bindArgs (dK K a) ⟨us,[]⟩=pure (ps.zip us):=by
 obtain⟨oc,od,sl,h1,h2⟩:=fnD T hi
 have hb:=T.bd (dK K a) us (by omega)
 have hm:(⟨a,n,q,s,ps,N,c⟩:Fe)∈t.f.filter fun e=>e.ps.length == us.length:=List.mem_filter.mpr ⟨List.mem_of_getElem? hi,by simp[hl]⟩
 obtain⟨j,hj⟩:=List.getElem?_of_mem hm
 have:=Ws hb hj
 rw[← h2] at this
 exact this
theorem Txt0.bi (T:Txt0 t K mg) (i:Nat){a c:Addr}{n q:Str}{s:Stmt}{ps N:List Str}(hi:t.f[i]?=some ⟨a,n,q,s,ps,N,c⟩:=by rfl) (h8:ps.length≤8:=by exact Nat.le_of_ble_eq_true rfl):Binds K (dK K a) ps []:=.all (T.be i hi h8)
theorem Txt0.g (T:Txt0 t K mg) (i:Nat){a:Addr}{n q:Str}{s:Stmt}{ps N:List Str}(hi:t.f[i]?=some ⟨a,n,q,s,ps,N,0⟩:=by rfl):mg n=some (.ref a):=T.mg _ _ (Zn (yT T.parts.1.1 hi)).2.2.2
theorem Txt0.mt (T:Txt0 t K mg) (i:Nat){a c:Addr}{n q:Str}{s:Stmt}{ps N:List Str}(hi:t.f[i]?=some ⟨a,n,q,s,ps,N,c⟩:=by rfl) (hc:c≠0:=by exact Nat.succ_ne_zero _):Meth K c n a:=by
 obtain⟨_,k2,k3,k4⟩:=Zn (yT T.parts.1.1 hi)
 exact⟨by simpa[hc] using k4,k3,k2⟩
theorem v6 {e:Ce}(h:clC K e=true):Cls K e.a∧nsIn K mainGlobals e.n=some (some (.ref e.a))∧makesIn K e.a=true∧findIn K (.ref e.a) "__init__" = some (some (if e.i=0 then .builtin "object.__init__" else .ref e.i))∧keepIn K (.ref e.a)=true∧findIn K (.ref e.a) "__class__" = some (some (.builtin "object.__class__"))∧mroIn K e.a (.type "object")=some true∧(∀ f∈e.fs,findIn K (.ref e.a) f=some none)∧(e.i≠0→isFn K (.ref e.i)=true):=by
 unfold clC at h
 simp only[Bool.and_eq_true,eqv,decide_eq_true_eq,List.all_eq_true,Bool.or_eq_true,beq_iff_eq] at h
 obtain⟨⟨⟨⟨⟨⟨⟨⟨⟨⟨⟨h1,h2⟩,h3⟩,h4⟩,h5⟩,h6⟩,h7⟩,h8⟩,h9⟩,h10⟩,h11⟩,h12⟩:=h
 exact⟨⟨h1,h2,h3,h4⟩,h5,h6,h7,h8,h9,h10,h11,fun z=>h12.resolve_left z⟩
theorem Txt0.gc (T:Txt0 t K mg) (i:Nat){a z:Addr}{n:Str}{fs:List Str}(hi:t.c[i]?=some ⟨a,n,z,fs⟩:=by rfl):mg n=some (.ref a):=T.mg _ _ (v6 (yT T.parts.1.2.1 hi)).2.1
theorem Txt0.cl (T:Txt0 t K mg) (i:Nat){a z:Addr}{n:Str}{fs:List Str}(hi:t.c[i]?=some ⟨a,n,z,fs⟩:=by rfl):Cls K a:=(v6 (yT T.parts.1.2.1 hi)).1
theorem Txt0.mm (T:Txt0 t K mg) (i:Nat){a z:Addr}{n:Str}{fs:List Str}(hi:t.c[i]?=some ⟨a,n,z,fs⟩:=by rfl) (hz:z≠0:=by exact Nat.succ_ne_zero _):Mk K a z:=by
 obtain⟨_,_,h3,h4,h5,_,_,_,h9⟩:=v6 (yT T.parts.1.2.1 hi)
 exact⟨h3,by simpa[hz] using h4,h9 hz,h5⟩
theorem Txt0.ty (T:Txt0 t K mg) (i:Nat){a z:Addr}{n:Str}{fs:List Str}(hi:t.c[i]?=some ⟨a,n,z,fs⟩:=by rfl):∀ (H:Hp) (p dx:Addr) (gs:List (Str×V)),H p=some (.ins a dx gs)→TyOf K H (.ref p) (.ref a):=fun H p dx gs e=>by
 obtain⟨h1,_,_,_,_,h6,h7,_⟩:=v6 (yT T.parts.1.2.1 hi)
 exact .ins e h1 h6 T.parts.2.2.1 T.parts.2.2.2 h7
theorem Txt0.na (T:Txt0 t K mg) (i j:Nat){a z:Addr}{n f:Str}{fs:List Str}(hi:t.c[i]?=some ⟨a,n,z,fs⟩:=by rfl) (hj:fs[j]?=some f:=by rfl):NoAttr K a f:=(v6 (yT T.parts.1.2.1 hi)).2.2.2.2.2.2.2.1 f (List.mem_of_getElem? hj)
theorem Txt0.n (T:Txt0 t K mg) (i:Nat){x:Str}(hi:t.b[i]?=some x:=by rfl):mg x=none:=T.mg _ _ (of_decide_eq_true (yT T.parts.1.2.2.1 hi))
theorem Txt0.k (T:Txt0 t K mg) (i:Nat){x y:Value}{b:Bool}(hi:t.k[i]?=some (x,y,b):=by rfl):kitOne K x y=some b:=of_decide_eq_true (yT T.parts.1.2.2.2 hi)
theorem Txt0.gg (T:Txt0 t K mg) (i:Nat){x:Str}{v:Value}(hi:t.m[i]?=some (x,v):=by rfl):mg x=some v:=T.mg _ _ (of_decide_eq_true (yT T.parts.2.1.1 hi))
end
theorem zaH {t:Tab}(h0:∀ g,bdA t g []) (h1:∀ g a,bdA t g [a]) (h2:∀ g a b,bdA t g [a,b]) (h3:∀ g a b c,bdA t g [a,b,c]) (h4:∀ g a b c d,bdA t g [a,b,c,d]) (h5:∀ g a b c d e,bdA t g [a,b,c,d,e]) (h6:∀ g a b c d e f,bdA t g [a,b,c,d,e,f]) (h7:∀ g a b c d e f i,bdA t g [a,b,c,d,e,f,i]) (h8:∀ g a b c d e f i j,bdA t g [a,b,c,d,e,f,i,j]):∀ (g:FuncData) (us:List Value),us.length≤8→bdA t g us
 |g,[],_=>h0 g
 |g,[a],_=>h1 g a
 |g,[a,b],_=>h2 g a b
 |g,[a,b,c],_=>h3 g a b c
 |g,[a,b,c,d],_=>h4 g a b c d
 |g,[a,b,c,d,e],_=>h5 g a b c d e
 |g,[a,b,c,d,e,f],_=>h6 g a b c d e f
 |g,[a,b,c,d,e,f,i],_=>h7 g a b c d e f i
 |g,[a,b,c,d,e,f,i,j],_=>h8 g a b c d e f i j
 |g,_::_::_::_::_::_::_::_::_::_,h=>by simp at h
end L2
namespace L2
open PySem PySem.Spec PyProof.Rows
theorem mtV {X:Cx}{m:Str}{t:TA}{σ:St}{H:Hp}{Q:VK}{i:Nat}{a C dx f:Addr}{fs:List (Str×V)}{fd:FuncData}{ps:List Str}{k:Nat}{sp:Sp}(hv:σ[i]?=some (some (.ref a))) (hp:H a=some (.ins C dx fs)) (hl:fs.lookup m=none) (hc:Cls X.K C) (hm:Meth X.K C m f)
  (ok:FnOk X.prog X.w X.K X.mg X.base CX0 k f fd ps sp) (hr:Room k X.A) (hb:Binds X.K fd ps []) (h:t σ H fun vs H2=>sp (.ref a::(vs++[])) H2 Q E0):vD X m (ya i) t σ H Q:=⟨_,hv,a,C,dx,fs,f,fd,ps,k,sp,rfl,hp,hl,hc,hm,ok,hr,hb,h⟩
theorem ag0 {σ:St}{H:Hp}{R:List V→Hp→Prop}(h:R [] H):yQ σ H R:=h
theorem ag1 {i:Nat}{σ:St}{H:Hp}{v:V}{R:List V→Hp→Prop}(hv:σ[i]?=some (some v)) (h:R [v] H):zD (ya i) yQ σ H R:=⟨_,hv,h⟩
theorem ZS {K:PySem.W.Frag}{x c:V}{t cv:Value}{b:Bool}{i:Nat}{tb te:TS}{D:Ends}{σ:St}{H:Hp}(hv:σ[i]?=some (some x)) (hc:UR c=some cv) (ty:TyOf K H x t) (kk:PySem.W.kitOne K t cv=some b) (h:if b=true then tb D σ H else te D σ H):UL (tB (tCB (zbk K) (zD (ya i) (zD (tC c) yQ)))) tb te D σ H:=⟨_,hv,_,_,_,_,_,rfl,hc,ty,kk,_,rfl,h⟩
section
variable {prog:Program}{w:World}{A:Around}{E:Value→Shared→Prop}{s:Shared}
theorem XF (d:Addr) (hd:(d == sysModules)=false):MeetsIn prog w (Builtin.«dict.__len__» ⟨[.ref d],[]⟩) fun _ R s=>∃ es ep,Xb s.heap d es ep∧R (.ok (.ret (.int es.size s.toks))) { s with toks:=s.toks+1 } :=
 .of_wp fun A R s ⟨es,ep,⟨o,ho,hc,ha⟩,h⟩=>by
  refine wpAny_bind (m:=dictSize d) ?_
  unfold dictSize
  refine wpAny_bind (wpAny_dictEntries ho ha (wpAny_pure (wpAny_bind (m:=Builtin.Dict.pendingCount d) (wpAny_pendingCount_other hd (wpAny_ret_mkInt ?_)))))
  rw[Nat.add_zero]
  exact h
theorem Wt {d:Addr}{es:Array DictEntry}{ep:Nat}{Q:Value→Shared→Prop}(hd:(d == sysModules)=false) (hm:Xb s.heap d es ep) (ht:s.TypeIs (.ref d) "dict") (hf:(es.size:Int)<2 ^ 63)
  (h:Q (.int es.size (s.toks+1)) { s with toks:=s.toks+1+1 }):wpAny (model prog w) A (call (.builtin "len") [.ref d]) Q E s:=by
 refine Calls.call_function_entry kind_len plain_len entry_len (args_len1 _) ?_
 unfold Builtin.«len»
 refine wpAny_bind (m:=oneArg "len" _) (wpAny_pure (wpAny_bind (m:=callSpecial? (.ref d) (Str.ofString "__len__")) (wpAny_callSpecial?_slot (name:=Str.ofString "__len__") ht F.slot_dict_len
  (call_meetsIn F.slot_dict_len ht F.entry_dict_len (F.args_dict_len_1 _) (XF d hd) ⟨es,ep,hm,?_⟩))))
 refine wpAny_bind (s:={ s with toks:=s.toks+1 }) (wpAny_holding (wpAny_pure (wpAny_bind (wpAny_letGo ?_))))
 show wpAny _ _ (if ((es.size:Nat):Int)<0 then _ else if ((es.size:Nat):Int)≥2 ^ 63 then _ else _) _ _ _
 rw[if_neg (by omega),if_neg (by omega)]
 exact wpAny_bind (wpAny_mkInt (wpAny_pure ⟨_,rfl,h⟩))
end
section
variable {X:Cx}
theorem wV:xb X (.builtin "len") (fun xs H Q=>∃ a kvs,xs=[V.ref a]∧H a=some (.dT kvs)∧Q (.int kvs.length) H):=by
 intro pins s σ H xs us Q I r h
 obtain⟨a,kvs,rfl,ha,q⟩:=h
 obtain⟨u,rfl,ru⟩:=r.one
 cases ru
 obtain⟨z,hd,xs,rel,dd⟩:=uG I.hok ha
 have ty:=dd.typeIs
 obtain⟨o,es,ep,q1,q2,q3,q4,q5⟩:=dd
 have hl:es.size=kvs.length:=by
  rw[← Array.length_toList,q4,List.length_map]
  exact(Paired.length rel).symm
 refine Wt (es:=es) (ep:=ep) hd ⟨o,q1,q2,q3⟩ ty (by rw[sizeLine_eq] at z;omega) ?_
 rw[hl]
 exact⟨.int kvs.length,H,I.tok _,⟨_,rfl⟩,q⟩
end
section
variable {prog:Program}{w:World}{A:Around}{E:Value→Shared→Prop}{s:Shared}
theorem um {Q:Int→Shared→Prop}(h:Q 0xFCA86420 { s with toks:=s.toks+1 }):wpAny (model prog w) A (pyHash .none) Q E s:=by
 unfold pyHash
 have hv:[Value.none].any Value.onHeap=false:=rfl
 refine wpAny_bind ?_
 rw[cRoomFor,if_neg (by rw[hv];exact Bool.false_ne_true)];refine wpAny_pure ?_
 refine wpAny_bind (wpAny_specialOf (typeIs_none s) F.slot_NoneType_hash.lookup ?_)
 show wpAny _ _ (if (some (Value.builtin "NoneType.__hash__") == some Value.none)=true then _ else _) Q E s
 rw[if_neg (by rw[beq_builtin_none];exact Bool.false_ne_true)]
 refine wpAny_bind (wpAny_specialOf (typeIs_none s) F.slot_NoneType_hash.lookup ?_)
 show wpAny _ _ (callSpecialIfBoundUnlessNone? .none "__hash__" _ >>= _) Q E s
 refine wpAny_bind (wpAny_callSpecialIfBoundUnlessNone?_slot (typeIs_none s) F.slot_NoneType_hash
  (wpAny_call_entry F.slot_NoneType_hash (typeIs_none s) F.entry_NoneType_hash
   (show wpAny _ _ (do ret (← mkInt 0xFCA86420)) _ _ s from wpAny_ret_mkInt ?_) (F.args_NoneType_hash_1 _)))
 exact wpAny_pure h
end
def OdD (od:Obj) (ks:List V):Prop:=od.ExactDict∧∃ es ep,od.data=.dict es ep∧Paired RelV ks (es.toList.map (·.key))
def hOd (d:Addr) (od:Obj):HO:=.frz od (.ext fun h=>∃ o,h.get? d=some o)
def ItO (d:Addr) (od:Obj) (ks:List V):It :=
 ⟨fun i H=>H d=some (hOd d od)∧i<ks.length,fun i H x H'=>H'=H∧ks[i]?=some x,fun i H=>H d=some (hOd d od)∧ks.length≤i⟩
theorem ZB {P:Program}{w:World}{K:PySem.W.Frag}{tg:Expr}{it d:Addr}{od:Obj}{ks:List V}{es:Array DictEntry}{ep:Nat}(hed:od.ExactDict) (hda:od.data=.dict es ep) (hp:Paired RelV ks (es.toList.map (·.key))) :
  Turn P w K tg (ItO d od ks) [it] it (fun i h=>KIt h it d i es.size ep) where
 mem:=by simp
 obj:=fun i h o1 b hb=>by
  rw[List.mem_singleton.mp hb]
  exact⟨_,o1,fun v z=>by
   have z':Data.fields _=Data.cell v:=z
   cases z'⟩
 keep:=fun i h h' st k=>k it (by simp) _ st
 item:=by
  intro X hP hw hK hc i pins s σ H E I hf st hg
  subst hP hw hK
  obtain⟨f0,f1,f2,f3,f4,f5⟩:=hf it (by simp)
  have d3:=(I.hok d _ hg.1).1
  have hx:ks[i]?=some (ks[i]'hg.2):=List.getElem?_eq_getElem hg.2
  obtain⟨u,hu,ru⟩:=Vals.get hp hx
  rw[List.getElem?_map] at hu
  obtain⟨e,he,rfl⟩:=Option.map_eq_some_iff.mp hu
  rw[Array.getElem?_toList] at he
  refine vz st ⟨od,d3,hed,hda⟩ he fun h' st4 sb=>?_
  exact⟨_,rfl,YU (s:={ s with heap:=h' }) (n := "dict_keyiterator") st4 rfl rfl (by decide) ⟨ks[i]'hg.2,H,I.turned (t':=s.toks) (fun b o hb q=>sb.extBut b o hb q) f0 f1 f3 f4 f5,ru,⟨rfl,hx⟩,st4,fun b hb=>(hf b hb).1⟩⟩
 done:=by
  intro X hP hw hK hc i pins s σ H E I hf st hg
  subst hP hw hK
  obtain⟨f0,f1,f2,f3,f4,f5⟩:=hf it (by simp)
  have d3:=(I.hok d _ hg.1).1
  have hle:ks.length=es.size:=by rw[Paired.length hp,List.length_map,Array.length_toList]
  exact uT (I.ok.hd hc) st (by have:=hg.2;omega) ⟨od,d3,hed,hda⟩ fun h' kk=>⟨rfl,I.turned (t':=s.toks) (fun b o hb q=>kk b o hb q) f0 f1 f3 f4 f5⟩
 self:=fun _ i s _ _ st h=>wpAny_pyIter_keyiter (it:=it) (d:=d) (i:=i) (n:=es.size) (ep:=ep) ⟨_,st,rfl,rfl⟩ h
def iKO (td:TE):TI:=fun σ H R=>td σ H fun x H1=>∃ (d:Addr) (od:Obj) (ks:List V),x=.ref d∧(d == sysModules)=false∧H1 d=some (hOd d od)∧OdD od ks∧R (ItO d od ks) H1
theorem Zv {X:Cx}{tg l:Expr}{td:TE}(hl:Bx (PE X l td)):Bx (PI X tg l (iKO td)):=by
 have hl:=hl.of
 refine⟨?_⟩
 intro pins s σ H R I h
 refine thn (hl pins s σ H _ I h) fun v s1 hq0=>?_
 obtain⟨x,H1,I1,rx,d,od,ks,ex,hm,e,ko,q⟩:=hq0
 subst ex
 obtain rfl:v=Value.ref d:=rx
 obtain⟨hed,es,ep,hda,hp⟩:=ko
 refine ZX ⟨od,(I1.hok d _ e).1,hed,hda⟩ hm ?_
 refine⟨_,[s1.heap.objs.size],_,_,_,rfl,I1.kept (t':=s1.toks) fun b u q=>Heap.get?_push_of_some _ q,ZB hed hda hp,Heap.get?_push_size _ rfl,fun b hb=>?_,q⟩
 rw[List.mem_singleton.mp hb]
 exact I1.fpOk (Nat.le_refl _) (I1.hok.fresh (Nat.le_refl _))
theorem UG {X:Cx}{f:Value}{r1 r2:List V→Hp→VK→Prop}(h1:xb X f r1) (h2:xb X f r2):xb X f (fun xs H Q=>r1 xs H Q∨r2 xs H Q):=fun pins s σ H xs us Q I r h=>h.elim (h1 pins s σ H xs us Q I r) (h2 pins s σ H xs us Q I r)
theorem YV {d:Addr}{od:Obj}{ks:List V}{g:TG}{tb:TS}{D:Ends}{σ:St}{H:Hp}(Pv:Nat→St→Hp→Prop) (h0:Pv 0 σ H) (hf:∀ i σ H,Pv i σ H→H d=some (hOd d od))
  (hs:∀ i x σ H,ks[i]?=some x→Pv i σ H→g x σ H fun σ2 H2=>tb { D with nx:=Pv (i+1),ct:=Pv (i+1),bk:=D.nx } σ2 H2) (hd:∀ σ H,Pv ks.length σ H→D.nx σ H) :
  ∃ W:Nat→Nat→St→Hp→Prop,(∃ m,W 0 m σ H)∧∀ i m σ H,W i m σ H →
   ((ItO d od ks).stop i H∧D.nx σ H)∨((ItO d od ks).go i H∧∃ N:St→Hp→Prop,(∀ σ' H',N σ' H'→∃ m',m'<m∧W (i+1) m' σ' H')∧∀ x H',(ItO d od ks).yld i H x H'→g x σ H' fun σ2 H2=>tb { D with nx:=N,ct:=N,bk:=D.nx } σ2 H2):=by
 refine⟨fun i m σ H=>m=ks.length-i∧i≤ks.length∧Pv i σ H,⟨_,rfl,Nat.zero_le _,h0⟩,?_⟩
 rintro i m σ H ⟨rfl,hi,p⟩
 by_cases hlt:i<ks.length
 ·refine .inr ⟨⟨hf i σ H p,hlt⟩,Pv (i+1),fun σ' H' p'=>⟨_,by omega,rfl,hlt,p'⟩,fun x H' y=>?_⟩
  obtain⟨rfl,hk⟩:=y
  exact hs i x σ _ hk p
 ·have e:i=ks.length:=by omega
  subst e
  exact .inl ⟨⟨hf _ σ H p,Nat.le_refl _⟩,hd σ H p⟩
section
variable {prog:Program}{w:World}{KK:Type} [DecidableEq KK]{knd:HeapKind prog w KK}{A:Around}{E:Value→Shared→Prop}{s:Shared}
theorem w6 {u:Value}{stored:List Value}{Q:Bool→Shared→Prop}(hu:eqIsQuiet 8 u=pure true) (hst:∀ v∈stored,∃ k' b,v=.ref b∧knd.is s.heap k' b) (h:Q false s):wpAny (model prog w) A (tableMayTell u stored) Q E s:=by
 unfold tableMayTell
 split
 ·exact wpAny_pure h
 ·rw[hu]
  refine wpAny_bind (wpAny_pure ?_)
  simp only[Bool.not_true,Bool.false_eq_true,if_false]
  refine wpAny_bind ?_
  refine wpAny_forIn_list _ (fun rest r s'=>s'=s∧r=(none,())∧∀ v∈rest,∃ k' b,v=.ref b∧knd.is s.heap k' b) _ ?_ ?_ _ _ ⟨rfl,rfl,hst⟩
  ·rintro x rest r s' ⟨rfl,rfl,hr⟩
   obtain⟨k',b,rfl,hb⟩:=hr x List.mem_cons_self
   refine wpAny_bind (knd.quiet hb ?_)
   simp only[Bool.not_true,Bool.false_eq_true,if_false]
   exact wpAny_pure ⟨rfl,rfl,fun v hv=>hr v (List.mem_cons_of_mem _ hv)⟩
  ·rintro r s' ⟨rfl,rfl,_⟩
   exact wpAny_pure h
theorem find_odd {d:Addr}{o:Obj}{es:Array DictEntry}{ep:Nat}{xs:List (KK×Addr×Value)}{u:Value}{hs:Int}{Q:Option Nat→Shared→Prop}(hk:u=.none∨(∃ i t,u=.int i t)∨∃ x t,u=.str x t) (hx:xs≠[])
  (ho:s.heap.get? d=some o) (hd:o.data=.dict es ep) (he:es.toList=xs.map (entryOfKey knd)) (his:∀ x∈xs,knd.is s.heap x.1 x.2.1) (hq:∀ x∈xs,SeqAt.EqAt A s (.ref x.2.1) u false)
  (hnone:Q none s):wpAny (model prog w) A (dictFind d u hs) Q E s:=by
 have hsz:es.size=xs.length:=size_of_entries he
 have hmem:∀ e∈es,∃ x∈xs,e=entryOfKey knd x:=by
  intro e hin
  have:e∈xs.map (entryOfKey knd):=he ▸ Array.mem_toList_iff.mpr hin
  obtain⟨x,hx,rfl⟩:=List.mem_map.mp this
  exact⟨x,hx,rfl⟩
 have hst:∀ v∈(placesWithHash es.size (fun i=>es[i]?.map (·.hash)) hs).filterMap (fun i=>es[i]?.map (·.key)),∃ k' b,v=.ref b∧knd.is s.heap k' b:=by
  intro v hv
  obtain⟨i,_,hi⟩:=List.mem_filterMap.mp hv
  cases hei:es[i]? with
  |none=>rw[hei] at hi;cases hi
  |some e =>
   rw[hei] at hi
   obtain rfl:e.key=v:=by simpa using hi
   obtain⟨x,hx,rfl⟩:=hmem e (Array.mem_of_getElem? hei)
   exact⟨x.1,x.2.1,rfl,his x hx⟩
 have nstr:(es.all fun e=>isExactStrKey e.key)=false:=by
  obtain⟨x,xs',rfl⟩:∃ x xs',xs=x::xs':=by
   cases xs with
   |nil=>exact absurd rfl hx
   |cons x xs'=>exact⟨x,xs',rfl⟩
  rw[← Array.all_toList,he]
  rfl
 have qt:eqIsQuiet 8 u=pure true:=by
  rcases hk with rfl | ⟨i,t,rfl⟩ | ⟨x,t,rfl⟩<;>rfl
 have hin:∀ x∈placesWithHash es.size (fun i=>es[i]?.map (·.hash)) hs,∃ y∈xs,es[x]?=some (entryOfKey knd y):=fun x hx=>by
  have hlt:x<es.size:=List.mem_range.mp (List.mem_filter.mp hx).1
  obtain⟨y,hy⟩:∃ y,xs[x]?=some y:=⟨xs[x]'(by rw[← hsz];exact hlt),List.getElem?_eq_getElem _⟩
  exact⟨y,List.mem_of_getElem? hy,by rw[entry_at he x,hy];rfl⟩
 have plain:wpAny (model prog w) A (dictWalkPlain d u hs es (placesWithHash es.size (fun i=>es[i]?.map (·.hash)) hs)) Q E s:=by
  unfold dictWalkPlain
  refine wpAny_bind ?_
  refine wpAny_forIn_list _ (fun rest r s'=>s'=s∧r=(none,())∧∀ v∈rest,v∈placesWithHash es.size (fun i=>es[i]?.map (·.hash)) hs) _ ?_ ?_ _ _ ⟨rfl,rfl,fun v h=>h⟩
  ·rintro x rest r s' ⟨rfl,rfl,hr⟩
   obtain⟨y,hy,ey⟩:=hin x (hr x List.mem_cons_self)
   have nx:s'=s'∧((none:Option (Option Nat)),())=(none,())∧∀ v∈rest,v∈placesWithHash es.size (fun i=>es[i]?.map (·.hash)) hs:=⟨rfl,rfl,fun v hv=>hr v (List.mem_cons_of_mem _ hv)⟩
   rw[ey]
   dsimp only
   split
   ·refine wpAny_bind (wpAny_dictEpoch ho hd (wpAny_bind (hq y hy _ _ _ _ (wpAny_bind (wpAny_dictEpoch ho hd ?_)))))
    rw[if_neg (by simp)]
    simp only[Bool.false_eq_true,if_false]
    exact wpAny_bind (wpAny_rule (wpAny_pure nx))
   ·exact wpAny_pure nx
  ·rintro r s' ⟨rfl,rfl,_⟩
   exact wpAny_pure hnone
 unfold dictFind
 refine wpAny_holding ?_
 refine wpAny_bind (wpAny_dictEntries ho hd ?_)
 dsimp only
 have nst:¬ (es.all fun e=>isExactStrKey e.key)=true:=by rw[nstr];exact Bool.false_ne_true
 generalize hP:placesWithHash es.size (fun i=>es[i]?.map (·.hash)) hs=places at *
 generalize hS:places.filterMap (fun i=>es[i]?.map (·.key))=stored at *
 rcases hk with rfl | ⟨i,t,rfl⟩ | ⟨x,t,rfl⟩
 ·(first | rw[if_neg nst] | skip)
  by_cases hcc:((Value.none::stored).all carriedByValue)=true
  ·rw[if_pos hcc];exact plain
  rw[if_neg hcc]
  by_cases hss:(stored == [Value.none])=true<;>(first | rw[if_pos hss] | rw[if_neg hss])<;>(first | refine wpAny_bind (wpAny_pure ?_) | refine wpAny_bind (w6 qt hst ?_))<;>(
   rw[if_neg (by simp)]
   refine wpAny_bind ?_
   refine wpAny_forIn_list _ (fun rest b s'=>s'=s∧b=(none,none)∧∀ v∈rest,v∈places) _ ?_ ?_ _ _ ⟨rfl,rfl,fun v h=>h⟩
   ·rintro x rest r s' ⟨rfl,rfl,hr⟩
    obtain⟨y,hy,ey⟩:=hin x (hr x List.mem_cons_self)
    have nx:s'=s'∧((none:Option (Option Nat)),(none:Option Nat))=(none,none)∧∀ v∈rest,v∈places:=⟨rfl,rfl,fun v hv=>hr v (List.mem_cons_of_mem _ hv)⟩
    rw[ey]
    dsimp only
    split
    ·refine wpAny_bind (wpAny_dictEpoch ho hd (wpAny_bind (hq y hy _ _ _ _ (wpAny_bind (wpAny_dictEpoch ho hd ?_)))))
     rw[if_neg (by simp)]
     simp only[Bool.false_eq_true,if_false]
     refine wpAny_bind (wpAny_rule ?_)
     first
      |exact wpAny_pure nx
      |(rw[if_neg (by simp)];exact wpAny_pure nx)
      |exact wpAny_bind (wpAny_pure (wpAny_pure nx))
    ·exact wpAny_pure nx
   ·rintro r s' ⟨rfl,rfl,_⟩
    exact wpAny_pure hnone)
 ·(first | rw[if_neg nst] | skip)
  by_cases hcc:((Value.int i t::stored).all carriedByValue)=true
  ·rw[if_pos hcc];exact plain
  rw[if_neg hcc]
  by_cases hss:(stored == [Value.int i t])=true<;>(first | rw[if_pos hss] | rw[if_neg hss])<;>(first | refine wpAny_bind (wpAny_pure ?_) | refine wpAny_bind (w6 qt hst ?_))<;>(
   rw[if_neg (by simp)]
   refine wpAny_bind ?_
   refine wpAny_forIn_list _ (fun rest b s'=>s'=s∧b=(none,none)∧∀ v∈rest,v∈places) _ ?_ ?_ _ _ ⟨rfl,rfl,fun v h=>h⟩
   ·rintro x rest r s' ⟨rfl,rfl,hr⟩
    obtain⟨y,hy,ey⟩:=hin x (hr x List.mem_cons_self)
    have nx:s'=s'∧((none:Option (Option Nat)),(none:Option Nat))=(none,none)∧∀ v∈rest,v∈places:=⟨rfl,rfl,fun v hv=>hr v (List.mem_cons_of_mem _ hv)⟩
    rw[ey]
    dsimp only
    split
    ·refine wpAny_bind (wpAny_dictEpoch ho hd (wpAny_bind (hq y hy _ _ _ _ (wpAny_bind (wpAny_dictEpoch ho hd ?_)))))
     rw[if_neg (by simp)]
     simp only[Bool.false_eq_true,if_false]
     refine wpAny_bind (wpAny_rule ?_)
     first
      |exact wpAny_pure nx
      |(rw[if_neg (by simp)];exact wpAny_pure nx)
      |exact wpAny_bind (wpAny_pure (wpAny_pure nx))
    ·exact wpAny_pure nx
   ·rintro r s' ⟨rfl,rfl,_⟩
    exact wpAny_pure hnone)
 ·show wpAny (model prog w) A (if (es.all fun e=>isExactStrKey e.key)=true then _ else _) Q E s
  rw[if_neg nst]
  by_cases hcc:((Value.str x t::stored).all carriedByValue)=true
  ·rw[if_pos hcc];exact plain
  rw[if_neg hcc]
  by_cases hss:(stored == [Value.str x t])=true<;>(first | rw[if_pos hss] | rw[if_neg hss])<;>(first | refine wpAny_bind (wpAny_pure ?_) | refine wpAny_bind (w6 qt hst ?_))<;>(
   rw[if_neg (by simp)]
   refine wpAny_bind ?_
   refine wpAny_forIn_list _ (fun rest b s'=>s'=s∧b=(none,none)∧∀ v∈rest,v∈places) _ ?_ ?_ _ _ ⟨rfl,rfl,fun v h=>h⟩
   ·rintro x rest r s' ⟨rfl,rfl,hr⟩
    obtain⟨y,hy,ey⟩:=hin x (hr x List.mem_cons_self)
    have nx:s'=s'∧((none:Option (Option Nat)),(none:Option Nat))=(none,none)∧∀ v∈rest,v∈places:=⟨rfl,rfl,fun v hv=>hr v (List.mem_cons_of_mem _ hv)⟩
    rw[ey]
    dsimp only
    split
    ·refine wpAny_bind (wpAny_dictEpoch ho hd (wpAny_bind (hq y hy _ _ _ _ (wpAny_bind (wpAny_dictEpoch ho hd ?_)))))
     rw[if_neg (by simp)]
     simp only[Bool.false_eq_true,if_false]
     refine wpAny_bind (wpAny_rule ?_)
     first
      |exact wpAny_pure nx
      |(rw[if_neg (by simp)];exact wpAny_pure nx)
      |exact wpAny_bind (wpAny_pure (wpAny_pure nx))
    ·exact wpAny_pure nx
   ·rintro r s' ⟨rfl,rfl,_⟩
    exact wpAny_pure hnone)
end
section
variable {X:Cx}{pins:List (Addr×Obj)}{σ:St}{H:Hp}{s:Shared}
inductive OdV:V→Prop where
 |non:OdV .non
 |int (i:Int):OdV (.int i)
 |str (x:Str):OdV (.str x)
theorem OdV.kind {y:V}{u:Value}(o:OdV y) (r:RelV y u):u=.none∨(∃ i t,u=.int i t)∨∃ x t,u=.str x t:=by
 cases o with
 |non=>exact .inl r
 |int i=>obtain⟨t,rfl⟩:=(show ∃ t,u=Value.int i t from r);exact .inr (.inl ⟨_,_,rfl⟩)
 |str x=>obtain⟨t,rfl⟩:=(show ∃ t,u=Value.str x t from r);exact .inr (.inr ⟨_,_,rfl⟩)
theorem OdV.hash {prog:Program}{w:World}{A:Around}{E:Value→Shared→Prop}{y:V}{u:Value}(o:OdV y) (r:RelV y u):∃ hs:Int,∀ {Q:Int→Shared→Prop},Q hs { s with toks:=s.toks+1 }→wpAny (model prog w) A (pyHash u) Q E s:=by
 rcases o.kind r with rfl | ⟨i,t,rfl⟩ | ⟨x,t,rfl⟩
 ·exact⟨_,fun h=>um h⟩
 ·exact⟨_,fun h=>wpAny_pyHash_int h⟩
 ·exact⟨_,fun h=>wpAny_pyHash_str h⟩
theorem OdV.eq {A:Around}{y:V}{u:Value}{l:Addr}{items:Array Value}(o:OdV y) (r:RelV y u) (hl:s.heap.IsTuple l items) (hu:A.units<cLine):SeqAt.EqAt A s (.ref l) u false:=by
 rcases o.kind r with rfl | ⟨i,t,rfl⟩ | ⟨x,t,rfl⟩
 ·exact SeqAt.EqAt.tuple_none hl hu
 ·exact SeqAt.EqAt.tuple_int i t hl hu
 ·exact SeqAt.EqAt.tuple_str x t hl hu
theorem YH:∀ {kvs:List (List Key×V)}{xs:List (List Key×Addr×Value)},KT H kvs xs→Paired (fun(p:List Key×V) (b:Addr)=>H b=some (.tup (p.1.map kV))) kvs (xs.map (·.2.1))
 |_,_,.nil=>.nil
 |_,_,.cons h t=>.cons h.2.1 (YH t)
theorem Yb:∀ xs:List (List Key×Addr×Value),Vals ((xs.map (·.2.1)).map V.ref) ((xs.map (entryOfKey (tupleKind (zx X.prog X.w)))).map (·.key))
 |[]=>.nil
 |x::xs=>.cons rfl (Yb xs)
theorem Zo {α β:Type}{f:α→β}:∀ {l:List α}{i:Nat},(l.map f).eraseIdx i=(l.eraseIdx i).map f
 |[],_=>rfl
 |_::_,0=>rfl
 |_::l,i+1=>congrArg _ (Zo (l:=l) (i:=i))
theorem Paired.erase {α β:Type}{F:α→β→Prop}:∀ {l₁:List α}{l₂:List β},Paired F l₁ l₂→∀ i,Paired F (l₁.eraseIdx i) (l₂.eraseIdx i)
 |_,_,.nil,_=>.nil
 |_,_,.cons _ t,0=>t
 |_,_,.cons h t,i+1=>.cons h (Paired.erase t i)
theorem XW {A:Around}{E:Value→Shared→Prop}{a:Addr}{kvs:List (List Key×V)}{y v:V}{u r:Value}{Q:Unit→Shared→Prop}(hu:A.units+1<cLine) (I:Inv X pins σ H s) (e:H a=some (.dT kvs)) (hk:kvs≠[]) (hl:kvs.length<sizeLine) (oy:OdV y) (ry:RelV y u) (rv:RelV v r)
  (h:∀ (s':Shared) (od:Obj) (bs:List Addr),Inv X pins σ (upd H a (hOd a od)) s'→Paired (fun(p:List Key×V) (b:Addr)=>H b=some (.tup (p.1.map kV))) kvs bs→OdD od (bs.map V.ref++[y])→(a == sysModules)=false→Q () s') :
  wpAny (model X.prog X.w) A (setItem (.ref a) u r) Q E s:=by
 obtain⟨z,hd,xs,rel,dd⟩:=uG I.hok e
 have ty:=dd.typeIs
 obtain⟨o,es,ep,ho,hc,hda,he,his,hn⟩:=dd
 have hx:xs≠[]:=fun z=>by rw[z] at rel;cases rel;exact hk rfl
 have hlx:xs.length=kvs.length:=(Paired.length rel).symm
 obtain⟨hs,hh⟩:=oy.hash (s:=s) (prog:=X.prog) (w:=X.w) (A:=A.in1) (E:=E) ry
 unfold setItem
 refine wpAny_holding ?_
 refine wpAny_bind (wpAny_sequenceKey ty (by decide) ?_)
 refine wpAny_bind (wpAny_callSpecial?_slot (name:=Str.ofString "__setitem__") ty slot_dict_setitem
  (wpAny_call_entry slot_dict_setitem ty entry_dict_setitem ?_ (args_dict_setitem _ _ _)))
 show wpAny _ _ (Builtin.Dict.notOrdered "__setitem__" ⟨[.ref a,u,r],[]⟩ >>= _) _ _ s
 refine wpAny_bind (wpAny_notOrdered_dict ty ?_)
 show wpAny _ _ (dictSet a u r >>= _) _ _ s
 refine wpAny_bind ?_
 unfold dictSet
 refine wpAny_holding ?_
 refine wpAny_bind (hh ?_)
 unfold dictSetHashed
 refine wpAny_holding ?_
 refine wpAny_bind (find_odd (s:={ s with toks:=s.toks+1 }) (oy.kind ry) hx ho hda he his (fun x hx=>?_) ?_)
 ·obtain⟨o',items,n,t1,t2,t3,_⟩:=his x hx
  exact oy.eq ry ⟨o',t1,t2,n,t3⟩ (by rw[yH];omega)
 ·refine wpAny_bind (wpAny_rule (wpAny_updateDictKeys (hz:=by have e:=size_of_entries he;omega) (s:={ s with toks:=s.toks+1 }) ho hda (wpAny_pure ⟨.none,rfl,wpAny_pure (h _ (o.mapDictKeys (·.push ⟨hs,u,r⟩)) (xs.map (·.2.1)) ?_ ?_ ?_ hd)⟩)))
  ·have g1:(s.heap.update a (Obj.mapDictKeys (·.push ⟨hs,u,r⟩))).get? a=some (o.mapDictKeys (·.push ⟨hs,u,r⟩)):=Heap.get?_update_self _ ho (Obj.isFreed_of_dict (Obj.data_mapDictKeys hda _))
   exact xS (I.tok (s.toks+1)) (by rw[e];exact True.intro) (Heap.SameBut.update ..) ⟨_,g1⟩ ⟨g1,⟨_,g1⟩,⟨_,g1⟩,fun h1 h2 ⟨o,e⟩ k=>⟨o,k o e⟩⟩
  ·exact YH rel
  ·refine⟨hc.mapDictKeys _,_,_,Obj.data_mapDictKeys hda _,?_⟩
   rw[Array.toList_push,List.map_append,he]
   exact Vals.append (Yb (X:=X) xs) (.cons ry .nil)
def Wg (td ty tv:TE):TS:=fun D σ H=>tv σ H fun v H1=>td σ H1 fun x H2=>ty σ H2 fun y H3=>∃ a,x=.ref a∧((∃ H4,DPut H3 a y v H4∧D.nx σ H4)∨(∃ kvs:List (List Key×V),H3 a=some (.dT kvs)∧kvs≠[]∧kvs.length<sizeLine∧OdV y ∧
 ∀ (od:Obj) (bs:List Addr),Paired (fun(p:List Key×V) (b:Addr)=>H3 b=some (.tup (p.1.map kV))) kvs bs→OdD od (bs.map V.ref++[y])→(a == sysModules)=false→D.nx σ (upd H3 a (hOd a od))))
theorem Zu {o i value:Expr}{td ty tv:TE}{pos pos':Pos}(hu:X.A.units+1<cLine) (ho:Bx (PE X o td)) (hi:Bx (PE X i ty)) (hv:Bx (PE X value tv)) (hs:swapsWith value (some (.Subscript o i pos')) pos.line X.env=pure false):Bx (PS X (.Assign [.Subscript o i pos'] value pos) (Wg td ty tv)):=by
 have ho:=ho.of
 have hi:=hi.of
 have hv:=hv.of
 refine⟨?_⟩
 intro pins s σ H D I h
 refine wpAny_Assign_Subscript (thn (hv pins s σ H _ I h) fun r s1 ⟨v,H1,I1,rv,q1⟩=>thn (ho pins s1 σ H1 _ I1 q1) fun u s2 ⟨x,H2,I2,rx,q2⟩=>thn (hi pins s2 σ H2 _ I2 q2) fun iv s3 hq0=>?_) hs
 obtain⟨y,H3,I3,ry,a,ex,q3⟩:=hq0
 subst ex
 obtain rfl:u=Value.ref a:=rx
 rcases q3 with⟨H4,g,q3⟩ | ⟨kvs,e,hk,hl,oy,q3⟩
 ·exact v4 hu I3 g ry rv fun s4 I4=>⟨σ,H4,I4,q3⟩
 ·exact XW hu I3 e hk hl oy ry rv fun s4 od bs I4 pb ko hm=>⟨σ,_,I4,q3 od bs pb ko hm⟩
def Yd:V→List V→Hp→VK→Prop:=fun x vs H Q=>∃ l xs y,∃ i:Nat,x=.ref l∧vs=[.int i,y]∧H l=some (.lst xs)∧i≤xs.length∧xs.length<1000∧Q .non (upd H l (.lst (xs.take i++y::xs.drop i)))
theorem YC:MtM X "list.insert" Yd:=by
 intro pins s σ H x vs v us Q I rx rv h
 obtain⟨l,xs,y,i,rfl,rfl,hH,hi,hz,q⟩:=h
 cases rx
 obtain⟨u,u2,rfl,⟨tk,rfl⟩,ru⟩:=rv.two
 obtain⟨z,its,n,r,hl,e⟩:=I.lstM hH
 have big:1000≤sizeLine:=by decide
 have l1:=r.length
 have hsz:its.toArray.size≤sizeLine:=by rw[List.size_toArray,← l1];omega
 obtain⟨m,hm⟩:∃ m:Int,m=(i:Int):=⟨_,rfl⟩
 rw[← hm]
 have hfit:¬(!Builtin.List.listFitsIndex m)=true:=by
  have:Builtin.List.listFitsIndex m=true:=by
   unfold Builtin.List.listFitsIndex
   simp
   omega
  rw[this]
  exact Bool.false_ne_true
 refine call_meets F.slot_list_insert ⟨_,e,rfl⟩ F.entry_list_insert (F.args_list_insert_3 _ _ _) (AutoSeq1.list_insert_list_int_val_1 l its.toArray n m tk u2 hfit hsz) ⟨e,?_⟩
 refine⟨.non,_,I.lset (its':=its.take i++u2::its.drop i) hH e ?_ ((r.take i).append (.cons ru (r.drop i))) ?_,rfl,q⟩
 ·have e1:(if m<0 then(m+(its.toArray.size:Int)).toNat else min m.toNat its.toArray.size)=i:=by
   rw[if_neg (by omega),List.size_toArray]
   omega
  show(its.toArray.extract 0 (if m<0 then(m+(its.toArray.size:Int)).toNat else min m.toNat its.toArray.size)).push u2++its.toArray.extract (if m<0 then(m+(its.toArray.size:Int)).toNat else min m.toNat its.toArray.size) its.toArray.size=_
  rw[e1]
  apply Array.toList_inj.mp
  simp
  rw[List.take_of_length_le (by rw[List.length_drop];exact Nat.le_refl _)]
 ·rw[List.length_append,List.length_cons,List.length_take,List.length_drop]
  omega
theorem Y5:xb X (.builtin "len") (fun xs H Q=>∃ a od ks,xs=[V.ref a]∧(a == sysModules)=false∧H a=some (hOd a od)∧OdD od ks∧ks.length<1000∧Q (.int ks.length) H):=by
 intro pins s σ H xs us Q I r h
 obtain⟨a,od,ks,rfl,hm,ha,⟨x1,es,ep,x2,x3⟩,hz,q⟩:=h
 obtain⟨u,rfl,ru⟩:=r.one
 cases ru
 have hl:es.size=ks.length:=by rw[Paired.length x3,List.length_map,Array.length_toList]
 have g:=(I.hok a _ ha).1
 refine Wt (es:=es) (ep:=ep) hm ⟨od,g,x1,x2⟩ ⟨od,g,x1.1⟩ (by omega) ?_
 rw[hl]
 exact⟨.int _,H,I.tok _,⟨_,rfl⟩,q⟩
theorem Ww {ns:LI}{its:List Value}(r:Vals (ns.map V.int) its):∀ (k:Nat) (h:k<its.length),∃ m tk,its[k]=Value.int m tk:=fun k h=>by
 have l2:=r.length
 rw[List.length_map] at l2
 have h2:k<ns.length:=by omega
 have hx:(ns.map V.int)[k]?=some (V.int ns[k]):=by rw[List.getElem?_map,List.getElem?_eq_getElem h2];rfl
 obtain⟨u,hu,ru⟩:=r.get hx
 rw[List.getElem?_eq_getElem h] at hu
 cases hu
 obtain⟨tk,e⟩:=ru
 exact⟨_,tk,e⟩
theorem VF {A:Around}{q t:Addr}{i j:Int}{ns:LI}(hq:H q=some (.tup [.int i,.int j])) (ht:H t=some (.tup (ns.map V.int))) (hn:ns.length≠2) (I:Inv X pins σ H s) (hu:A.units+2<cLine):SeqAt.EqAt A s (.ref q) (.ref t) false:=by
 have ne:q≠t:=fun z=>by
  rw[z,ht] at hq
  injection hq with hq
  injection hq with hq
  have:=congrArg List.length hq
  rw[List.length_map] at this
  exact hn this
 obtain⟨_,i1,r1,p1⟩:=(show ObjOk X.prog X.w H s.heap q (.tup [.int i,.int j]) from I.hok q _ hq)
 obtain⟨_,i2,r2,p2⟩:=(show ObjOk X.prog X.w H s.heap t (.tup (ns.map V.int)) from I.hok t _ ht)
 have l1:=r1.length
 have l2:=r2.length
 rw[List.length_map] at l2
 refine SeqAt.EqAt.of_refs ne ?_
 have at1:=Ww (ns:=[i,j]) r1
 have at2:=Ww r2
 have q:=SeqAt.RcAt.tuples (A:=A) (s:=s) (e:=fun k=>(match i1[k]?,i2[k]? with | some (.int m _),some (.int n _)=>m == n | _,_=>false)) (show s.heap.IsTuple q i1.toArray from p1) (show s.heap.IsTuple t i2.toArray from p2) (by omega) (fun k h1 h2=>by
  have g1:k<i1.length:=h1
  have g2:k<i2.length:=h2
  obtain⟨m,tk,e1⟩:=at1 k g1
  obtain⟨n,tk2,e2⟩:=at2 k g2
  have e3:i1.toArray[k]=Value.int m tk:=by simpa using e1
  have e4:i2.toArray[k]=Value.int n tk2:=by simpa using e2
  rw[e3,e4]
  simp only[List.getElem?_eq_getElem g1,List.getElem?_eq_getElem g2,e1,e2]
  exact SeqAt.EqAt.int_int m tk n tk2)
 have zz:(i1.toArray.size == i2.toArray.size)=false:=by
  simp
  rw[← l1,← l2]
  exact fun z=>hn z.symm
 rw[zz,Bool.and_false] at q
 exact q
def WY (K:PySem.W.Frag) (A:Around):R2:=fun x y H Q=>∃ (l t:Addr) (ps:List (Addr×Int×Int)) (ns:LI),x=.ref t∧y=.ref l∧SqL K H l (ps.map fun p=>V.ref p.1)∧(∀ p∈ps,H p.1=some (.tup [.int p.2.1,.int p.2.2]))∧H t=some (.tup (ns.map V.int))∧ns.length≠2∧A.units+5<cLine∧Q (.bl true) H
theorem Yn:OpR X (compareOp .NotIn) (WY X.K X.A):=by
 intro pins s σ H x y v u Q I rx ry h
 obtain⟨l,t,ps,ns,rfl,rfl,hl,hps,ht,hn,hu,q⟩:=h
 cases rx
 cases ry
 obtain⟨its,r,pl,hz⟩:=I.list hl
 obtain rfl:=wa r
 refine SeqAt.notIn_listAt (fun v=>false) pl.isList (fun w hw=>?_) ⟨.bl _,H,I,rfl,?_⟩
 ·obtain⟨p,hp,rfl⟩:=List.mem_map.mp (List.mem_toArray.mp hw)
  exact VF (hps p hp) ht hn I (by rw[yH];omega)
 ·have:((ps.map fun p=>Value.ref p.1).toArray.any fun v=>false)=false:=by simp
  rw[this]
  exact q
theorem UD {A:Around}{E:Value→Shared→Prop}{a b:Addr}{kvs:List (List Key×V)}{k:List Key}{v:V}{i:Nat}{Q:Value→Shared→Prop}(hu:A.units+1<cLine) (I:Inv X pins σ H s) (e:H a=some (.dT kvs)) (eb:H b=some (.tup (k.map kV))) (hi:kvs[i]?=some (k,v))
  (h:∀ (w':Value) (s':Shared),Inv X pins σ (upd H a (.dT (kvs.eraseIdx i))) s'→RelV v w'→Q w' s'):wpAny (model X.prog X.w) A (call (.builtin "dict.pop") [.ref a,.ref b]) Q E s:=by
 obtain⟨z,hd,xs,rel,dd⟩:=uG I.hok e
 have ty:=dd.typeIs
 obtain⟨o,es,ep,ho,hc,hda,he,his,hn⟩:=dd
 obtain⟨x,hxi,e1,e2,e3⟩:=KT.getR rel hi
 have hkey:=xm I.hok eb
 have hlx:xs.length=kvs.length:=(Paired.length rel).symm
 have hsz:es.size=xs.length:=size_of_entries he
 have hlt:i<xs.length:=(List.getElem?_eq_some_iff.mp hxi).1
 have hx:x=(k,x.2):=Prod.ext e1.symm rfl
 refine wpAny_call_entry PySem.F.slot_dict_pop ty PySem.F.entry_dict_pop ?_ (PySem.F.args_dict_pop_2 _ _)
 unfold Builtin.«dict.pop»
 refine wpAny_bind ?_
 unfold Builtin.Dict.keyAndDefault
 refine wpAny_bind (wpAny_notOrdered_dict ty ?_)
 show wpAny _ _ (pure (a,Value.ref b,none)) _ _ s
 refine wpAny_pure ?_
 have hkp:(keyPart (Value.ref b)).isSome=false:=rfl
 simp only[hkp,Bool.false_eq_true,if_false]
 refine wpAny_bind (wpAny_dictEntries ho hda (wpAny_bind (wpAny_pure ?_)))
 have hemp:es.isEmpty=false:=by rw[Array.isEmpty_eq_false_iff];intro z;rw[z] at hsz;simp at hsz;omega
 simp only[hemp,Bool.false_eq_true,if_false]
 refine wpAny_bind ?_
 unfold Builtin.Dict.takeOut
 refine wpAny_holding ?_
 refine wpAny_bind ((tupleKind (zx X.prog X.w)).pyHash (tupleKind_room_in1 hu) hkey ?_)
 refine wpAny_bind (wpAny_dictFind_heap (s:={ s with toks:=s.toks+(tupleKind (zx X.prog X.w)).draws k }) (tupleKind_room_in1 hu) hkey ho hda he his hn ?_ ?_)
 ·intro hno
  exact absurd (by rw[hxi,hx]) (hno i x.2)
 ·intro j p hj
  have hji:j=i:=idxH_unique hn hj (by rw[hxi,hx])
  subst hji
  refine wpAny_bind (wpAny_dictEntries (s:={ s with toks:=s.toks+(tupleKind (zx X.prog X.w)).draws k }) ho hda ?_)
  rw[entry_at he j,hxi]
  refine wpAny_bind (wpAny_updateDictKeys (hz:=by omega) (s:={ s with toks:=s.toks+(tupleKind (zx X.prog X.w)).draws k }) ho hda (wpAny_pure ?_))
  simp only[Option.isNone_some,Bool.false_eq_true,if_false]
  have g1:(s.heap.update a (Obj.mapDictKeys (·.eraseIdxIfInBounds j))).get? a=some (o.mapDictKeys (·.eraseIdxIfInBounds j)):=Heap.get?_update_self _ ho (Obj.isFreed_of_dict (Obj.data_mapDictKeys hda _))
  refine wpAny_bind (wpAny_letGo (wpAny_pure ⟨x.2.2,rfl,h _ _ ?_ e3⟩))
  refine xS I (by rw[e];exact True.intro) (Heap.SameBut.update ..) ⟨_,g1⟩ ⟨?_,hd,xs.eraseIdx j,?_,_,_,_,g1,hc.mapDictKeys _,Obj.data_mapDictKeys hda _,?_,?_⟩
  ·exact Nat.le_trans (List.length_eraseIdx_le ..) z
  ·refine Paired.mapP (Paired.erase rel j) fun p q hpq=>⟨hpq.1,?_,hpq.2.2⟩
   rw[upd_ne (XA hpq.2.1 e (fun z=>nomatch z))]
   exact hpq.2.1
  ·have hle:j<es.size:=by omega
   rw[Array.eraseIdxIfInBounds_eq,dif_pos hle,Array.toList_eraseIdx,he,Zo]
  ·exact(hn.sublist ((List.eraseIdx_sublist _ _).map _))
def Z1 (td ty:TE):TE:=fun σ H Q=>td σ H fun x H1=>∃ a,x=.ref a∧IsD H1 a∧ty σ H1 fun y H2=>∃ kvs b k v i,H2 a=some (.dT kvs)∧y=.ref b∧H2 b=some (.tup (k.map kV))∧kvs[i]?=some (k,v)∧Q v (upd H2 a (.dT (kvs.eraseIdx i)))
theorem wK {o e:Expr}{td ty:TE}{apos cpos:Pos}(hu:X.A.units+1<cLine) (ho:Bx (PE X o td)) (he:Bx (PE X e ty)) (m:M1 X o "pop" apos e cpos):Bx (PE X (.Call (.Attribute o "pop" apos) [e] [] cpos) (Z1 td ty)):=by
 have ho:=ho.of
 have he:=he.of
 refine⟨?_⟩
 intro pins s σ H Q I h
 refine wpAny_Call_method m.base m.few m.line PySem.F.plainAttrs_dict PySem.F.slot_dict_pop PySem.F.type_dict_pop (thn (ho pins s σ H _ I h) fun u s1 hq0=>?_)
 obtain⟨x,H1,I1,rx,a,ex,d,q1⟩:=hq0
 subst ex
 obtain rfl:u=Value.ref a:=rx
 obtain⟨t1,t2,_⟩:=wS I1 d
 refine⟨t1,t2,?_⟩
 rw[m.trees]
 refine Calls.callWith_builtin rfl (Calls.evalArgs_plain (Calls.spliced_cons (thn (he pins s1 σ H1 _ I1 q1) fun iv s2 ⟨y,H2,I2,ry,kvs,b,k,v,i,ea,ey,eb,hi,q2⟩=>Calls.spliced_nil ?_)))
 subst ey
 cases (show iv=Value.ref b from ry)
 exact UD hu I2 ea eb hi fun w' s3 I3 rw'=>⟨v,_,I3,rw',q2⟩
end
end L2
namespace K04
open PySem L2
def top (i:Nat):Stmt:=PySem.Challenge.pw_beatless_k33_papers_with_something_wrong.main.body.getD i (.Pass ⟨0,0,0,0⟩)
def inC (i j:Nat):Stmt:=inClass (top i) j
def fnT:List Fe:=[⟨53, "is_whole", "is_whole",top 5,["value"],["value"],0⟩,
 ⟨58, "copied", "copied",top 7,["value"],["value"],0⟩,
 ⟨149, "are_parents", "are_parents",top 9,["web", "parents"],["web", "parents", "hand", "parent"],0⟩,
 ⟨156, "come_to_leaders", "come_to_leaders",top 10,["web", "way"],["web", "way", "hand"],0⟩,
 ⟨163, "is_bridge", "is_bridge",top 11,["web", "way", "bridge"],["web", "way", "bridge"],0⟩,
 ⟨170, "are_bridges", "are_bridges",top 12,["web", "way", "bridges"],["web", "way", "bridges", "seen", "bridge"],0⟩,
 ⟨177, "is_grounded", "is_grounded",top 13,["web", "way"],["web", "way"],0⟩,
 ⟨184, "road_within", "road_within",top 15,["way", "hand", "neighbour"],["way", "hand", "neighbour", "down"],0⟩,
 ⟨191, "road_over", "road_over",top 16,["way", "hand", "neighbour", "bridge"],["way", "hand", "neighbour", "bridge"],0⟩,
 ⟨198, "bridges_by_leaders", "bridges_by_leaders",top 17,["way"],["way", "found", "one", "other"],0⟩,
 ⟨203, "roads_for", "roads_for",top 18,["way", "bridges", "hand", "neighbour"],["way", "bridges", "hand", "neighbour", "leaders"],0⟩,
 ⟨210, "pairs_of", "pairs_of",top 19,["web"],["web", "pairs", "one", "other"],0⟩,
 ⟨217, "are_wholes", "are_wholes",top 20,["values"],["values", "value"],0⟩,
 ⟨224, "has_just_pairs", "has_just_pairs",top 21,["paper", "pairs"],["paper", "pairs", "key"],0⟩,
 ⟨231, "holds", "holds",top 22,["web", "way", "paper"],["web", "way", "paper", "pairs", "bridges", "hand", "neighbour", "road"],0⟩,
 ⟨238, "are_hands", "are_hands",top 26,["hands"],["hands", "ahead", "hand"],0⟩,
 ⟨245, "is_line", "is_line",top 27,["line", "hands"],["line", "hands"],0⟩,
 ⟨252, "are_lines", "are_lines",top 28,["lines", "hands"],["lines", "hands", "seen", "line"],0⟩,
 ⟨259, "near_by_hand", "near_by_hand",top 29,["hands", "lines"],["hands", "lines", "near", "hand", "one", "other"],0⟩,
 ⟨336, "_law_cell_at", "_law_cell_at",top 32,["_law_script", "_law_k"],["_law_script", "_law_k"],0⟩,
 ⟨343, "_law_draws", "_law_draws",top 33,["_law_cell", "_law_many"],["_law_cell", "_law_many", "_law_found", "_law_rest", "_law_number", "_law_k", "_law_mixed"],0⟩,
 ⟨350, "_law_take", "_law_take",top 34,["_law_xs", "_law_size"],["_law_xs", "_law_size"],0⟩,
 ⟨355, "_law_hands", "_law_hands",top 35,["_law_xs", "_law_most"],["_law_xs", "_law_most", "_law_hand", "_law_found", "_law_k"],0⟩,
 ⟨362, "_law_lines", "_law_lines",top 36,["_law_xs", "_law_hands_here"],["_law_xs", "_law_hands_here", "_law_way", "_law_found", "_law_j", "_law_k", "_law_near_here", "_law_draw", "_law_at"],0⟩,
 ⟨369, "_law_web_drawn", "_law_web_drawn",top 37,["_law_xs"],["_law_xs", "_law_most", "_law_hands_here", "_law_lines_here"],0⟩,
 ⟨374, "_law_near", "_law_near",top 38,["_law_lines_here", "_law_hand"],["_law_lines_here", "_law_hand", "_law_found"],0⟩,
 ⟨381, "_law_up", "_law_up",top 39,["_law_parents", "_law_hand"],["_law_parents", "_law_hand", "_law_found"],0⟩,
 ⟨388, "_law_both", "_law_both",top 40,["_law_parents", "_law_one", "_law_other"],["_law_parents", "_law_one", "_law_other"],0⟩,
 ⟨393, "_law_drawn_way", "_law_drawn_way",top 41,["_law_xs", "_law_hands_here", "_law_lines_here"],["_law_xs", "_law_hands_here", "_law_lines_here", "_law_parents", "_law_left", "_law_hand", "_law_near_here", "_law_bridges", "_law_joined", "_law_line", "_law_both_here", "_law_at"],0⟩,
 ⟨400, "_law_roads", "_law_roads",top 42,["_law_parents", "_law_bridges", "_law_hand", "_law_other"],["_law_parents", "_law_bridges", "_law_hand", "_law_other", "_law_up_here", "_law_down", "_law_found", "_law_one", "_law_two", "_law_near_here", "_law_far"],0⟩,
 ⟨405, "_law_pairs", "_law_pairs",top 43,["_law_hands_here", "_law_lines_here"],["_law_hands_here", "_law_lines_here", "_law_found", "_law_hand"],0⟩,
 ⟨410, "_law_otherwise", "_law_otherwise",top 44,["_law_xs", "_law_hands_here", "_law_pairs_here", "_law_paper", "_law_parents", "_law_bridges"],["_law_xs", "_law_hands_here", "_law_pairs_here", "_law_paper", "_law_parents", "_law_bridges", "_law_found", "_law_way", "_law_pair", "_law_road", "_law_hand", "_law_at", "_law_some", "_law_less", "_law_more"],0⟩,
 ⟨415, "_law_is_list", "_law_is_list",top 45,["_law_thing"],["_law_thing"],0⟩,
 ⟨420, "_law_due", "_law_due",top 46,["_law_pairs_here", "_law_paper", "_law_parents", "_law_bridges"],["_law_pairs_here", "_law_paper", "_law_parents", "_law_bridges", "_law_hand", "_law_other", "_law_road"],0⟩,
 ⟨425, "law", "law",top 47,["_law_script"],["_law_script", "_law_xs", "_law_hands_here", "_law_lines_here", "_law_web", "_law_parents", "_law_bridges", "_law_way", "_law_pairs_here", "_law_paper", "_law_cell", "_law_other", "_law_found"],0⟩,
 ⟨72, "__init__", "Way.__init__",inC 8 0,["self", "parents", "bridges"],["self", "parents", "bridges"],138⟩,
 ⟨79, "parent_of", "Way.parent_of",inC 8 1,["self", "hand"],["self", "hand", "each", "parent"],138⟩,
 ⟨86, "all_parents", "Way.all_parents",inC 8 2,["self"],["self"],138⟩,
 ⟨93, "all_bridges", "Way.all_bridges",inC 8 3,["self"],["self"],138⟩,
 ⟨100, "path_up", "Way.path_up",inC 8 4,["self", "hand"],["self", "hand", "path", "above"],138⟩,
 ⟨107, "leader", "Way.leader",inC 8 5,["self", "hand"],["self", "hand"],138⟩,
 ⟨273, "__init__", "Web.__init__",inC 30 0,["self", "hands", "lines"],["self", "hands", "lines"],325⟩,
 ⟨280, "hands", "Web.hands",inC 30 1,["self"],["self"],325⟩,
 ⟨287, "lines", "Web.lines",inC 30 2,["self"],["self"],325⟩,
 ⟨294, "has_hand", "Web.has_hand",inC 30 3,["self", "hand"],["self", "hand"],325⟩,
 ⟨301, "has_line", "Web.has_line",inC 30 4,["self", "one", "other"],["self", "one", "other"],325⟩]
def tbT:Tab:={ f:=fnT,c:=[⟨138, "Way",72,["own_parents", "own_bridges"]⟩,⟨325, "Web",273,["own_hands", "own_lines", "near"]⟩],b:=["len", "int", "range", "isinstance", "list", "dict", "sorted", "str", "bool", "tuple", "reversed", "ValueError"],k:=[(.type "int",.type "int",true),(.type "int",.type "bool",false),(.type "list",.type "list",true),(.type "tuple",.type "tuple",true),(.type "tuple",.type "list",false),(.type "dict",.type "list",false),(.type "dict",.type "tuple",false),(.type "dict",.type "dict",true),(.type "int",.type "list",false),(.type "int",.type "tuple",false),(.type "int",.type "dict",false),(.type "NoneType",.type "list",false),(.type "NoneType",.type "tuple",false),(.type "NoneType",.type "dict",false),(.type "NoneType",.type "int",false),(.type "str",.type "int",false),(.ref 138,.ref 138,true),(.type "bool",.type "bool",true),(.type "list",.type "dict",false),(.type "tuple",.type "dict",false),(.type "str",.type "dict",false),(.type "bool",.type "dict",false),(.type "str",.type "tuple",false),(.type "tuple",.type "int",false),(.type "bool",.type "list",false),(.type "bool",.type "int",true),(.type "str",.type "list",false),(.type "dict",.type "int",false),(.type "list",.type "int",false),(.type "list",.type "tuple",false),(.type "tuple",.type "bool",false),(.type "str",.type "bool",false),(.type "NoneType",.type "bool",false),(.type "dict",.type "bool",false),(.type "list",.type "bool",false)],m:=[("MOST_HANDS",.int 12 479),("LAST_HAND",.int 99 481)],t:=[],x:=[],y:=[],u:=[] }
theorem scA:fnT.all scB=true:=by decide +kernel
theorem scp (i:Nat){a c:Addr}{n q:Str}{s:Stmt}{ps N:List Str}(hi:fnT[i]?=some ⟨a,n,q,s,ps,N,c⟩:=by rfl):FnScope N ps (defScope s):=zbE (yT scA hi)
abbrev Ad:=Unit
abbrev Txt (w:World) (K:PySem.W.Frag) (mg:Str→Option Value) (_:Ad):Prop:=Txt0 tbT K mg
structure Hs (hs:LI):Prop where
 l1:1≤hs.length
 l12:hs.length≤12
 up:hs.Pairwise (· < ·)
 lo:∀ h∈hs,0≤h
 hi:∀ h∈hs,h≤99
structure Ls (hs:LI) (ls:LP):Prop where
 nd:ls.Nodup
 ok:∀ p∈ls,p.1∈hs∧p.2∈hs∧p.1<p.2
 le:ls.length≤66
def Adj (ls:LP) (x y:Int):Prop:=(x,y)∈ls∨(y,x)∈ls
theorem Xg {as:LI}(h:as.Pairwise (· < ·)):as.Nodup:=h.imp fun {a b} z=>by omega
theorem wI:∀ {as bs:LI},as.Nodup→(∀ x∈as,x∈bs)→as.length≤bs.length
 |[],_,_,_=>Nat.zero_le _
 |a::as,bs,hn,hs=>by
  rw[List.nodup_cons] at hn
  have ha:=hs a List.mem_cons_self
  have ih:=wI (as:=as) (bs:=bs.erase a) hn.2 fun x hx=>by
   have ne:x≠a:=fun z=>hn.1 (by rw[← z];exact hx)
   exact(List.mem_erase_of_ne ne).mpr (hs x (List.mem_cons_of_mem _ hx))
  rw[List.length_erase_of_mem ha] at ih
  have:=List.length_pos_of_mem ha
  rw[List.length_cons];omega
def nbs (ls:LP) (h:Int):LI:=ls.flatMap fun p=>(if p.1=h then[p.2] else[])++if p.2=h then[p.1] else[]
theorem mem_nbs {ls:LP}{h x:Int}:x∈nbs ls h↔Adj ls h x:=by
 unfold nbs Adj
 rw[List.mem_flatMap]
 constructor
 ·rintro⟨⟨u,v⟩,hp,hx⟩
  dsimp only at hx
  rw[List.mem_append] at hx
  rcases hx with hx | hx
  ·split at hx
   ·rename_i e;subst e
    rw[List.mem_singleton] at hx;subst hx;exact .inl hp
   ·cases hx
  ·split at hx
   ·rename_i e;subst e
    rw[List.mem_singleton] at hx;subst hx;exact .inr hp
   ·cases hx
 ·rintro(h1 | h1)
  ·exact⟨_,h1,by simp⟩
  ·exact⟨_,h1,by simp⟩
theorem YB {h:Int}:∀ {ls:LP},(nbs ls h).length≤2*ls.length
 |[]=>Nat.le_refl _
 |p::ls=>by
  have ih:=YB (h:=h) (ls:=ls)
  unfold nbs at ih ⊢
  rw[List.flatMap_cons,List.length_append,List.length_append,List.length_cons]
  have h1:(if p.1=h then[p.2] else[]).length≤1:=by split<;>simp
  have h2:(if p.2=h then[p.1] else[]).length≤1:=by split<;>simp
  omega
theorem XC {ls:LP}{p:Int×Int}{h:Int}:nbs (ls++[p]) h=nbs ls h++((if p.1=h then[p.2] else[])++if p.2=h then[p.1] else[]):=by
 unfold nbs
 rw[List.flatMap_append,List.flatMap_cons,List.flatMap_nil,List.append_nil]
theorem XB {ls:LP}{p:Int×Int}{i:Nat}{h:Int}(e:ls[i]?=some p):nbs (ls.take (i+1)) h=nbs (ls.take i) h++((if p.1=h then[p.2] else[])++if p.2=h then[p.1] else[]):=by
 rw[List.take_add_one,e]
 exact XC
def LnAt (H:Hp) (rs:List V) (ls:LP):Prop:=rs.length=ls.length∧∀ (i:Nat) r p,rs[i]?=some r→ls[i]?=some p→∃ q,r=.ref q∧H q=some (.tup [.int p.1,.int p.2])
theorem LnAt.same {H H':Hp}{rs:List V}{ls:LP}(h:LnAt H rs ls) (s:Same H H'):LnAt H' rs ls:=⟨h.1,fun i r p h1 h2=>by
 obtain⟨q,e,t⟩:=h.2 i r p h1 h2
 exact⟨q,e,s _ _ t⟩⟩
theorem LnAt.get {H:Hp}{rs:List V}{ls:LP}(h:LnAt H rs ls){i:Nat}{r:V}(e:rs[i]?=some r):∃ p q,ls[i]?=some p∧r=.ref q∧H q=some (.tup [.int p.1,.int p.2]):=by
 have hi:i<ls.length:=by rw[← h.1];exact(List.getElem?_eq_some_iff.mp e).1
 have hp:ls[i]?=some ls[i]:=by simp[hi]
 obtain⟨q,e1,e2⟩:=h.2 i r _ e hp
 exact⟨_,q,hp,e1,e2⟩
theorem xP {x:Int}:∀ {ns:LI},inV (.int x) (ns.map V.int)=decide (x∈ns)
 |[]=>by simp[inV]
 |n::ns=>by
  have ih:=xP (x:=x) (ns:=ns)
  unfold inV at ih ⊢
  rw[List.map_cons,List.any_cons,ih]
  show((n == x)||decide (x∈ns))=decide (x∈n::ns)
  by_cases e:n=x
  ·simp[e]
  ·have e':¬ x=n:=fun z=>e z.symm
   simp[e,e']
theorem xq (ns:LI):(ns.map V.int).all wC=true:=by
 rw[List.all_eq_true]
 intro v hv
 obtain⟨x,_,rfl⟩:=List.mem_map.mp hv
 rfl
section
variable {P:Program}{w:World}{K:PySem.W.Frag}{mg:Str→Option Value}{base:Heap}{a:Ad}
def vc:Sp:=fun vs H Q _=>∃ i:Int,vs=[.int i]∧Q (.bl true) H
theorem vi (T:Txt w K mg a):FnOk P w K mg base CX0 1 53 (dK K 53) ["value"] vc:=by
 refine(T.fn 0 rfl).ok (scp 0 rfl) (fun vs H Q E h=>?_) (fun cdv A outer s H vs Q E hr h=>?_)
 ·obtain⟨i,rfl,_⟩:=h
  rfl
 ·obtain⟨i,rfl,k⟩:=h
  refine⟨_,(yi (xg (Zd (yE zM (by rfl) (T.n 3 rfl) zq (xV (pv 0) (xV (wQ (T.n 1 rfl) Zr) yr))) (Yj (Wk (yE zM (by rfl) (T.n 3 rfl) zq (xV (pv 0) (xV (wQ (T.n 8 rfl) wD) yr)))))))),?_⟩
  refine⟨_,rfl,_,_,_,_,_,rfl,rfl,.int i,(T.k 0 rfl),_,rfl,xn ?_⟩
  exact⟨_,rfl,_,_,_,_,_,rfl,rfl,.int i,(T.k 1 rfl),_,rfl,k⟩
def Z5:Sp:=fun vs H Q _=>∃ (h:Addr) (hs:LI),vs=[.ref h]∧H h=some (.lst (hs.map V.int))∧Hs hs∧Q (.bl true) H
theorem Xx (T:Txt w K mg a):FnOk P w K mg base CX0 2 238 (dK K 238) ["hands"] Z5:=by
 have c_is_whole:Callee P w K mg base "is_whole" 53 (dK K 53) ["value"] 1 vc:=⟨vi T,(T.g 0 rfl),(T.fn 0 rfl).kp,(T.bi 0 rfl)⟩
 refine(T.fn 15 rfl).ok (scp 15 rfl) (fun vs H Q E h=>?_) (fun cdv A outer s H vs Q E hr h=>?_)
 ·obtain⟨h,hs,rfl,_⟩:=h
  rfl
 ·obtain⟨h,hs,rfl,hh,W,k⟩:=h
  have w1:=W.l1
  have w12:=W.l12
  refine⟨_,(zS (ve (PW.pt (vJ (xz (xy (yE zM (by rfl) (T.n 3 rfl) zq (xV (pv 0) (xV (wQ (T.n 4 rfl) bt_list) yr))))) (vJ (xN uw (yE zw (by rfl) (T.n 0 rfl) yh (xV (pv 0) yr)) xA (zC _)) (wP (xN uy (yE zw (by rfl) (T.n 0 rfl) yh (xV (pv 0) yr)) (ut (v:=.int 12) rfl (T.gg 0 rfl) ⟨_,rfl⟩) (zC _))))))
    (yi (xg wH))
    yX)
   (zS (vK (i:=1) (scp 15 rfl).nd rfl (Or.inl rfl) (Uc yN xA))
   (zS (vL PassesOwn.never rfl (wn (pv 0)) (xO (i:=2) (scp 15 rfl).nd rfl (Or.inl rfl))
    (zS (ve (PW.pt (vJ (xz (xy (Wm c_is_whole hr.m (xV (pv 2) yr)))) (vJ (xN zac (pv 2) (pv 1) (zC _)) (wP (xN uy (pv 2) (ut (v:=.int 99) rfl (T.gg 1 rfl) ⟨_,rfl⟩) (zC _))))))
     (yi (xg wH))
     yX)
    (yi (vK (i:=1) (scp 15 rfl).nd rfl (Or.inl rfl) (pv 2)))))
   (yi (xg wH))))),?_⟩
  refine⟨_,rfl,_,_,_,_,_,rfl,rfl,.lst hh,(T.k 2 rfl),_,rfl,iteN rfl ?_⟩
  refine⟨_,rfl,h,_,rfl,.inl (SqL.of hh),_,_,rfl,rfl,_,rfl,iteN (decide_eq_false (by rw[List.length_map];omega)) ?_⟩
  refine⟨_,rfl,h,_,rfl,.inl (SqL.of hh),_,_,rfl,rfl,_,rfl,iteN (decide_eq_false (by rw[List.length_map];omega)) ?_⟩
  refine⟨1,rfl,_,rfl,h,rfl,⟨_,SqL.of hh⟩,?_⟩
  refine for_list (K:=K) (a:=h) (xs:=hs.map V.int) (fun i σ H'=>H'=H∧∃ (m:Int) (o:Option V),σ=[some (.ref h),some (.int m),o]∧-1≤m∧∀ j x,i≤j→hs[j]?=some x→m<x) ?_ ?_ ?_ ?_
  ·refine⟨rfl,-1,none,rfl,Int.le_refl _,fun j x _ hx=>?_⟩
   have:=W.lo x (List.mem_of_getElem? hx)
   omega
  ·rintro i σ H' _ ⟨rfl,_⟩
   exact SqL.of hh
  ·rintro i x σ H' hi ⟨rfl,m,o,rfl,hm,hall⟩
   rw[List.getElem?_map] at hi
   obtain⟨y,hy,rfl⟩:=Option.map_eq_some_iff.mp hi
   have y1:=hall i y (Nat.le_refl _) hy
   have y2:=W.hi y (List.mem_of_getElem? hy)
   refine⟨_,rfl,y,rfl,_,rfl,iteN rfl ?_⟩
   refine⟨_,rfl,_,rfl,_,_,rfl,rfl,_,rfl,iteN (decide_eq_false (by omega)) ?_⟩
   refine⟨_,rfl,_,_,rfl,rfl,_,rfl,iteN (decide_eq_false (by omega)) ?_⟩
   refine⟨_,rfl,rfl,y,_,rfl,by omega,fun j z hj hz=>?_⟩
   have hlt:i<j:=by omega
   obtain⟨b1,e1⟩:=List.getElem?_eq_some_iff.mp hy
   obtain⟨b2,e2⟩:=List.getElem?_eq_some_iff.mp hz
   rw[← e1,← e2]
   exact List.pairwise_iff_getElem.mp W.up i j b1 b2 hlt
  ·rintro σ H' ⟨rfl,_⟩
   exact k
def spLine:Sp:=fun vs H Q _=>∃ (q h:Addr) (hs:LI) (p:Int×Int),vs=[.ref q,.ref h]∧H q=some (.tup [.int p.1,.int p.2])∧H h=some (.lst (hs.map V.int))∧(p.1∈hs∧p.2∈hs∧p.1<p.2)∧Q (.bl true) H
theorem Vi (T:Txt w K mg a):FnOk P w K mg base CX0 2 245 (dK K 245) ["line", "hands"] spLine:=by
 have c_is_whole:Callee P w K mg base "is_whole" 53 (dK K 53) ["value"] 1 vc:=⟨vi T,(T.g 0 rfl),(T.fn 0 rfl).kp,(T.bi 0 rfl)⟩
 refine(T.fn 16 rfl).ok (scp 16 rfl) (fun vs H Q E h=>?_) (fun cdv A outer s H vs Q E hr h=>?_)
 ·obtain⟨q,h,hs,p,rfl,_⟩:=h
  rfl
 ·obtain⟨q,h,hs,⟨x,y⟩,rfl,hq,hh,⟨h1,h2,h3⟩,k⟩:=h
  dsimp only at hq h1 h2 h3
  refine⟨_,(zS (ve (PW.pt (vJ (xz (xy (yE zM (by rfl) (T.n 3 rfl) zq (xV (pv 0) (xV (wQ (T.n 9 rfl) xa) yr))))) (wP (xN uv (yE zw (by rfl) (T.n 0 rfl) yh (xV (pv 0) yr)) xA (zC _)))))
    (yi (xg wH))
    yX)
   (zS (ve (PW.pt (vJ (xz (xy (Wm c_is_whole hr.m (yY (ur yc (pv 0) xA (fun _ _=>rfl)) yr)))) (wP (xz (xy (Wm c_is_whole hr.m (yY (ur yc (pv 0) xA (fun _ _=>rfl)) yr)))))))
    (yi (xg wH))
    yX)
   (yi (xg (Zd (vg wp (ur yc (pv 0) xA (fun _ _=>rfl)) (pv 1) (by with_unfolding_all rfl)) (Zd (vg wp (ur yc (pv 0) xA (fun _ _=>rfl)) (pv 1) (by with_unfolding_all rfl)) (Yj (vg uw (ur yc (pv 0) xA (fun _ _=>rfl)) (ur yc (pv 0) xA (fun _ _=>rfl)) (zC _))))))))),?_⟩
  refine⟨_,rfl,_,_,_,_,_,rfl,rfl,.tup hq,(T.k 3 rfl),_,rfl,iteN rfl ?_⟩
  refine⟨_,rfl,q,_,rfl,.inr (SqT.of hq),rfl,_,rfl,iteN rfl ?_⟩
  refine⟨_,rfl,q,_,0,_,rfl,rfl,SqT.of hq,rfl,x,rfl,_,rfl,iteN rfl ?_⟩
  refine⟨_,rfl,q,_,1,_,rfl,rfl,SqT.of hq,rfl,y,rfl,_,rfl,iteN rfl ?_⟩
  refine⟨_,rfl,q,_,0,_,rfl,rfl,SqT.of hq,rfl,_,rfl,h,_,rfl,.inl (SqL.of hh),rfl,xq hs,_,rfl,iteB (by show inV (.int x) _=true;rw[xP];exact decide_eq_true h1) ?_⟩
  refine⟨_,rfl,q,_,1,_,rfl,rfl,SqT.of hq,rfl,_,rfl,h,_,rfl,.inl (SqL.of hh),rfl,xq hs,_,rfl,iteB (by show inV (.int y) _=true;rw[xP];exact decide_eq_true h2) ?_⟩
  refine⟨_,rfl,q,_,0,_,rfl,rfl,SqT.of hq,rfl,_,rfl,q,_,1,_,rfl,rfl,SqT.of hq,rfl,_,_,rfl,rfl,?_⟩
  show Q (.bl (decide (x<y))) H
  rw[decide_eq_true h3]
  exact k
section
variable {κ:Type} [DecidableEq κ]
theorem xE {kvs:List (κ×V)}{k:κ}:(yM kvs k).isSome=decide (k∈kvs.map (·.1)):=by
 rw[← yD]
 by_cases h:k∈kvs.map (·.1)
 ·rw[decide_eq_true h,List.any_eq_true]
  obtain⟨p,hp,rfl⟩:=List.mem_map.mp h
  exact⟨p,hp,decide_eq_true rfl⟩
 ·rw[decide_eq_false h,List.any_eq_false]
  intro p hp e
  exact h (List.mem_map.mpr ⟨p,hp,of_decide_eq_true e⟩)
theorem valV_yes {kvs:List (κ×V)}{k:κ}(h:k∈kvs.map (·.1)):(yM kvs k).isSome=true:=by rw[xE];exact decide_eq_true h
theorem wZ {kvs:List (κ×V)}{k:κ}(h:k∉kvs.map (·.1)):(yM kvs k).isSome=false:=by rw[xE];exact decide_eq_false h
theorem putK_new {kvs:List (κ×V)}{k:κ}{v:V}(h:k∉kvs.map (·.1)):putK kvs k v=kvs++[(k,v)]:=by
 unfold putK
 rw[if_neg]
 rw[yD,xE,decide_eq_true_iff]
 exact h
theorem Ye {kvs:List (κ×V)}{k:κ}{v:V}(h:k∈kvs.map (·.1)):(putK kvs k v).map (·.1)=kvs.map (·.1):=by
 unfold putK
 rw[if_pos (by rw[yD,xE,decide_eq_true_iff];exact h),List.map_map]
 refine List.map_congr_left fun p _=>?_
 show(if p.1=k then(p.1,v) else p).1=p.1
 split<;>rfl
end
theorem _root_.L2.Same.updF {p:Addr}{H H':Hp}{o:HO}(x:Same H H') (h:H p=none):Same H (L2.upd H' p o):=fun b u e=>by
 rw[upd_ne (ne_of_none e h)];exact x b u e
abbrev yb (p:Int×Int):List Key:=[Sum.inl p.1,Sum.inl p.2]
theorem yn {p q:Int×Int}(h:yb p=yb q):p=q:=by
 obtain⟨a,b⟩:=p
 obtain⟨c,d⟩:=q
 simp[yb] at h
 rw[h.1,h.2]
theorem uz {α:Type}{xs:List α}{i:Nat}{x:α}(h:xs.Nodup) (e:xs[i]?=some x):x∉xs.take i:=by
 intro m
 obtain⟨j,hj,ej⟩:=List.getElem_of_mem m
 obtain⟨hi,ei⟩:=List.getElem?_eq_some_iff.mp e
 rw[List.getElem_take] at ej
 rw[List.length_take] at hj
 have:=(List.nodup_iff_pairwise_ne.mp h)
 exact List.pairwise_iff_getElem.mp this j i (by omega) hi (by omega) (ej.trans ei.symm)
def Z4:Sp:=fun vs H Q _=>∃ (l h:Addr) (rs:List V) (hs:LI) (ls:LP),vs=[.ref l,.ref h]∧H l=some (.lst rs)∧LnAt H rs ls∧H h=some (.lst (hs.map V.int))∧Ls hs ls∧∀ H',Same H H'→Q (.bl true) H'
theorem Xw (T:Txt w K mg a):FnOk P w K mg base CX0 3 252 (dK K 252) ["lines", "hands"] Z4:=by
 have c_is_line:Callee P w K mg base "is_line" 245 (dK K 245) ["line", "hands"] 2 spLine:=⟨Vi T,(T.g 16 rfl),(T.fn 16 rfl).kp,(T.bi 16 rfl)⟩
 refine(T.fn 17 rfl).ok (scp 17 rfl) (fun vs H Q E h=>?_) (fun cdv A outer s H vs Q E hr h=>?_)
 ·obtain⟨l,h,rs,hs,ls,rfl,_⟩:=h
  rfl
 ·obtain⟨l,h,rs,hs,ls,rfl,hl,hrs,hh,L,k⟩:=h
  have l66:=L.le
  have hu:=xo hr
  refine⟨_,(zS (ve (xz (xy (yE zM (by rfl) (T.n 3 rfl) zq (xV (pv 0) (xV (wQ (T.n 4 rfl) bt_list) yr)))))
    (yi (xg wH))
    yX)
   (zS (vK (i:=2) (scp 17 rfl).nd rfl (Or.inl rfl) Zb)
   (zS (vL PassesOwn.never rfl (wn (pv 0)) (xO (i:=3) (scp 17 rfl).nd rfl (Or.inl rfl))
    (zS (ve (PW.pt (vJ (xz (xy (Wm c_is_line hr.m (xV (pv 3) (xV (pv 1) yr))))) (wP (Wi (Wn hu (pv 3) (pv 2))))))
     (yi (xg wH))
     yX)
    (yi (uq hu (pv 2) (pv 3) wH rfl))))
   (yi (xg wH))))),?_⟩
  refine⟨_,rfl,_,_,_,_,_,rfl,rfl,.lst hl,(T.k 2 rfl),_,rfl,iteN rfl ?_⟩
  refine fun d hd=>?_
  refine⟨_,rfl,l,rfl,⟨_,SqL.of (Same.new hd _ _ hl)⟩,?_⟩
  refine for_list (K:=K) (a:=l) (xs:=rs) (fun i σ H'=>∃ (kvs:List (List Key×V)) (o:Option V),σ=[some (.ref l),some (.ref h),some (.ref d),o]∧H' d=some (.dT kvs)∧kvs.map (·.1)=(ls.take i).map yb∧Same H H') ?_ ?_ ?_ ?_
  ·exact⟨[],none,rfl,upd_same,by simp,Same.new hd⟩
  ·rintro i σ H' _ ⟨kvs,o,_,_,_,sm⟩
   exact SqL.of (sm _ _ hl)
  ·rintro i x σ H' hi ⟨kvs,o,rfl,hd',hk,sm⟩
   obtain⟨p,q,hp,rfl,hq⟩:=(hrs.same sm).get hi
   have hm:p∈ls:=List.mem_of_getElem? hp
   refine⟨_,rfl,_,rfl,q,h,hs,p,rfl,hq,sm _ _ hh,L.ok p hm,_,rfl,iteN rfl ?_⟩
   have hnew:yb p∉kvs.map (·.1):=by
    rw[hk]
    intro z
    obtain⟨p',m',e'⟩:=List.mem_map.mp z
    rw[yn e'] at m'
    exact uz L.nd hp m'
   have hz:kvs.length≤1000:=by
    have:=congrArg List.length hk
    rw[List.length_map,List.length_map,List.length_take] at this
    omega
   refine⟨_,rfl,_,rfl,d,_,rfl,DGet.t (k:=yb p) hd' hq,_,rfl,iteN ?_ ?_⟩
   ·exact wZ hnew
   ·refine⟨_,rfl,_,rfl,d,_,rfl,DPut.t (k:=yb p) hd' hq (zl hz),?_⟩
    refine⟨_,_,rfl,upd_same,?_,sm.updF hd⟩
    rw[putK_new hnew,List.map_append,hk,List.take_add_one,hp,List.map_append]
    rfl
  ·rintro σ H' ⟨kvs,o,_,_,_,sm⟩
   exact k H' sm
def tab (ad:Int→Addr) (us:LI):List (Key×V):=us.map fun h=>(Sum.inl h,V.ref (ad h))
theorem Xh {ad:Int→Addr}{us:LI}:(tab ad us).map (·.1)=us.map Sum.inl:=by
 unfold tab;rw[List.map_map];rfl
theorem X9 {ad:Int→Addr}{x:Int}:∀ {us:LI},x∈us→yM (tab ad us) (Sum.inl x:Key)=some (V.ref (ad x))
 |u::us,h=>by
  show yM ((Sum.inl u,V.ref (ad u))::tab ad us) _=_
  by_cases e:u=x
  ·subst e;rw[xF rfl]
  ·rw[xH (fun z=>e (by injection z)),X9]
   rcases List.mem_cons.mp h with z | z
   ·exact absurd z.symm e
   ·exact z
theorem w8 {H:Hp}{d:Addr}{ad:Int→Addr}{us:LI}{x:Int}(e:H d=some (.dK (tab ad us))) (h:x∈us):DGet H d (V.int x) (some (V.ref (ad x))):=by
 have:=DGet.k (k:=Sum.inl x) e
 rw[X9 h] at this
 exact this
theorem uF {x:Int}{us:LI}:(Sum.inl x:Key)∈us.map (Sum.inl:Int→Key)↔x∈us:=by
 rw[List.mem_map]
 exact⟨fun⟨y,h,e⟩=>by injection e with e;exact e ▸ h,fun h=>⟨x,h,rfl⟩⟩
def UM (ad:Int→Addr) (y:Int) (p:Addr):Int→Addr:=fun x=>if x=y then p else ad x
theorem putA_at {ad:Int→Addr}{x y:Int}{p:Addr}(e:x=y):UM ad y p x=p:=if_pos e
theorem putA_ne {ad:Int→Addr}{x y:Int}{p:Addr}(e:¬ x=y):UM ad y p x=ad x:=if_neg e
structure Near (H:Hp) (d:Addr) (hs:LI) (ls:LP) (ad:Int→Addr):Prop where
 d:H d=some (.dK (tab ad hs))
 nb:∀ h∈hs,H (ad h)=some (.lst ((nbs ls h).map V.int))
theorem Near.same {H H':Hp}{d:Addr}{hs:LI}{ls:LP}{ad:Int→Addr}(n:Near H d hs ls ad) (s:Same H H'):Near H' d hs ls ad:=⟨s _ _ n.d,fun h m=>s _ _ (n.nb h m)⟩
def Wd:Sp:=fun vs H Q _=>∃ (h l:Addr) (rs:List V) (hs:LI) (ls:LP),vs=[.ref h,.ref l]∧H h=some (.lst (hs.map V.int))∧H l=some (.lst rs)∧LnAt H rs ls∧Hs hs∧Ls hs ls ∧
 ∀ (d:Addr) (ad:Int→Addr) H',Same H H'→H d=none→(∀ x∈hs,H (ad x)=none)→Near H' d hs ls ad→Q (.ref d) H'
theorem Vg (T:Txt w K mg a):FnOk P w K mg base CX0 1 259 (dK K 259) ["hands", "lines"] Wd:=by
 refine(T.fn 18 rfl).ok (scp 18 rfl) (fun vs H Q E h=>?_) (fun cdv A outer s H vs Q E hr h=>?_)
 ·obtain⟨h,l,rs,hs,ls,rfl,_⟩:=h
  rfl
 ·obtain⟨h,l,rs,hs,ls,rfl,hh,hl,hrs,W,L,k⟩:=h
  have l66:=L.le
  have l12:=W.l12
  have hu:=xo hr
  refine⟨_,(zS (vK (i:=2) (scp 18 rfl).nd rfl (Or.inl rfl) Zc)
   (zS (vL PassesOwn.never rfl (wn (pv 0)) (xO (i:=3) (scp 18 rfl).nd rfl (Or.inl rfl))
    (yi (uq hu (pv 2) (pv 3) (Wl yr) rfl)))
   (zS (vL PassesOwn.never rfl (wn (pv 1)) (Wj rfl (vf (xO (i:=4) (scp 18 rfl).nd rfl (Or.inl rfl)) (vf (xO (i:=5) (scp 18 rfl).nd rfl (Or.inl rfl)) Yh)))
    (zS (uo (Vc PySem.F.plainAttrs_list PySem.F.slot_list_append PySem.F.type_list_append zU (uu hu (pv 2) (pv 4) (fun _ _=>rfl)) (xV (pv 5) yr)))
    (yi (uo (Vc PySem.F.plainAttrs_list PySem.F.slot_list_append PySem.F.type_list_append zU (uu hu (pv 2) (pv 5) (fun _ _=>rfl)) (xV (pv 4) yr))))))
   (yi (xg (pv 2)))))),?_⟩
  refine fun d hd=>?_
  refine⟨_,rfl,h,rfl,⟨_,SqL.of (Same.new hd _ _ hh)⟩,?_⟩
  refine for_list (K:=K) (a:=h) (xs:=hs.map V.int) (fun i σ H'=>∃ (ad:Int→Addr) (o:Option V),σ=[some (.ref h),some (.ref l),some (.ref d),o,none,none]∧H' d=some (.dK (tab ad (hs.take i))) ∧
   (∀ x∈hs.take i,H' (ad x)=some (.lst [])∧H (ad x)=none)∧(∀ x∈hs.take i,∀ y∈hs.take i,ad x=ad y→x=y)∧Same H H') ?_ ?_ ?_ ?_
  ·exact⟨fun _=>0,none,rfl,upd_same,fun x hx=>by simp at hx,fun x hx=>by simp at hx,Same.new hd⟩
  ·rintro i σ H' _ ⟨ad,o,_,_,_,_,sm⟩
   exact SqL.of (sm _ _ hh)
  ·rintro i x σ H' hi ⟨ad,o,rfl,hd',hat,hinj,sm⟩
   rw[List.getElem?_map] at hi
   obtain⟨y,hy,rfl⟩:=Option.map_eq_some_iff.mp hi
   have hnew:y∉hs.take i:=uz (Xg W.up) hy
   refine⟨(by show 0≤sizeLine;decide),fun p hp=>?_⟩
   have hpd:p≠d:=fun z=>by rw[z,hd'] at hp;cases hp
   have hd2:(upd H' p (.lst [])) d=some (.dK (tab ad (hs.take i))):=by rw[upd_ne hpd.symm];exact hd'
   refine⟨_,rfl,_,rfl,d,_,rfl,DPut.k (k:=Sum.inl y) hd2 (zl ?_),?_⟩
   ·unfold tab
    rw[List.length_map,List.length_take];omega
   ·have et:hs.take (i+1)=hs.take i++[y]:=by rw[List.take_add_one,hy];rfl
    have hp0:H p=none:=sm.free hp
    have hne:∀ x∈hs.take i,ad x≠p:=fun x hx z=>by
     have:=(hat x hx).1
     rw[z,hp] at this;cases this
    have had:∀ x∈hs.take i,ad x≠d:=fun x hx z=>by
     have:=(hat x hx).1
     rw[z,hd'] at this;cases this
    refine⟨UM ad y p,_,rfl,?_,?_,?_,(sm.updF hp0).updF hd⟩
    ·rw[upd_same,K04.putK_new (by rw[Xh,uF];exact hnew),et]
     unfold tab
     rw[List.map_append]
     congr 3
     ·refine List.map_congr_left fun x hx=>?_
      rw[putA_ne (fun z=>hnew (by rw[← z];exact hx))]
     ·show _=[(Sum.inl y,V.ref (UM ad y p y))]
      rw[putA_at rfl]
    ·intro x hx
     rw[et,List.mem_append,List.mem_singleton] at hx
     by_cases e:x=y
     ·rw[putA_at e,upd_ne hpd,upd_same]
      exact⟨rfl,hp0⟩
     ·rw[putA_ne e]
      have hx:=hx.resolve_right e
      rw[upd_ne (had x hx),upd_ne (hne x hx)]
      exact hat x hx
    ·intro x hx z hz
     rw[et,List.mem_append,List.mem_singleton] at hx hz
     by_cases e1:x=y
     ·by_cases e2:z=y
      ·intro _;rw[e1,e2]
      ·rw[putA_at e1,putA_ne e2]
       intro q;exact absurd q.symm (hne z (hz.resolve_right e2))
     ·by_cases e2:z=y
      ·rw[putA_ne e1,putA_at e2]
       intro q;exact absurd q (hne x (hx.resolve_right e1))
      ·rw[putA_ne e1,putA_ne e2]
       exact hinj x (hx.resolve_right e1) z (hz.resolve_right e2)
  ·rintro σ H1 ⟨ad,o,rfl,hd',hat,hinj,sm⟩
   rw[List.length_map,List.take_length] at hd' hat hinj
   refine⟨_,rfl,l,rfl,⟨_,SqL.of (sm _ _ hl)⟩,?_⟩
   refine for_list (K:=K) (a:=l) (xs:=rs) (fun i σ H'=>∃ (o1 o2:Option V),σ=[some (.ref h),some (.ref l),some (.ref d),o,o1,o2]∧Near H' d hs (ls.take i) ad∧Same H H') ?_ ?_ ?_ ?_
   ·exact⟨none,none,rfl,⟨hd',fun x hx=>by rw[List.take_zero];exact(hat x hx).1⟩,sm⟩
   ·rintro i σ H' _ ⟨o1,o2,_,_,sm'⟩
    exact SqL.of (sm' _ _ hl)
   ·rintro i x σ H' hi ⟨o1,o2,rfl,N,sm'⟩
    obtain⟨⟨x,y⟩,q,hp,rfl,hq⟩:=(hrs.same sm').get hi
    obtain⟨hx,hy,hxy⟩:=L.ok _ (List.mem_of_getElem? hp)
    dsimp only at hq hx hy hxy
    refine⟨q,_,rfl,SqT.of hq,rfl,_,_,rfl,_,_,rfl,rfl,?_⟩
    have len:∀ z,((nbs (ls.take i) z).map V.int).length<sizeLine:=fun z=>by
     rw[List.length_map]
     have:=YB (h:=z) (ls:=ls.take i)
     rw[List.length_take] at this
     exact zl (by omega)
    have hdx:ad x≠d:=fun z=>by
     have:=N.nb x hx
     rw[z,N.d] at this;cases this
    have hdy:ad y≠d:=fun z=>by
     have:=N.nb y hy
     rw[z,N.d] at this;cases this
    have hne:ad y≠ad x:=fun z=>by have:=hinj y hy x hx z;omega
    refine⟨_,rfl,_,rfl,d,V.ref (ad x),rfl,w8 N.d hx,.inl ⟨rfl,_,SqL.of (N.nb x hx)⟩,_,rfl,_,_,_,rfl,rfl,N.nb x hx,len x,?_⟩
    have nd2:(upd H' (ad x) (.lst ((nbs (ls.take i) x).map V.int++[V.int y]))) d=some (.dK (tab ad hs)):=by rw[upd_ne hdx.symm];exact N.d
    have ny2:(upd H' (ad x) (.lst ((nbs (ls.take i) x).map V.int++[V.int y]))) (ad y)=some (.lst ((nbs (ls.take i) y).map V.int)):=by rw[upd_ne hne];exact N.nb y hy
    refine⟨_,rfl,_,rfl,d,V.ref (ad y),rfl,w8 nd2 hy,.inl ⟨rfl,_,SqL.of ny2⟩,_,rfl,_,_,_,rfl,rfl,ny2,len y,?_⟩
    refine⟨_,_,rfl,⟨?_,fun z hz=>?_⟩,(sm'.updF (hat x hx).2).updF (hat y hy).2⟩
    ·rw[upd_ne hdy.symm];exact nd2
    ·rw[XB hp]
     by_cases e2:z=y
     ·subst e2
      rw[upd_same,if_neg (by show ¬ x=z;omega),if_pos rfl,List.map_append]
      rfl
     ·rw[upd_ne (fun q=>e2 (hinj z hz y hy q))]
      by_cases e1:z=x
      ·subst e1
       rw[upd_same,if_pos rfl,if_neg (by show ¬ y=z;omega),List.map_append]
       rfl
      ·rw[upd_ne (fun q=>e1 (hinj z hz x hx q)),if_neg (fun q=>e1 q.symm),if_neg (fun q=>e2 q.symm),List.append_nil,List.append_nil]
       exact N.nb z hz
   ·rintro σ H' ⟨o1,o2,rfl,N,sm'⟩
    rw[hrs.1,List.take_length] at N
    exact⟨_,rfl,k d ad H' sm' hd (fun x hx=>(hat x hx).2) N⟩
theorem Near.ext {H H':Hp}{d p dx C:Addr}{fs:List (Str×V)}{hs:LI}{ls:LP}{ad:Int→Addr}(n:Near H d hs ls ad) (hp:H p=some (.ins C dx fs)) (s:Ext p H H'):Near H' d hs ls ad :=
 ⟨s _ _ n.d (fun z=>by rw[← z,n.d] at hp;cases hp),fun h m=>s _ _ (n.nb h m) (fun z=>by rw[← z,n.nb h m] at hp;cases hp)⟩
theorem LnAt.ext {H H':Hp}{p dx C:Addr}{fs:List (Str×V)}{rs:List V}{ls:LP}(h:LnAt H rs ls) (hp:H p=some (.ins C dx fs)) (s:Ext p H H'):LnAt H' rs ls:=⟨h.1,fun i r q h1 h2=>by
 obtain⟨t,e,ht⟩:=h.2 i r q h1 h2
 exact⟨t,e,s _ _ ht fun z=>by rw[← z,ht] at hp;cases hp⟩⟩
theorem Ext.free {l p:Addr}{H H':Hp}(k:Ext l H H') (n:p≠l) (h:H' p=none):H p=none:=by
 cases e:H p with
 |none=>rfl
 |some o=>have:=k _ _ e n;rw[h] at this;cases this
open Sco
def srt (ls:LP):LP:=ls.mergeSort fun p q=>decide (rkP p≤rkP q)
def Bd (ls:LP):Prop:=∀ p∈ls,0≤p.2∧p.2<1000
theorem ym (ls:LP):(srt ls).Perm ls:=List.mergeSort_perm _ _
theorem VT (ls:LP):(srt ls).Pairwise fun p q=>rkP p≤rkP q:=by
 have:=List.pairwise_mergeSort (le:=fun p q:Int×Int=>decide (rkP p≤rkP q)) (fun a b c h1 h2=>by simp at *;omega) (fun a b=>by simp;omega) ls
 exact this.imp fun h=>by simpa using h
theorem WT {p q:Int×Int}(bp:0≤p.2∧p.2<1000) (bq:0≤q.2∧q.2<1000) (h:rkP p=rkP q):p=q:=by
 obtain⟨a,b⟩:=p
 obtain⟨c,d⟩:=q
 unfold rkP at h
 dsimp only at *
 have:a=c:=by omega
 subst this
 rw[show b=d by omega]
theorem X7:∀ {as bs:LP},Bd as→as.Perm bs→as.Pairwise (fun p q=>rkP p≤rkP q)→bs.Pairwise (fun p q=>rkP p≤rkP q)→as=bs
 |[],bs,_,pm,_,_=>(List.nil_perm.mp pm).symm
 |x::as,[],_,pm,_,_=>absurd pm.length_eq (by simp)
 |x::as,y::bs,B,pm,u1,u2=>by
  obtain⟨a1,a2⟩:=List.pairwise_cons.mp u1
  obtain⟨b1,b2⟩:=List.pairwise_cons.mp u2
  have hy:y∈x::as:=pm.mem_iff.mpr List.mem_cons_self
  have hx:x∈y::bs:=pm.mem_iff.mp List.mem_cons_self
  have l1:rkP x≤rkP y:=by
   rcases List.mem_cons.mp hy with z | z
   ·rw[z];exact Int.le_refl _
   ·exact a1 y z
  have l2:rkP y≤rkP x:=by
   rcases List.mem_cons.mp hx with z | z
   ·rw[z];exact Int.le_refl _
   ·exact b1 x z
  have e:x=y:=WT (B x List.mem_cons_self) (B y hy) (by omega)
  subst e
  rw[X7 (fun p hp=>B p (List.mem_cons_of_mem _ hp)) (List.Perm.cons_inv pm) a2 b2]
theorem Wc {as ls:LP}(B:Bd ls) (pm:as.Perm ls) (u:as.Pairwise fun p q=>rkP p≤rkP q):as=srt ls :=
 X7 (fun p hp=>B p (pm.mem_iff.mp hp)) (pm.trans (ym ls).symm) u (VT ls)
theorem LnAt.ps {H:Hp}:∀ {rs:List V}{ls:LP},LnAt H rs ls→Bd ls→∃ ps:List PT,ps.map (fun p=>V.ref p.1)=rs∧ps.map (·.2)=ls∧PsAt H ps
 |[],[],_,_=>⟨[],rfl,rfl,fun p hp=>by cases hp⟩
 |[],_::_,h,_=>absurd h.1 (by simp)
 |_::_,[],h,_=>absurd h.1 (by simp)
 |r::rs,p::ls,h,B=>by
  obtain⟨q,rfl,hq⟩:=h.2 0 r p rfl rfl
  obtain⟨ps,e1,e2,e3⟩:=LnAt.ps (H:=H) (rs:=rs) (ls:=ls) ⟨by have:=h.1;simpa using this,fun i r p h1 h2=>h.2 (i+1) r p (by simpa using h1) (by simpa using h2)⟩ fun p hp=>B p (List.mem_cons_of_mem _ hp)
  refine⟨(q,p)::ps,by rw[List.map_cons,e1],by rw[List.map_cons,e2],fun x hx=>?_⟩
  rcases List.mem_cons.mp hx with z | z
  ·rw[z]
   exact⟨hq,B p List.mem_cons_self⟩
  ·exact e3 x z
theorem U7 {H:Hp}{qs:List PT}(h:PsAt H qs):LnAt H (qs.map fun p=>V.ref p.1) (qs.map (·.2)):=by
 refine⟨by simp,fun i r p h1 h2=>?_⟩
 rw[List.getElem?_map] at h1 h2
 obtain⟨q,e1,rfl⟩:=Option.map_eq_some_iff.mp h1
 rw[e1] at h2
 cases h2
 exact⟨q.1,rfl,(h q (List.mem_of_getElem? e1)).1⟩
theorem _root_.L2.Sco.PsAt.sub {H:Hp}{ps qs:List PT}(h:PsAt H ps) (s:∀ q∈qs,q∈ps):PsAt H qs:=fun p hp=>h p (s p hp)
theorem ul {H:Hp}{ps qs:List PT}(h:PsAt H ps) (pm:qs.Perm ps) (u:qs.Pairwise fun x y=>rkP x.2≤rkP y.2):LnAt H (qs.map fun p=>V.ref p.1) (srt (ps.map (·.2))):=by
 have e:qs.map (·.2)=srt (ps.map (·.2)):=Wc (fun p hp=>by
  obtain⟨x,hx,rfl⟩:=List.mem_map.mp hp
  exact(h x hx).2) (pm.map _) (by rw[List.pairwise_map];exact u)
 have:=U7 (h.sub fun q hq=>pm.mem_iff.mp hq)
 rw[e] at this
 exact this
theorem Ls.bd {hs:LI}{ls:LP}(W:Hs hs) (L:Ls hs ls):Bd ls:=fun p hp=>by
 have:=(L.ok p hp).2.1
 have a1:=W.lo p.2 this
 have a2:=W.hi p.2 this
 omega
structure WebAt (a:Ad) (H:Hp) (p:Addr) (hs:LI) (ls:LP) (dx oh ol d:Addr) (ad:Int→Addr):Prop where
 p:H p=some (.ins 325 dx [("own_hands",.ref oh),("own_lines",.ref ol),("near",.ref d)])
 oh:H oh=some (.lst (hs.map V.int))
 nr:Near H d hs ls ad
 ol:∃ zs,H ol=some (.lst zs)∧LnAt H zs (srt ls)
theorem WebAt.same {H H':Hp}{p dx oh ol d:Addr}{hs:LI}{ls:LP}{ad:Int→Addr}(w:WebAt a H p hs ls dx oh ol d ad) (s:Same H H'):WebAt a H' p hs ls dx oh ol d ad:=⟨s _ _ w.p,s _ _ w.oh,w.nr.same s,by obtain⟨zs,e1,e2⟩:=w.ol;exact⟨zs,s _ _ e1,e2.same s⟩⟩
def VU (a:Ad):Sp:=fun vs H Q _=>∃ (p dx h l:Addr) (rs:List V) (hs:LI) (ls:LP),vs=[.ref p,.ref h,.ref l]∧H p=some (.ins 325 dx [])∧H h=some (.lst (hs.map V.int))∧H l=some (.lst rs)∧LnAt H rs ls∧Hs hs∧Ls hs ls∧ls.length≤63 ∧
 ∀ (oh ol d:Addr) (ad:Int→Addr) H',H oh=none→H ol=none→H d=none→(∀ x∈hs,H (ad x)=none)→Ext p H H'→WebAt a H' p hs ls dx oh ol d ad→Q .non H'
theorem Ue (T:Txt w K mg a):FnOk P w K mg base CX0 4 273 (dK K 273) ["self", "hands", "lines"] (VU a):=by
 have c_are_hands:Callee P w K mg base "are_hands" 238 (dK K 238) ["hands"] 2 Z5:=⟨Xx T,(T.g 15 rfl),(T.fn 15 rfl).kp,(T.bi 15 rfl)⟩
 have c_are_lines:Callee P w K mg base "are_lines" 252 (dK K 252) ["lines", "hands"] 3 Z4:=⟨Xw T,(T.g 17 rfl),(T.fn 17 rfl).kp,(T.bi 17 rfl)⟩
 have c_near_by_hand:Callee P w K mg base "near_by_hand" 259 (dK K 259) ["hands", "lines"] 1 Wd:=⟨Vg T,(T.g 18 rfl),(T.fn 18 rfl).kp,(T.bi 18 rfl)⟩
 refine(T.fn 41 rfl).ok (scp 41 rfl) (fun vs H Q E h=>?_) (fun cdv A outer s H vs Q E hr h=>?_)
 ·obtain⟨p,dx,h,l,rs,hs,ls,rfl,_⟩:=h
  rfl
 ·obtain⟨p,dx,h,l,rs,hs,ls,rfl,hp,hh,hl,hrs,W,L,l66,k⟩:=h
  have np:∀ {b:Addr}{xs:List V},H b=some (.lst xs)→b≠p:=fun e z=>by rw[z,hp] at e;cases e
  refine⟨_,(zS (ve (xz (xy (Wm c_are_hands hr.m (xV (pv 1) yr))))
    (yi u7)
    yX)
   (zS (ve (xz (xy (Wm c_are_lines hr.m (xV (pv 2) (xV (pv 1) yr)))))
    (yi u7)
    yX)
   (zS (u8 (pv 0) (vN yp (by rfl) (T.n 4 rfl) bt_list (xV (pv 1) yr)) rfl)
   (zS (u8 (pv 0) (yE Sco.call_sortX (by rfl) (T.n 6 rfl) xr (xV (pv 2) yr)) rfl)
   (yi (u8 (pv 0) (Wm c_near_by_hand hr.m (xV (pv 1) (xV (pv 2) yr))) rfl)))))),?_⟩
  refine⟨_,rfl,h,hs,rfl,hh,W,_,rfl,iteN rfl ?_⟩
  refine⟨_,rfl,_,rfl,l,h,rs,hs,ls,rfl,hl,hrs,hh,L,fun H1 s1=>⟨_,rfl,iteN rfl ?_⟩⟩
  refine⟨_,rfl,h,_,rfl,.inl (SqL.of (s1 _ _ hh)),fun oh hoh=>?_⟩
  have ohp:oh≠p:=fun z=>by rw[z,s1 _ _ hp] at hoh;cases hoh
  refine⟨_,rfl,p,325,dx,_,rfl,(upd_ne ohp.symm).trans (s1 _ _ hp),(T.cl 1 rfl),(T.na 1 0 rfl rfl),(by show 0<1000;decide),?_⟩
  have x3:=((Ext.same (l:=p) s1).trans (Ext.new (l:=p) (o:=.lst (hs.map V.int)) hoh)).trans (Ext.at (l:=p) (o:=.ins 325 dx [("own_hands",.ref oh)]))
  obtain⟨ps,e1,e2,e3⟩:=(hrs.ext hp x3).ps (L.bd W)
  have l67:ps.length≤63:=by
   have:=congrArg List.length e2
   rw[List.length_map] at this
   omega
  refine⟨_,rfl,l,ps,rfl,by rw[e1];exact SqL.of (x3 _ _ hl (np hl)),l67,e3,fun ol qs hol pm up=>?_⟩
  have hq3:=ul e3 pm up
  rw[e2] at hq3
  generalize qs.map (fun p=>V.ref p.1)=zs at hq3 ⊢
  have olp:ol≠p:=fun z=>by rw[z,upd_same] at hol;cases hol
  refine⟨_,rfl,p,325,dx,_,rfl,(upd_ne olp.symm).trans upd_same,(T.cl 1 rfl),(T.na 1 1 rfl rfl),(by show 1<1000;decide),?_⟩
  have x35:=(Ext.new (l:=p) (o:=.lst zs) hol).trans (Ext.at (l:=p) (o:=.ins 325 dx [("own_hands",.ref oh),("own_lines",.ref ol)]))
  have x5:=x3.trans x35
  refine⟨_,rfl,_,rfl,h,l,rs,hs,ls,rfl,x5 _ _ hh (np hh),x5 _ _ hl (np hl),hrs.ext hp x5,W,L,fun d ad H6 s6 hd had N=>?_⟩
  have hp6:=s6 _ _ (upd_same (a:=p))
  refine⟨_,rfl,p,325,dx,_,rfl,hp6,(T.cl 1 rfl),(T.na 1 2 rfl rfl),(by show 2<1000;decide),?_⟩
  have nfr:∀ b,(upd (upd (upd (upd H1 oh (.lst (hs.map V.int))) p (.ins 325 dx [("own_hands",.ref oh)])) ol (.lst zs)) p (.ins 325 dx [("own_hands",.ref oh),("own_lines",.ref ol)])) b=none→H b=none:=fun b e=>x5.free (fun z=>by rw[z,upd_same] at e;cases e) e
  refine k oh ol d ad _ (s1.free hoh) (x3.free olp hol) (nfr d hd) (fun x hx=>nfr _ (had x hx)) ((x5.trans (Ext.same s6)).trans Ext.at) ⟨upd_same,?_,N.ext hp6 Ext.at,zs,?_,?_⟩
  ·rw[upd_ne ohp]
   exact s6 _ _ (x35 _ _ ((upd_ne ohp).trans upd_same) ohp)
  ·rw[upd_ne olp]
   exact s6 _ _ ((upd_ne olp).trans upd_same)
  ·exact((hq3.ext upd_same x35).same s6).ext hp6 Ext.at
theorem YA {x:Int}:∀ {ls:LP},ls.Nodup→(∀ p∈ls,p.1<p.2)→(nbs ls x).Nodup
 |[],_,_=>List.nodup_nil
 |p::ls,nd,ok=>by
  obtain⟨n1,n2⟩:=List.nodup_cons.mp nd
  have ih:=YA (x:=x) n2 fun q hq=>ok q (List.mem_cons_of_mem _ hq)
  have lt:=ok p (List.mem_cons_self ..)
  have e:nbs (p::ls) x=((if p.1=x then[p.2] else[])++if p.2=x then[p.1] else[])++nbs ls x:=by unfold nbs;rw[List.flatMap_cons]
  have no:∀ y,Adj ls x y→y∉((if p.1=x then[p.2] else[])++if p.2=x then[p.1] else[]):=by
   intro y hy hm
   have key:∀ q∈ls,q≠p:=fun q hq z=>n1 (z ▸ hq)
   rcases List.mem_append.mp hm with h | h
   ·by_cases c:p.1=x
    ·rw[if_pos c] at h
     have ey:y=p.2:=List.mem_singleton.mp h
     rcases hy with z | z
     ·exact key _ z (by rw[ey,← c])
     ·have:=ok _ (List.mem_cons_of_mem _ z)
      simp at this
      omega
    ·rw[if_neg c] at h;cases h
   ·by_cases c:p.2=x
    ·rw[if_pos c] at h
     have ey:y=p.1:=List.mem_singleton.mp h
     rcases hy with z | z
     ·have:=ok _ (List.mem_cons_of_mem _ z)
      simp at this
      omega
     ·exact key _ z (by rw[ey,← c])
    ·rw[if_neg c] at h;cases h
  rw[e,List.nodup_append]
  refine⟨?_,ih,fun a ha b hb z=>no b (mem_nbs.mp hb) (z ▸ ha)⟩
  by_cases c1:p.1=x
  ·have c2:¬ p.2=x:=by omega
   rw[if_pos c1,if_neg c2]
   simp
  ·rw[if_neg c1]
   by_cases c2:p.2=x
   ·rw[if_pos c2];simp
   ·rw[if_neg c2];simp
theorem Vl {hs:LI}{ls:LP}{x:Int}(W:Hs hs) (L:Ls hs ls):(nbs ls x).length≤12:=by
 have nd:=YA (x:=x) L.nd fun p hp=>(L.ok p hp).2.2
 have sub:∀ y∈nbs ls x,y∈hs:=fun y hy=>by
  rcases mem_nbs.mp hy with z | z
  ·exact(L.ok _ z).2.1
  ·exact(L.ok _ z).1
 have:=wI nd sub
 have:=W.l12
 omega
theorem X6:∀ {as bs:LI},as.Pairwise (· < ·)→bs.Pairwise (· < ·)→(∀ x,x∈as↔x∈bs)→as=bs
 |[],[],_,_,_=>rfl
 |[],b::bs,_,_,h=>by have:=(h b).mpr (List.mem_cons_self ..);cases this
 |a::as,[],_,_,h=>by have:=(h a).mp (List.mem_cons_self ..);cases this
 |a::as,b::bs,ha,hb,h=>by
  obtain⟨a1,a2⟩:=List.pairwise_cons.mp ha
  obtain⟨b1,b2⟩:=List.pairwise_cons.mp hb
  have e:a=b:=by
   rcases List.mem_cons.mp ((h a).mp (List.mem_cons_self ..)) with e | e
   ·exact e
   ·rcases List.mem_cons.mp ((h b).mpr (List.mem_cons_self ..)) with e' | e'
    ·exact e'.symm
    ·have:=b1 a e
     have:=a1 b e'
     omega
  subst e
  rw[X6 a2 b2 fun x=>⟨fun hx=>by
   rcases List.mem_cons.mp ((h x).mp (List.mem_cons_of_mem _ hx)) with e | e
   ·have:=a1 x hx;omega
   ·exact e,fun hx=>by
   rcases List.mem_cons.mp ((h x).mpr (List.mem_cons_of_mem _ hx)) with e | e
   ·have:=b1 x hx;omega
   ·exact e⟩]
def adB (ls:LP) (x y:Int):Bool:=decide ((x,y)∈ls)||decide ((y,x)∈ls)
theorem Y9 {ls:LP}{x y:Int}:decide (y∈nbs ls x)=adB ls x y:=by
 unfold adB
 rw[Bool.eq_iff_iff,Bool.or_eq_true,decide_eq_true_eq,decide_eq_true_eq,decide_eq_true_eq]
 exact mem_nbs
theorem Xn {hs:LI}{ls:LP}{x:Int}{ms:LI}(W:Hs hs) (L:Ls hs ls) (pm:ms.Perm (nbs ls x)) (sd:ms.Pairwise (· ≤ ·)):ms=hs.filter (adB ls x):=by
 have nd:ms.Nodup:=pm.nodup_iff.mpr (YA L.nd fun p hp=>(L.ok p hp).2.2)
 have up:ms.Pairwise (· < ·):=(sd.and (List.nodup_iff_pairwise_ne.mp nd)).imp fun h=>by
  have h1:=h.1
  have h2:=h.2
  omega
 refine X6 up (W.up.filter _) fun y=>?_
 rw[pm.mem_iff,List.mem_filter,← Y9,decide_eq_true_eq]
 refine⟨fun h=>⟨?_,h⟩,fun h=>h.2⟩
 rcases mem_nbs.mp h with z | z
 ·exact(L.ok _ z).2.1
 ·exact(L.ok _ z).1
def U3 (a:Ad):Sp:=fun vs H Q _=>∃ (p:Addr) (x:Int) (hs:LI) (ls:LP) (dx oh ol d:Addr) (ad:Int→Addr),vs=[.ref p,.int x]∧WebAt a H p hs ls dx oh ol d ad∧x∈hs∧Q (.bl true) H
theorem Yw (T:Txt w K mg a):FnOk P w K mg base CX0 2 294 (dK K 294) ["self", "hand"] (U3 a):=by
 have c_is_whole:Callee P w K mg base "is_whole" 53 (dK K 53) ["value"] 1 vc:=⟨vi T,(T.g 0 rfl),(T.fn 0 rfl).kp,(T.bi 0 rfl)⟩
 refine(T.fn 44 rfl).ok (scp 44 rfl) (fun vs H Q E h=>?_) (fun cdv A outer s H vs Q E hr h=>?_)
 ·obtain⟨p,x,hs,ls,dx,oh,ol,d,ad,rfl,_⟩:=h
  rfl
 ·obtain⟨p,x,hs,ls,dx,oh,ol,d,ad,rfl,W,hx,k⟩:=h
  have hu:=xo hr
  refine yd (zg (zi (xu (zr c_is_whole hr.m (zd (zh 1) za)) (yW (Xd (wX hu (zh 1) (yJ (zh 0) rfl))))))) ?_
  refine⟨_,rfl,x,rfl,_,rfl,xn ?_⟩
  exact⟨_,rfl,_,rfl,p,_,dx,_,_,rfl,W.p,(T.cl 1 rfl),(T.na 1 2 rfl rfl),rfl,d,some (V.ref (ad x)),rfl,w8 W.nr.d hx,k⟩
def uZ (a:Ad):Sp:=fun vs H Q _=>∃ (p:Addr) (hs:LI) (ls:LP) (dx oh ol d:Addr) (ad:Int→Addr),vs=[.ref p]∧WebAt a H p hs ls dx oh ol d ad∧∀ q,H q=none→Q (.ref q) (upd H q (.lst (hs.map V.int)))
theorem wO {p:Addr}{hs:LI}{ls:LP}{dx oh ol d:Addr}{ad:Int→Addr}{H:Hp}{Q:VK}{E:XK}(W:WebAt a H p hs ls dx oh ol d ad) (k:∀ q,H q=none→Q (.ref q) (upd H q (.lst (hs.map V.int)))):uZ a [.ref p] H Q E:=⟨p,hs,ls,dx,oh,ol,d,ad,rfl,W,k⟩
theorem vU (T:Txt w K mg a):FnOk P w K mg base CX0 1 280 (dK K 280) ["self"] (uZ a):=by
 refine(T.fn 42 rfl).ok (scp 42 rfl) (fun vs H Q E h=>?_) (fun cdv A outer s H vs Q E hr h=>?_)
 ·obtain⟨p,hs,ls,dx,oh,ol,d,ad,rfl,_⟩:=h
  rfl
 ·obtain⟨p,hs,ls,dx,oh,ol,d,ad,rfl,W,k⟩:=h
  refine yd (zg (zi (zL yp (by rfl) (T.n 4 rfl) bt_list (zk (yJ (zh 0) rfl) za)))) ?_
  exact⟨_,rfl,p,_,dx,_,_,rfl,W.p,(T.cl 1 rfl),(T.na 1 0 rfl rfl),rfl,oh,_,rfl,.inl (SqL.of W.oh),k⟩
theorem merge_app:∀ {kvs acc:List (Key×V)},((acc++kvs).map (·.1)).Nodup→mergeK acc kvs=acc++kvs
 |[],acc,_=>by simp[mergeK]
 |kv::kvs,acc,h=>by
  have hn:kv.1∉acc.map (·.1):=by
   rw[List.map_append,List.nodup_append] at h
   intro z
   exact h.2.2 _ z _ (by simp) rfl
  show mergeK (putK acc kv.1 kv.2) kvs=_
  rw[putK_new hn,merge_app (by simpa using h)]
  simp
theorem XD {kvs:List (Key×V)}(h:(kvs.map (·.1)).Nodup):mergeK [] kvs=kvs:=by
 have:=merge_app (kvs:=kvs) (acc:=[]) (by simpa using h)
 simpa using this
theorem Uz {us:LI}(h:us.Nodup):(us.map (Sum.inl:Int→Key)).Nodup:=by
 rw[List.nodup_iff_pairwise_ne,List.pairwise_map]
 exact(List.nodup_iff_pairwise_ne.mp h).imp fun {a b} n z=>n (by injection z)
theorem Vq {hs:LI}(W:Hs hs):hs.Nodup:=List.nodup_iff_pairwise_ne.mpr (W.up.imp fun {a b} h=>by omega)
theorem LnAt.snoc {H:Hp}{rs:List V}{ls:LP}{q:Addr}{p:Int×Int}(h:LnAt H rs ls) (hq:H q=some (.tup [.int p.1,.int p.2])):LnAt H (rs++[.ref q]) (ls++[p]):=by
 refine⟨by simp[h.1],fun i r p' h1 h2=>?_⟩
 have l:=h.1
 by_cases hi:i<rs.length
 ·rw[List.getElem?_append_left hi] at h1
  rw[List.getElem?_append_left (by omega)] at h2
  exact h.2 i r p' h1 h2
 ·rw[List.getElem?_append_right (by omega)] at h1
  rw[List.getElem?_append_right (by omega),← l] at h2
  obtain⟨n,hn⟩:∃ n,n=i-rs.length:=⟨_,rfl⟩
  rw[← hn] at h1 h2
  cases n with
  |zero=>cases h1;cases h2;exact⟨q,rfl,hq⟩
  |succ n=>simp at h1
theorem LnAt.updL {H:Hp}{rs zs:List V}{ls:LP}{p:Addr}{o:HO}(hp:H p=some (.lst zs)) (h:LnAt H rs ls):LnAt (L2.upd H p o) rs ls:=⟨h.1,fun n r pr e1 e2=>by
 obtain⟨q,e,t⟩:=h.2 n r pr e1 e2
 exact⟨q,e,by rw[upd_ne (XA t hp (by intro z;cases z))];exact t⟩⟩
theorem at_last {xs:List V}{v:V}:atI (xs++[v]) (-1)=some v:=by
 unfold atI ixN
 rw[if_neg (by decide),if_pos (by simp;omega)]
 simp
 have:((-1:Int)+((xs.length:Int)+1)).toNat=xs.length:=by omega
 rw[this]
 simp
def tabV (f:Int→V) (us:LI):List (Key×V):=us.map fun h=>(Sum.inl h,f h)
theorem wj {f:Int→V}{us:LI}:(tabV f us).map (·.1)=us.map Sum.inl:=by
 unfold tabV
 rw[List.map_map]
 rfl
theorem tabV_len {f:Int→V}{us:LI}:(tabV f us).length=us.length:=by
 unfold tabV
 rw[List.length_map]
theorem uj {f:Int→V}{x:Int}:∀ {us:LI},x∈us→yM (tabV f us) (Sum.inl x:Key)=some (f x)
 |u::us,h=>by
  unfold tabV yM
  rw[List.map_cons,List.find?_cons]
  by_cases e:u=x
  ·subst e;simp
  ·have:¬ ((Sum.inl u:Key)=Sum.inl x):=fun z=>e (by injection z)
   simp only[decide_eq_false this]
   have:=uj (f:=f) ((List.mem_cons.mp h).resolve_left fun z=>e z.symm)
   unfold tabV yM at this
   exact this
theorem Xj {f:Int→V}{us:LI}{x:Int}(h:x∉us):yM (tabV f us) (Sum.inl x:Key)=none:=by
 have z:=wZ (kvs:=tabV f us) (k:=(Sum.inl x:Key)) (by rw[wj,uF];exact h)
 cases hv:yM (tabV f us) (Sum.inl x:Key) with
 |none=>rfl
 |some v=>rw[hv] at z;cases z
theorem va {H:Hp}{d:Addr}{f:Int→V}{us:LI}{x:Int}(e:H d=some (.dK (tabV f us))) (h:x∈us):DGet H d (V.int x) (some (f x)):=by
 have:=DGet.k (k:=.inl x) e
 rw[uj h] at this
 exact this
theorem WI {H:Hp}{d:Addr}{f:Int→V}{us:LI}{x:Int}(e:H d=some (.dK (tabV f us))) (h:x∉us):DGet H d (V.int x) none:=by
 have:=DGet.k (k:=Sum.inl x) e
 rw[Xj h] at this
 exact this
theorem wM {f g:Int→V}{us:LI}(h:∀ x∈us,f x=g x):tabV f us=tabV g us:=List.map_congr_left fun x hx=>by rw[h x hx]
theorem Xk {f:Int→V}{us:LI}{x:Int}{v:V}(h:x∉us):putK (tabV f us) (.inl x) v=tabV (fun y=>if y=x then v else f y) (us++[x]):=by
 rw[putK_new (by rw[wj,uF];exact h)]
 unfold tabV
 rw[List.map_append]
 congr 1
 ·exact List.map_congr_left fun y hy=>by
   show _=(Sum.inl y,if y=x then v else f y)
   rw[if_neg (fun(e:y=x)=>h (by rw[← e];exact hy))]
 ·simp
theorem ZU {x:Int}{v y:V}{H H':Hp}(h:yI (Sum.inl x,v) y H H'):∃ p,H p=none∧y=.ref p∧H'=upd H p (.tup [.int x,v]):=h
def Fl (v:V):Prop:=(∃ i,v=.int i)∨v=.non
def CpV (H:Hp) (n:Nat) (v:V) (Q:V→Hp→Prop):Prop :=
 (1≤n∧Fl v∧Q v H) ∨
 (2≤n∧∃ (t:Addr) (i j:Int),v=.ref t∧H t=some (.tup [.int i,.int j])∧∀ (t':Addr) (H':Hp),H t'=none→H' t'=some (.tup [.int i,.int j])→Same H H'→Q (.ref t') H') ∨
 (2≤n∧∃ (d:Addr) (f:Int→V) (us:LI),v=.ref d∧H d=some (.dK (tabV f us))∧us.Nodup∧us.length≤12∧(∀ x∈us,Fl (f x))∧∀ (d':Addr) (H':Hp),H d'=none→H' d'=some (.dK (tabV f us))→Same H H'→Q (.ref d') H') ∨
 (3≤n∧∃ (l:Addr) (rs:List V) (ls:LP),v=.ref l∧H l=some (.lst rs)∧LnAt H rs ls∧ls.length≤200∧∀ (l':Addr) (rs':List V) (H':Hp),H l'=none→H' l'=some (.lst rs')→LnAt H' rs' ls→Same H H'→Q (.ref l') H')
def Vy (n:Nat):Sp:=fun vs H Q _=>∃ v,vs=[v]∧CpV H n v Q
theorem xl (T:Txt w K mg a):∀ n,FnOk P w K mg base CX0 (n+2) 58 (dK K 58) ["value"] (Vy n)
 |0=>⟨fun vs H Q E h=>by
   obtain⟨v,rfl,_⟩:=h
   rfl,fun A outer s H args us vs Q E _ _ _ _ h=>by
   obtain⟨v,_,h⟩:=h
   rcases h with⟨h,_⟩ | ⟨h,_⟩ | ⟨h,_⟩ | ⟨h,_⟩<;>omega⟩
 |n+1=>by
  have c_copied:Callee P w K mg base "copied" 58 (dK K 58) ["value"] (n+2) (Vy n):=⟨xl T n,(T.g 1 rfl),(T.fn 1 rfl).kp,(T.bi 1 rfl)⟩
  refine(T.fn 1 rfl).ok (scp 1 rfl) (fun vs H Q E h=>?_) (fun cdv A outer s H vs Q E hr h=>?_)
  ·obtain⟨v,rfl,_⟩:=h
   rfl
  ·obtain⟨v,rfl,h⟩:=h
   refine yd (zb (zB (zG (zj zM (by rfl) (T.n 3 rfl) zq (zd (zh 0) (zd (zZ (T.n 4 rfl) bt_list) za))))
    (zg (zi (yo rfl (N':=["each"]) (t:=1) (caps:=[]) ⟨rfl,rfl,rfl⟩ (zE (zh 0)) (fun _=>(zn (i:=0) (show(["each"]:List Str).Nodup by decide +kernel) rfl (Or.inl rfl))) (fun _=>yF) (fun _=>(zr c_copied hr.m (zd (zh 0) za))))))
    zp)
   (zb (zB (zG (zj zM (by rfl) (T.n 3 rfl) zq (zd (zh 0) (zd (zZ (T.n 9 rfl) xa) za))))
    (zg (zi (zL yZ (by rfl) (T.n 9 rfl) xa (zk (yo rfl (N':=["each"]) (t:=1) (caps:=[]) ⟨rfl,rfl,rfl⟩ (uM (zh 0)) (fun _=>(zn (i:=0) (show(["each"]:List Str).Nodup by decide +kernel) rfl (Or.inl rfl))) (fun _=>yF) (fun _=>(zr c_copied hr.m (zd (zh 0) za)))) za))))
    zp)
   (zb (zB (zG (zj zM (by rfl) (T.n 3 rfl) zq (zd (zh 0) (zd (zZ (T.n 5 rfl) xT) za))))
    (zg (zi (zL (ZO rfl) (by rfl) (T.n 5 rfl) xT (zk (ZV (yo rfl (N':=["key", "each"]) (t:=2) (caps:=[]) ⟨rfl,rfl,rfl⟩ (xC (zh 0)) (fun _=>(yk rfl (zy (zn (i:=0) (show(["key", "each"]:List Str).Nodup by decide +kernel) rfl (Or.inl rfl)) (zy (zn (i:=1) (show(["key", "each"]:List Str).Nodup by decide +kernel) rfl (Or.inl rfl)) zY)))) (fun _=>yF) (fun _=>(zJ (zd (zh 0) (zT (zr c_copied hr.m (zd (zh 1) za)) za)))))) za))))
    zp)
   (zg (zi (zh 0)))))) ?_
   rcases h with⟨_,hv,k⟩ | ⟨h2,t,i,j,rfl,ht,k⟩ | ⟨h2,d,f,us,rfl,hd,nd,l12,hf,k⟩ | ⟨h3,l,rs,ls,rfl,hl,L,l66,k⟩
   ·rcases hv with⟨i,rfl⟩ | rfl
    ·refine ZS rfl rfl (.int i) (T.k 8 rfl) (iteN rfl ?_)
     refine ZS rfl rfl (.int i) (T.k 9 rfl) (iteN rfl ?_)
     refine ZS rfl rfl (.int i) (T.k 10 rfl) (iteN rfl ?_)
     exact⟨_,rfl,k⟩
    ·refine ZS rfl rfl (.non) (T.k 11 rfl) (iteN rfl ?_)
     refine ZS rfl rfl (.non) (T.k 12 rfl) (iteN rfl ?_)
     refine ZS rfl rfl (.non) (T.k 13 rfl) (iteN rfl ?_)
     exact⟨_,rfl,k⟩
   ·refine ZS rfl rfl (.tup ht) (T.k 4 rfl) (iteN rfl ?_)
    refine ZS rfl rfl (.tup ht) (T.k 3 rfl) (xn ?_)
    refine⟨_,rfl,t,rfl,⟨_,SqT.of ht⟩,fun D hD _=>?_⟩
    refine XY (K:=K) (a:=t) (xs:=[V.int i,V.int j]) (fun m zs τ H'=>∃ (o:Option V),τ=[o]∧zs=[V.int i,V.int j].take m∧H'=upd H D (.lst zs)) ?_ ?_ ?_ ?_
    ·exact⟨none,rfl,rfl,rfl⟩
    ·rintro m zs τ H' ⟨o,_,_,rfl⟩
     exact SqT.of (by rw[upd_ne (ne_of_none ht hD)];exact ht)
    ·rintro m v zs τ H' hi ⟨o,rfl,rfl,rfl⟩
     have hv:∃ y,v=V.int y:=by
      match m,hi with
      |0,hi=>exact⟨i,by cases hi;rfl⟩
      |1,hi=>exact⟨j,by cases hi;rfl⟩
      |m+2,hi=>simp at hi
     obtain⟨y,rfl⟩:=hv
     have hml:m<2:=(List.getElem?_eq_some_iff.mp hi).1
     refine XQ ?_
     refine⟨_,rfl,_,rfl,.inl ⟨by omega,.inl ⟨y,rfl⟩,?_⟩⟩
     refine⟨upd_same,by rw[List.length_take];exact zl (by omega),some (.int y),rfl,?_,?_⟩
     ·rw[List.take_add_one,hi];rfl
     ·rw[xL]
    ·rintro zs τ H' ⟨o,rfl,rfl,rfl⟩
     refine⟨D,_,rfl,.inl ⟨SqL.of upd_same,fun t' ht'=>?_⟩⟩
     exact k t' _ ((Same.new hD).free ht') upd_same ((Same.new hD).trans (Same.new ht'))
   ·refine ZS rfl rfl (.dK hd) (T.k 5 rfl) (iteN rfl ?_)
    refine ZS rfl rfl (.dK hd) (T.k 6 rfl) (iteN rfl ?_)
    refine ZS rfl rfl (.dK hd) (T.k 7 rfl) (xn ?_)
    refine⟨_,rfl,d,_,rfl,hd,fun od S D hD _=>?_⟩
    have hDd:D≠d:=fun z=>by rw[z,upd_same] at hD;cases hD
    generalize hG1:upd H d (HO.frz od (HO.dK (tabV f us)))=G1 at *
    have hq1:G1 d=some (.frz od (.dK (tabV f us))):=by rw[← hG1];exact upd_same
    have x1:Ext d H G1:=by rw[← hG1];exact Ext.at
    refine Y2 (yl:=yI) (d:=d) (od:=od) (kvs:=tabV f us) (fun i zs τ G'=>∃ (o1 o2:Option V) (qs:List Addr),τ=[o1,o2]∧zs=qs.map V.ref∧qs.length=i∧(∀ (j:Nat) (p:Addr) (x:Int),qs[j]?=some p→us[j]?=some x→G' p=some (.tup [.int x,f x]))∧G' D=some (.lst zs)∧Same G1 G') ?_ ?_ ?_ ?_
    ·exact⟨none,none,[],rfl,rfl,rfl,fun j q x h=>by simp at h,upd_same,Same.new hD⟩
    ·rintro i zs τ G' ⟨o1,o2,qs,_,_,_,_,_,sm⟩
     exact sm _ _ hq1
    ·rintro i kv v zs τ G' G'' hkv ⟨o1,o2,qs,rfl,rfl,lq,hqs,hD',sm⟩ hy
     obtain⟨x,hx,rfl⟩:∃ x,us[i]?=some x∧kv=(Sum.inl x,f x):=by
      unfold tabV at hkv
      rw[List.getElem?_map] at hkv
      obtain⟨x,h1,h2⟩:=Option.map_eq_some_iff.mp hkv
      exact⟨x,h1,h2.symm⟩
     obtain⟨p0,hp0,rfl,rfl⟩:=ZU hy
     have hil:i<us.length:=(List.getElem?_eq_some_iff.mp hx).1
     have n1:=Same.new (o:=HO.tup [V.int x,f x]) hp0
     refine⟨p0,_,rfl,SqT.of upd_same,rfl,_,_,rfl,_,_,rfl,rfl,yes_if ?_⟩
     refine⟨_,rfl,_,rfl,_,rfl,.inl ⟨by omega,hf x (List.mem_of_getElem? hx),(by show 2≤sizeLine;decide),fun pt hpt=>?_⟩⟩
     have n2:=Same.new (o:=HO.tup [V.int x,f x]) hpt
     have n12:=n1.trans n2
     have npt:pt≠D:=fun z=>by rw[z] at hpt;have:=n1 _ _ hD';rw[hpt] at this;cases this
     have hDF:=n12 _ _ hD'
     refine⟨hDF,by rw[List.length_map,lq];exact zl (by omega),some (.int x),some (f x),qs++[pt],rfl,by simp,by simp[lq],fun j p y hj hy'=>?_,upd_same,?_⟩
     ·by_cases hji:j<i
      ·rw[List.getElem?_append_left (by omega)] at hj
       have h1:=n12 _ _ (hqs j p y hj hy')
       rw[upd_ne (fun z=>by rw[z,hDF] at h1;cases h1)]
       exact h1
      ·rw[List.getElem?_append_right (by omega)] at hj
       have:j=i:=by
        have:=(List.getElem?_eq_some_iff.mp hj).1
        simp at this
        omega
       subst this
       rw[lq,Nat.sub_self] at hj
       cases hj
       rw[hx] at hy'
       cases hy'
       rw[upd_ne npt]
       exact upd_same
     ·exact Same.updF (sm.trans n12) hD
    ·rintro zs τ G2 ⟨o1,o2,qs,rfl,rfl,lq,hqs,hD2,sm⟩
     refine .inr ⟨d,od,tabV f us,S,sm _ _ hq1,?_⟩
     rw[tabV_len] at lq
     have sG3:Same H (upd G2 d (HO.dK (tabV f us))):=fun b o e=>by
      by_cases z:b=d
      ·rw[z,hd] at e;cases e;rw[z];exact upd_same
      ·rw[upd_ne z];exact sm _ _ (x1 _ _ e z)
     have hD3:(upd G2 d (HO.dK (tabV f us))) D=some (.lst (qs.map V.ref)):=by rw[upd_ne hDd];exact hD2
     have hq3:∀ (j:Nat) (p:Addr) (x:Int),qs[j]?=some p→us[j]?=some x→(upd G2 d (HO.dK (tabV f us))) p=some (.tup [.int x,f x]):=fun j p x h1 h2=>by
      have h3:=hqs j p x h1 h2
      rw[upd_ne (fun z=>by rw[z,sm _ _ hq1] at h3;cases h3)]
      exact h3
     generalize upd G2 d (HO.dK (tabV f us))=G3 at *
     refine⟨D,qs,tabV f us,rfl,hD3,by rw[tabV_len];exact lq,by rw[tabV_len];omega,fun i q kv h1 h2=>?_,fun d' hd'=>?_⟩
     ·unfold tabV at h2
      rw[List.getElem?_map] at h2
      obtain⟨x,h3,h4⟩:=Option.map_eq_some_iff.mp h2
      subst h4
      exact hq3 i q x h1 h3
     rw[XD (by rw[wj];exact Uz nd)]
     exact k d' _ (sG3.free hd') upd_same (sG3.trans (Same.new hd'))
   ·refine ZS rfl rfl (.lst hl) (T.k 2 rfl) (xn ?_)
    refine⟨_,rfl,l,rfl,⟨_,SqL.of hl⟩,fun D hD _=>?_⟩
    have lr:=L.1
    refine comp_list (K:=K) (a:=l) (xs:=rs) (fun m zs τ H'=>∃ (o:Option V),τ=[o]∧zs.length=m∧LnAt H' zs (ls.take m)∧H' D=some (.lst zs)∧Same H H') ?_ ?_ ?_ ?_
    ·exact⟨none,rfl,rfl,⟨rfl,fun i r p h=>by simp at h⟩,upd_same,Same.new hD⟩
    ·rintro m zs τ H' ⟨o,_,_,_,_,sm⟩
     exact SqL.of (sm _ _ hl)
    ·rintro m v zs τ H' hi ⟨o,rfl,lz,Lz,hD',sm⟩
     obtain⟨p,q,hp,rfl,hq⟩:=L.get hi
     have hml:m<rs.length:=(List.getElem?_eq_some_iff.mp hi).1
     refine XQ ?_
     refine⟨_,rfl,_,rfl,.inr (.inl ⟨by omega,q,p.1,p.2,rfl,sm _ _ hq,fun t' H2 ht' h2 s2=>?_⟩)⟩
     have hD2:=s2 _ _ hD'
     refine⟨hD2,by rw[lz];exact zl (by omega),some (.ref q),rfl,by simp[lz],?_,upd_same,Same.updF (sm.trans s2) hD⟩
     rw[List.take_add_one,hp]
     exact LnAt.updL hD2 ((Lz.same s2).snoc h2)
    ·rintro zs τ H' ⟨o,rfl,lz,Lz,hD',sm⟩
     rw[List.take_of_length_le (by omega)] at Lz
     exact k D zs H' hD hD' Lz sm
inductive En (pf:Int→Option Int):Int→LI→Prop
 |z {x:Int}(h:pf x=none):En pf x [x]
 |s {x y:Int}{l:LI}(h:pf x=some y) (t:En pf y l):En pf x (x::l)
variable {pf:Int→Option Int}
theorem En.fn {x:Int}{l:LI}(h:En pf x l):∀ {l':LI},En pf x l'→l=l':=by
 induction h with
 |z h =>
  intro l' h'
  cases h' with
  |z _=>rfl
  |s h2 _=>rw[h] at h2;cases h2
 |s h t ih =>
  intro l' h'
  cases h' with
  |z h2=>rw[h] at h2;cases h2
  |s h2 t2 =>
   rw[h] at h2
   cases h2
   rw[ih t2]
theorem En.hd {x:Int}{l:LI}(h:En pf x l):∃ t,l=x::t:=by
 cases h with
 |z _=>exact⟨_,rfl⟩
 |s _ _=>exact⟨_,rfl⟩
theorem En.suf:∀ {ys:LI}{x v:Int}{zs:LI},En pf x (ys++v::zs)→En pf v (v::zs)
 |[],x,v,zs,h=>by
  obtain⟨t,e⟩:=h.hd
  injection e with e1 e2
  have h':En pf x (v::zs):=h
  rw[← e1] at h'
  exact h'
 |y::ys,x,v,zs,h=>by
  have h':En pf x (y::(ys++v::zs)):=h
  generalize hl:y::(ys++v::zs)=l at h'
  cases h' with
  |z _ =>
   injection hl with _ hl
   simp at hl
  |s h2 t =>
   injection hl with _ hl
   rw[← hl] at t
   exact En.suf t
theorem En.nd {x:Int}{l:LI}(h:En pf x l):l.Nodup:=by
 induction h with
 |z _=>simp
 | @s x y l h t ih =>
  rw[List.nodup_cons]
  refine⟨fun hx=>?_,ih⟩
  obtain⟨ys,zs,e⟩:=List.append_of_mem hx
  rw[e] at t
  have h1:=t.suf
  have h2:=h1.fn (.s h t)
  have:=congrArg List.length h2
  simp at this
  omega
theorem En.mem {us:LI}(C:∀ x∈us,∀ y,pf x=some y→y∈us){x:Int}{l:LI}(h:En pf x l):x∈us→∀ y∈l,y∈us:=by
 induction h with
 |z _ =>
  intro hx y hy
  rw[List.mem_singleton.mp hy]
  exact hx
 | @s x y l h t ih =>
  intro hx u hu
  rcases List.mem_cons.mp hu with e | e
  ·rw[e];exact hx
  ·exact ih (C x hx y h) u e
def Pre (pf:Int→Option Int) (x:Int) (ys:LI) (z:Int):Prop:=∀ l,En pf x l↔∃ l',En pf z l'∧l=ys++l'
theorem Pre.z {x:Int}:Pre pf x [] x:=fun l=>⟨fun h=>⟨l,h,rfl⟩,fun⟨l',h,e⟩=>by rw[e];exact h⟩
theorem Pre.s {x z y:Int}{ys:LI}(p:Pre pf x ys z) (h:pf z=some y):Pre pf x (ys++[z]) y:=fun l=>by
 rw[p l]
 constructor
 ·rintro⟨l',h1,e⟩
  cases h1 with
  |z h2=>rw[h] at h2;cases h2
  |s h2 t =>
   rw[h] at h2
   cases h2
   exact⟨_,t,by rw[e];simp⟩
 ·rintro⟨l',h1,e⟩
  exact⟨z::l',.s h h1,by rw[e];simp⟩
theorem Pre.end_ {x z:Int}{ys:LI}(p:Pre pf x ys z) (h:pf z=none):En pf x (ys++[z]):=(p _).mpr ⟨[z],.z h,rfl⟩
theorem Pre.ring {x z y:Int}{ys:LI}(p:Pre pf x ys z) (h:pf z=some y) (hy:y∈ys++[z]):¬∃ l,En pf x l:=fun⟨l,hl⟩=>by
 obtain⟨l',h1,e⟩:=((p.s h) l).mp hl
 obtain⟨t,e2⟩:=h1.hd
 have nd:=hl.nd
 rw[e,e2,List.nodup_append] at nd
 exact nd.2.2 y hy y List.mem_cons_self rfl
theorem Pre.long {us:LI}(C:∀ x∈us,∀ y,pf x=some y→y∈us){x z y:Int}{ys:LI}(hx:x∈us) (p:Pre pf x ys z) (h:pf z=some y) (hl:us.length<(ys++[z]).length+1):¬∃ l,En pf x l:=fun⟨l,hl'⟩=>by
 obtain⟨l',h1,e⟩:=((p.s h) l).mp hl'
 obtain⟨t,e2⟩:=h1.hd
 have h2:=wI hl'.nd (hl'.mem C hx)
 rw[e,e2,List.length_append,List.length_cons] at h2
 omega
noncomputable def paO (pf:Int→Option Int) (x:Int):LI:=by
 classical
 exact if h:∃ l,En pf x l then Classical.choose h else[x]
theorem wR {x:Int}{l:LI}(h:En pf x l):paO pf x=l:=by
 unfold paO
 rw[dif_pos ⟨l,h⟩]
 exact(Classical.choose_spec (⟨l,h⟩:∃ l,En pf x l)).fn h
def opV:Option Int→V
 |none=>.non
 |some y=>.int y
theorem Yt (o:Option Int):Fl (opV o):=by
 cases o with
 |none=>exact .inr rfl
 |some y=>exact .inl ⟨y,rfl⟩
def UpP (us:LI) (pf:Int→Option Int) (pa:Int→LI):Prop:=∃ sf:Int→Nat,∀ x∈us,(pf x=none∧pa x=[x])∨∃ y,pf x=some y∧y∈us∧pa x=x::pa y∧sf y<sf x
def ldr (pa:Int→LI) (x:Int):Int:=(pa x).getLastD x
theorem Ut {us:LI}{pf:Int→Option Int}{pa:Int→LI}{sf:Int→Nat}(U:∀ x∈us,(pf x=none∧pa x=[x])∨∃ y,pf x=some y∧y∈us∧pa x=x::pa y∧sf y<sf x):∀ (n:Nat){x:Int},sf x≤n→x∈us→(∃ ys,pa x=ys++[ldr pa x])∧pf (ldr pa x)=none∧ldr pa x∈us∧(pa x).Nodup∧(∀ y∈pa x,y∈us∧sf y≤sf x):=by
 intro n
 induction n with
 |zero =>
  intro x hn hx
  rcases U x hx with⟨h1,h2⟩ | ⟨y,_,_,_,h⟩
  ·have e:ldr pa x=x:=by unfold ldr;rw[h2];rfl
   rw[e,h2]
   exact⟨⟨[],rfl⟩,h1,hx,by simp,fun y hy=>by rw[List.mem_singleton.mp hy];exact⟨hx,Nat.le_refl _⟩⟩
  ·omega
 |succ n ih =>
  intro x hn hx
  rcases U x hx with⟨h1,h2⟩ | ⟨y,h1,h2,h3,h4⟩
  ·have e:ldr pa x=x:=by unfold ldr;rw[h2];rfl
   rw[e,h2]
   exact⟨⟨[],rfl⟩,h1,hx,by simp,fun y hy=>by rw[List.mem_singleton.mp hy];exact⟨hx,Nat.le_refl _⟩⟩
  ·obtain⟨⟨ys,i1⟩,i2,i3,i4,i5⟩:=ih (x:=y) (by omega) h2
   have e:ldr pa x=ldr pa y:=by
    have:(pa x).getLastD x=ldr pa y:=by
     rw[h3,i1,← List.cons_append,List.getLastD_eq_getLast?,List.getLast?_append]
     rfl
    exact this
   rw[e,h3]
   refine⟨⟨x::ys,by rw[List.cons_append,← i1]⟩,i2,i3,List.nodup_cons.mpr ⟨fun z=>?_,i4⟩,fun u hu=>?_⟩
   ·have:=(i5 x z).2
    omega
   ·rcases List.mem_cons.mp hu with z | z
    ·rw[z];exact⟨hx,Nat.le_refl _⟩
    ·have:=i5 u z
     exact⟨this.1,by omega⟩
theorem UpP.ld {us:LI}{pf:Int→Option Int}{pa:Int→LI}(U:UpP us pf pa){x:Int}(hx:x∈us):(∃ ys,pa x=ys++[ldr pa x])∧pf (ldr pa x)=none∧ldr pa x∈us∧(pa x).Nodup∧(∀ y∈pa x,y∈us):=by
 obtain⟨sf,U⟩:=U
 obtain⟨h1,h2,h3,h4,h5⟩:=Ut U (sf x) (Nat.le_refl _) hx
 exact⟨h1,h2,h3,h4,fun y hy=>(h5 y hy).1⟩
structure WayAt (a:Ad) (H:Hp) (p:Addr) (pf:Int→Option Int) (us:LI) (ls:LP) (dx dp ob:Addr):Prop where
 p:H p=some (.ins 138 dx [("own_parents",.ref dp),("own_bridges",.ref ob)])
 dp:H dp=some (.dK (tabV (fun x=>opV (pf x)) us))
 ob:∃ rs,H ob=some (.lst rs)∧LnAt H rs ls
 nd:us.Nodup
 l12:us.length≤12
 l66:ls.length≤200
theorem WayAt.same {a:Ad}{H H':Hp}{p dx dp ob:Addr}{pf:Int→Option Int}{us:LI}{ls:LP}(w:WayAt a H p pf us ls dx dp ob) (s:Same H H'):WayAt a H' p pf us ls dx dp ob:=⟨s _ _ w.p,s _ _ w.dp,by obtain⟨rs,e1,e2⟩:=w.ob;exact⟨rs,s _ _ e1,e2.same s⟩,w.nd,w.l12,w.l66⟩
structure WayR (a:Ad) (H:Hp) (p:Addr) (pf:Int→Option Int) (us:LI) (dx dp ob:Addr):Prop where
 p:H p=some (.ins 138 dx [("own_parents",.ref dp),("own_bridges",.ref ob)])
 dp:Rd H dp (.dK (tabV (fun x=>opV (pf x)) us))
 l12:us.length≤12
theorem WayAt.r {a:Ad}{H:Hp}{p dx dp ob:Addr}{pf:Int→Option Int}{us:LI}{ls:LP}(w:WayAt a H p pf us ls dx dp ob):WayR a H p pf us dx dp ob:=⟨w.p,.inl w.dp,w.l12⟩
theorem WW {H H':Hp}{d:Addr}{u:HO}(h:Rd H d u) (s:Same H H'):Rd H' d u:=h.elim (fun e=>.inl (s _ _ e)) fun⟨o,e⟩=>.inr ⟨o,s _ _ e⟩
theorem WayR.same {a:Ad}{H H':Hp}{p dx dp ob:Addr}{pf:Int→Option Int}{us:LI}(w:WayR a H p pf us dx dp ob) (s:Same H H'):WayR a H' p pf us dx dp ob:=⟨s _ _ w.p,WW w.dp s,w.l12⟩
theorem vC {H:Hp}{d:Addr}{f:Int→V}{us:LI}{x:Int}(e:Rd H d (.dK (tabV f us))) (h:x∈us):DGet H d (V.int x) (some (f x)):=.inl ⟨_,.inl x,e,rfl,(uj h).symm⟩
def VV (a:Ad):Sp:=fun vs H Q _=>∃ (p dx d l:Addr) (pf:Int→Option Int) (us:LI) (rs:List V) (ls:LP),vs=[.ref p,.ref d,.ref l]∧H p=some (.ins 138 dx [])∧H d=some (.dK (tabV (fun x=>opV (pf x)) us))∧us.Nodup∧us.length≤12∧H l=some (.lst rs)∧LnAt H rs ls∧ls.length≤200 ∧
 ∀ (dp ob:Addr) (H':Hp),H dp=none→H ob=none→Ext p H H'→WayAt a H' p pf us ls dx dp ob→Q .non H'
theorem Uf (T:Txt w K mg a):FnOk P w K mg base CX0 6 72 (dK K 72) ["self", "parents", "bridges"] (VV a):=by
 have c_copied:Callee P w K mg base "copied" 58 (dK K 58) ["value"] (3+2) (Vy 3):=⟨xl T 3,(T.g 1 rfl),(T.fn 1 rfl).kp,(T.bi 1 rfl)⟩
 refine(T.fn 35 rfl).ok (scp 35 rfl) (fun vs H Q E h=>?_) (fun cdv A outer s H vs Q E hr h=>?_)
 ·obtain⟨p,dx,d,l,pf,us,rs,ls,rfl,_⟩:=h
  rfl
 ·obtain⟨p,dx,d,l,pf,us,rs,ls,rfl,hp,hd,nd,l12,hl,L,l66,k⟩:=h
  refine yd (zb (uL (zh 0) (zr c_copied hr.m (zd (zh 1) za)) rfl)
   (zg (uL (zh 0) (zr c_copied hr.m (zd (zh 2) za)) rfl))) ?_
  refine⟨_,rfl,_,rfl,.inr (.inr (.inl ⟨by decide,d,_,us,rfl,hd,nd,l12,fun x _=>Yt _,fun dp H1 hdp h1 s1=>?_⟩))⟩
  have ndp:dp≠p:=fun z=>by rw[z,hp] at hdp;cases hdp
  refine⟨_,rfl,p,138,dx,_,rfl,s1 _ _ hp,(T.cl 0 rfl),(T.na 0 0 rfl rfl),(by show 0<1000;decide),?_⟩
  have x1:=(Ext.same (l:=p) s1).trans (Ext.at (l:=p) (o:=.ins 138 dx [("own_parents",.ref dp)]))
  have nlp:l≠p:=fun z=>by rw[z,hp] at hl;cases hl
  refine⟨_,rfl,_,rfl,.inr (.inr (.inr ⟨by decide,l,rs,ls,rfl,x1 _ _ hl nlp,L.ext hp x1,l66,fun ob rs' H2 hob h2 L2 s2=>?_⟩))⟩
  refine⟨_,rfl,p,138,dx,_,rfl,s2 _ _ upd_same,(T.cl 0 rfl),(T.na 0 1 rfl rfl),(by show 1<1000;decide),?_⟩
  have nob:ob≠p:=fun z=>by rw[z,upd_same] at hob;cases hob
  have fob:H ob=none:=by
   cases h:H ob with
   |none=>rfl
   |some o=>exact nomatch ((x1 _ _ h nob).symm.trans hob:some o=none)
  refine k dp ob _ hdp fob ((x1.trans (Ext.same s2)).trans Ext.at) ⟨upd_same,?_,⟨rs',?_,L2.ext (s2 _ _ upd_same) Ext.at⟩,nd,l12,l66⟩
  ·rw[upd_ne ndp]
   exact s2 _ _ ((upd_ne ndp).trans h1)
  ·rw[upd_ne nob]
   exact h2
def zbf (a:Ad):Sp:=fun vs H Q _=>∃ (p dx dp ob:Addr) (pf:Int→Option Int) (us:LI) (ls:LP),vs=[.ref p]∧WayAt a H p pf us ls dx dp ob∧∀ (d:Addr) (H':Hp),H d=none→H' d=some (.dK (tabV (fun x=>opV (pf x)) us))→Same H H'→Q (.ref d) H'
theorem VZ {p dx dp ob:Addr}{pf:Int→Option Int}{us:LI}{ls:LP}{H:Hp}{Q:VK}{E:XK}(W:WayAt a H p pf us ls dx dp ob) (k:∀ (d:Addr) (H':Hp),H d=none→H' d=some (.dK (tabV (fun x=>opV (pf x)) us))→Same H H'→Q (.ref d) H'):zbf a [.ref p] H Q E:=⟨p,dx,dp,ob,pf,us,ls,rfl,W,k⟩
theorem zaz (T:Txt w K mg a):FnOk P w K mg base CX0 6 86 (dK K 86) ["self"] (zbf a):=by
 have c_copied:Callee P w K mg base "copied" 58 (dK K 58) ["value"] (3+2) (Vy 3):=⟨xl T 3,(T.g 1 rfl),(T.fn 1 rfl).kp,(T.bi 1 rfl)⟩
 refine(T.fn 37 rfl).ok (scp 37 rfl) (fun vs H Q E h=>?_) (fun cdv A outer s H vs Q E hr h=>?_)
 ·obtain⟨p,dx,dp,ob,pf,us,ls,rfl,_⟩:=h
  rfl
 ·obtain⟨p,dx,dp,ob,pf,us,ls,rfl,W,k⟩:=h
  refine yd (zg (zi (zr c_copied hr.m (zk (yJ (zh 0) rfl) za)))) ?_
  exact⟨_,rfl,p,_,dx,_,_,rfl,W.p,(T.cl 0 rfl),(T.na 0 0 rfl rfl),rfl,_,rfl,.inr (.inr (.inl ⟨by decide,dp,_,us,rfl,W.dp,W.nd,W.l12,fun x _=>Yt _,k⟩))⟩
def zbg (a:Ad):Sp:=fun vs H Q _=>∃ (p dx dp ob:Addr) (pf:Int→Option Int) (us:LI) (ls:LP),vs=[.ref p]∧WayAt a H p pf us ls dx dp ob∧∀ (l:Addr) (rs:List V) (H':Hp),H l=none→H' l=some (.lst rs)→LnAt H' rs ls→Same H H'→Q (.ref l) H'
theorem Wf {p dx dp ob:Addr}{pf:Int→Option Int}{us:LI}{ls:LP}{H:Hp}{Q:VK}{E:XK}(W:WayAt a H p pf us ls dx dp ob) (k:∀ (l:Addr) (rs:List V) (H':Hp),H l=none→H' l=some (.lst rs)→LnAt H' rs ls→Same H H'→Q (.ref l) H'):zbg a [.ref p] H Q E:=⟨p,dx,dp,ob,pf,us,ls,rfl,W,k⟩
theorem ok_ab (T:Txt w K mg a):FnOk P w K mg base CX0 6 93 (dK K 93) ["self"] (zbg a):=by
 have c_copied:Callee P w K mg base "copied" 58 (dK K 58) ["value"] (3+2) (Vy 3):=⟨xl T 3,(T.g 1 rfl),(T.fn 1 rfl).kp,(T.bi 1 rfl)⟩
 refine(T.fn 38 rfl).ok (scp 38 rfl) (fun vs H Q E h=>?_) (fun cdv A outer s H vs Q E hr h=>?_)
 ·obtain⟨p,dx,dp,ob,pf,us,ls,rfl,_⟩:=h
  rfl
 ·obtain⟨p,dx,dp,ob,pf,us,ls,rfl,W,k⟩:=h
  refine yd (zg (zi (zr c_copied hr.m (zk (yJ (zh 0) rfl) za)))) ?_
  obtain⟨rs,e1,e2⟩:=W.ob
  exact⟨_,rfl,p,_,dx,_,_,rfl,W.p,(T.cl 0 rfl),(T.na 0 1 rfl rfl),rfl,_,rfl,.inr (.inr (.inr ⟨by decide,ob,rs,ls,rfl,e1,e2,W.l66,k⟩))⟩
def Cl (us:LI) (pf:Int→Option Int):Prop:=∀ x∈us,∀ y,pf x=some y→y∈us
def zbB (a:Ad):Sp:=fun vs H Q _=>∃ (p dx dp ob:Addr) (pf:Int→Option Int) (us:LI) (x:Int),vs=[.ref p,.int x]∧WayR a H p pf us dx dp ob∧Cl us pf∧x∈us ∧
 ∀ (l:Addr) (ys:LI) (z:Int),H l=none→z∈us→((pf z=none∧En pf x (ys++[z]))∨(pf z≠none∧¬∃ l,En pf x l))→Q (.ref l) (upd H l (.lst ((ys++[z]).map V.int)))
theorem Uj (T:Txt w K mg a):FnOk P w K mg base CX0 1 100 (dK K 100) ["self", "hand"] (zbB a):=by
 refine(T.fn 39 rfl).ok (scp 39 rfl) (fun vs H Q E h=>?_) (fun cdv A outer s H vs Q E hr h=>?_)
 ·obtain⟨p,dx,dp,ob,pf,us,x,rfl,_⟩:=h
  rfl
 ·obtain⟨p,dx,dp,ob,pf,us,x,rfl,W,C,hx,k⟩:=h
  have hu:=xo hr
  refine yd (zb (zm (i:=2) (scp 39 rfl).nd rfl (Or.inl rfl) (zA (zd (zh 1) za)))
   (zb (zm (i:=3) (scp 39 rfl).nd rfl (Or.inl rfl) (wL hu (yJ (zh 0) rfl) (zh 1) ⟨rfl,rfl,rfl,rfl⟩))
   (zb (xt PassesOwn.never (wJ (yU (zo vh (zh 3) yC (zC _)) (yK (zo vQ (zh 3) (zh 2) (by with_unfolding_all rfl)))))
    (zb (zQ (yu PySem.F.plainAttrs_list PySem.F.slot_list_append PySem.F.type_list_append zU (zh 2) (zd (zh 3) za)))
    (zg (zm (i:=3) (scp 39 rfl).nd rfl (Or.inl rfl) (wL hu (yJ (zh 0) rfl) (zh 3) ⟨rfl,rfl,rfl,rfl⟩)))))
   (zg (zi (zh 2)))))) ?_
  refine⟨_,rfl,(by show 1≤sizeLine;decide),fun l hl=>?_⟩
  have sm:∀ o,Same H (upd H l o):=fun o=>Same.new hl
  refine⟨_,rfl,p,_,dx,_,_,rfl,(W.same (sm _)).p,(T.cl 0 rfl),(T.na 0 0 rfl rfl),rfl,dp,rfl,.inl ⟨_,(W.same (sm _)).dp⟩,_,rfl,some (opV (pf x)),vC (W.same (sm _)).dp hx,?_⟩
  refine⟨fun m σ H'=>∃ (ys:LI) (z:Int),m+(ys++[z]).length=us.length∧σ=[some (.ref p),some (.int x),some (.ref l),some (opV (pf z))]∧H'=upd H l (.lst ((ys++[z]).map V.int))∧z∈us∧Pre pf x ys z∧(ys++[z]).Nodup∧∀ y∈ys,y∈us,⟨us.length-1,[],x,by have:=List.length_pos_of_mem hx;simp;omega,rfl,rfl,hx,Pre.z,(by simp),(fun y hy=>(nomatch hy))⟩,?_⟩
  rintro m σ H' ⟨ys,z,hm,rfl,rfl,hz,hp,nd,hsub⟩
  have hlen:(ys++[z]).length≤12:=Nat.le_trans (by omega) W.l12
  cases h1:pf z with
  |none =>
   refine⟨_,rfl,rfl,_,rfl,iteN rfl ?_⟩
   refine⟨_,rfl,?_⟩
   exact k l ys z hl hz (.inl ⟨h1,hp.end_ h1⟩)
  |some y =>
   refine⟨_,rfl,rfl,_,rfl,xn ?_⟩
   have h2:=C z hz y h1
   by_cases hny:y∈ys++[z]
   ·refine⟨_,rfl,_,rfl,l,_,rfl,.inl (SqL.of upd_same),rfl,xq _,_,rfl,iteN (by show(!inV (.int y) _)=false;rw[xP,decide_eq_true hny];rfl) ?_⟩
    refine⟨_,rfl,?_⟩
    exact k l ys z hl hz (.inr ⟨by rw[h1];simp,hp.ring h1 hny⟩)
   ·refine⟨_,rfl,_,rfl,l,_,rfl,.inl (SqL.of upd_same),rfl,xq _,_,rfl,iteB (by show(!inV (.int y) _)=true;rw[xP,decide_eq_false hny];rfl) ?_⟩
    refine⟨_,fun σ' H' h=>h,?_⟩
    refine⟨_,rfl,.inl ⟨rfl,_,SqL.of upd_same⟩,_,rfl,l,_,_,rfl,rfl,upd_same,(by rw[List.length_map];exact zl (by omega)),?_⟩
    rw[xL]
    refine⟨_,rfl,p,_,dx,_,_,rfl,(W.same (sm _)).p,(T.cl 0 rfl),(T.na 0 0 rfl rfl),rfl,dp,rfl,.inl ⟨_,(W.same (sm _)).dp⟩,_,rfl,some (opV (pf y)),vC (W.same (sm _)).dp h2,?_⟩
    have nd2:(ys++[z]++[y]).Nodup:=by
     rw[List.nodup_append]
     exact⟨nd,by simp,fun u hu v hv e=>hny (by rw[List.mem_singleton.mp hv] at e;rw[← e];exact hu)⟩
    have hs2:∀ u∈ys++[z],u∈us:=fun u hu=>(List.mem_append.mp hu).elim (hsub u) fun q=>by rw[List.mem_singleton.mp q];exact hz
    have hn2:=wI nd2 fun u hu=>(List.mem_append.mp hu).elim (hs2 u) fun q=>by rw[List.mem_singleton.mp q];exact h2
    have e2:(ys++[z]++[y]).length=(ys++[z]).length+1:=by simp
    refine⟨m-1,by omega,ys++[z],y,by omega,rfl,?_,h2,hp.s h1,nd2,hs2⟩
    rw[List.map_append (l₂:=[y])]
    rfl
def U2 (a:Ad):Sp:=fun vs H Q _=>∃ (p dx dp ob:Addr) (pf:Int→Option Int) (us:LI) (x:Int),vs=[.ref p,.int x]∧WayR a H p pf us dx dp ob∧Cl us pf∧x∈us∧∀ (ys:LI) (z:Int) (H':Hp),Same H H'→z∈us→((pf z=none∧En pf x (ys++[z]))∨(pf z≠none∧¬∃ l,En pf x l))→Q (.int z) H'
theorem Wr (T:Txt w K mg a):FnOk P w K mg base CX0 2 107 (dK K 107) ["self", "hand"] (U2 a):=by
 refine(T.fn 40 rfl).ok (scp 40 rfl) (fun vs H Q E h=>?_) (fun cdv A outer s H vs Q E hr h=>?_)
 ·obtain⟨p,dx,dp,ob,pf,us,x,rfl,_⟩:=h
  rfl
 ·obtain⟨p,dx,dp,ob,pf,us,x,rfl,W,C,hx,k⟩:=h
  refine yd (zg (zi (zv zF (zH (zh 0) (zd (zh 1) za)) (yx yN ze) (fun _ _=>rfl)))) ?_
  refine mtV rfl W.p rfl (T.cl 0 rfl) (T.mt 39 rfl) (Uj (P:=P) (w:=w) T) hr.m (T.bi 39 rfl) ⟨_,rfl,p,dx,dp,ob,pf,us,x,rfl,W,C,hx,fun l ys z hl hz hor=>?_⟩
  refine⟨_,rfl,l,_,-1,_,rfl,rfl,SqL.of upd_same,?_,k ys z _ (Same.new hl) hz hor⟩
  rw[List.map_append]
  exact at_last
theorem UpP.cl {us:LI}{pf:Int→Option Int}{pa:Int→LI}(U:UpP us pf pa):Cl us pf:=fun x hx y h=>by
 obtain⟨sf,U⟩:=U
 rcases U x hx with⟨h1,_⟩ | ⟨y',h1,h2,_⟩
 ·rw[h] at h1;cases h1
 ·rw[h] at h1;cases h1;exact h2
theorem UpP.en {us:LI}{pf:Int→Option Int}{pa:Int→LI}(U:UpP us pf pa){x:Int}(hx:x∈us):En pf x (pa x):=by
 obtain⟨sf,U⟩:=U
 have go:∀ (n:Nat){x:Int},sf x≤n→x∈us→En pf x (pa x):=by
  intro n
  induction n with
  |zero =>
   intro x hn hx
   rcases U x hx with⟨h1,h2⟩ | ⟨y,_,_,_,h⟩
   ·rw[h2];exact .z h1
   ·omega
  |succ n ih =>
   intro x hn hx
   rcases U x hx with⟨h1,h2⟩ | ⟨y,h1,h2,h3,h4⟩
   ·rw[h2];exact .z h1
   ·rw[h3];exact .s h1 (ih (by omega) h2)
 exact go _ (Nat.le_refl _) hx
theorem UpP.of {us:LI}{pf:Int→Option Int}(C:Cl us pf) (h:∀ x∈us,∃ l,En pf x l):UpP us pf (paO pf):=⟨fun x=>(paO pf x).length,fun x hx=>by
 obtain⟨l,hl⟩:=h x hx
 cases hl with
 |z h1=>exact .inl ⟨h1,wR (.z h1)⟩
 | @s _ y l h1 t=>exact .inr ⟨y,h1,C x hx y h1,by rw[wR (.s h1 t),wR t],by show(paO pf y).length<(paO pf x).length;rw[wR (.s h1 t),wR t];simp⟩⟩
def za3 (a:Ad):Sp:=fun vs H Q _=>∃ (p dx dp ob:Addr) (pf:Int→Option Int) (pa:Int→LI) (us:LI) (x:Int),vs=[.ref p,.int x]∧WayR a H p pf us dx dp ob∧UpP us pf pa∧x∈us∧∀ (H':Hp),Same H H'→Q (.int (ldr pa x)) H'
theorem wN {p dx dp ob:Addr}{pf:Int→Option Int}{pa:Int→LI}{us:LI}{x:Int}{H:Hp}{Q:VK}{E:XK}(W:WayR a H p pf us dx dp ob) (U:UpP us pf pa) (hx:x∈us) (k:∀ (H':Hp),Same H H'→Q (.int (ldr pa x)) H'):za3 a [.ref p,.int x] H Q E:=⟨p,dx,dp,ob,pf,pa,us,x,rfl,W,U,hx,k⟩
theorem vT (T:Txt w K mg a):FnOk P w K mg base CX0 2 107 (dK K 107) ["self", "hand"] (za3 a):=(Wr T).imp fun vs H Q E h=>by
 obtain⟨p,dx,dp,ob,pf,pa,us,x,rfl,W,U,hx,k⟩:=h
 refine⟨p,dx,dp,ob,pf,us,x,rfl,W,U.cl,hx,fun ys z H' s hz hor=>?_⟩
 rcases hor with⟨_,h⟩ | ⟨_,h⟩
 ·have e:ldr pa x=z:=by
   unfold ldr
   rw[(U.en hx).fn h,List.getLastD_eq_getLast?,List.getLast?_append]
   simp
  rw[← e]
  exact k _ s
 ·exact absurd ⟨_,U.en hx⟩ h
open L2.Sco (PT PsAt)
def jk (lf:Int→Int) (p:Int×Int):Int×Int:=(min (lf p.1) (lf p.2),max (lf p.1) (lf p.2))
theorem Zy {x y:Int}{ms:LI}(pm:ms.Perm [x,y]) (sd:ms.Pairwise (· ≤ ·)):ms=[min x y,max x y]:=by
 have hl:=pm.length_eq
 match ms,hl with
 |[u,v],_ =>
  have h1:u≤v:=(List.pairwise_cons.mp sd).1 v (by simp)
  have hu:u=x∨u=y:=by simpa using pm.mem_iff.mp (show u∈[u,v] by simp)
  have hx:x=u∨x=v:=by simpa using pm.mem_iff.mpr (show x∈[x,y] by simp)
  have hy:y=u∨y=v:=by simpa using pm.mem_iff.mpr (show y∈[x,y] by simp)
  have hv:v=x∨v=y:=by simpa using pm.mem_iff.mp (show v∈[u,v] by simp)
  have e1:u=min x y:=by omega
  have e2:v=max x y:=by omega
  rw[e1,e2]
inductive WhV:V→Bool→Prop where
 |int (i:Int):WhV (.int i) true
 |non:WhV .non false
 |str (x:Str):WhV (.str x) false
def uX:Sp:=fun vs H Q _=>∃ v b,vs=[v]∧WhV v b∧Q (.bl b) H
theorem Yu (T:Txt w K mg a):FnOk P w K mg base CX0 1 53 (dK K 53) ["value"] uX:=by
 refine(T.fn 0 rfl).ok (scp 0 rfl) (fun vs H Q E h=>?_) (fun cdv A outer s H vs Q E hr h=>?_)
 ·obtain⟨v,b,rfl,_⟩:=h
  rfl
 ·obtain⟨v,b,rfl,hv,k⟩:=h
  refine yd (zg (zi (xu (zj zM (by rfl) (T.n 3 rfl) zq (zd (zh 0) (zd (zZ (T.n 1 rfl) Zr) za))) (yW (uS (zj zM (by rfl) (T.n 3 rfl) zq (zd (zh 0) (zd (zZ (T.n 8 rfl) wD) za)))))))) ?_
  cases hv with
  |int i =>
   refine⟨_,rfl,_,_,_,_,_,rfl,rfl,.int i,(T.k 0 rfl),_,rfl,xn ?_⟩
   exact⟨_,rfl,_,_,_,_,_,rfl,rfl,.int i,(T.k 1 rfl),_,rfl,k⟩
  |non=>exact⟨_,rfl,_,_,_,_,_,rfl,rfl,.non,(T.k 14 rfl),_,rfl,iteN rfl k⟩
  |str x=>exact⟨_,rfl,_,_,_,_,_,rfl,rfl,.str x,(T.k 15 rfl),_,rfl,iteN rfl k⟩
def poV (us:LI) (pf:Int→Option Int):V→V
 |.int x=>if x∈us then opV (pf x) else .non
 |_=>.non
def zbC (a:Ad):Sp:=fun vs H Q _=>∃ (p dx dp ob:Addr) (pf:Int→Option Int) (us:LI) (ls:LP) (v:V) (b:Bool),vs=[.ref p,v]∧WayAt a H p pf us ls dx dp ob∧WhV v b∧∀ H',Same H H'→Q (poV us pf v) H'
theorem zaj (T:Txt w K mg a):FnOk P w K mg base CX0 6 79 (dK K 79) ["self", "hand"] (zbC a):=by
 have c_is_whole:Callee P w K mg base "is_whole" 53 (dK K 53) ["value"] 1 uX:=⟨Yu T,(T.g 0 rfl),(T.fn 0 rfl).kp,(T.bi 0 rfl)⟩
 have c_copied:Callee P w K mg base "copied" 58 (dK K 58) ["value"] (3+2) (Vy 3):=⟨xl T 3,(T.g 1 rfl),(T.fn 1 rfl).kp,(T.bi 1 rfl)⟩
 refine(T.fn 36 rfl).ok (scp 36 rfl) (fun vs H Q E h=>?_) (fun cdv A outer s H vs Q E hr h=>?_)
 ·obtain⟨p,dx,dp,ob,pf,us,ls,v,b,rfl,_⟩:=h
  rfl
 ·obtain⟨p,dx,dp,ob,pf,us,ls,v,b,rfl,W,hv,k⟩:=h
  refine yd (zb (vt (zR PassesOwn.never rfl (xC (yJ (zh 0) rfl)) (yk rfl (zy (zn (i:=2) (scp 36 rfl).nd rfl (Or.inl rfl)) (zy (zn (i:=3) (scp 36 rfl).nd rfl (Or.inl rfl)) zY)))
    (zg (zB (wJ (yU (zo yG (zr c_is_whole hr.m (zd (zh 2) za)) (zr c_is_whole hr.m (zd (zh 1) za)) (zC _)) (yK (zo yG (zh 2) (zh 1) (zC _)))))
     (zg (zi (zr c_copied hr.m (zd (zh 3) za))))
     zp))))
   (zg (zi yC))) ?_
  refine⟨_,rfl,p,_,dx,_,_,rfl,W.p,(T.cl 0 rfl),(T.na 0 0 rfl rfl),rfl,dp,_,rfl,W.dp,fun od S=>?_⟩
  have hz1:=upd_same (H:=H) (a:=dp) (o:=HO.frz od (HO.dK (tabV (fun x=>opV (pf x)) us)))
  have x1:Ext dp H (upd H dp (HO.frz od (HO.dK (tabV (fun x=>opV (pf x)) us)))):=Ext.at
  generalize upd H dp (HO.frz od (HO.dK (tabV (fun x=>opV (pf x)) us)))=H1 at *
  have back:∀ {G:Hp},Same H1 G→Same H (upd G dp (HO.dK (tabV (fun x=>opV (pf x)) us))):=fun {G} sm b o e=>by
   by_cases z:b=dp
   ·rw[z,W.dp] at e;cases e;rw[z];exact upd_same
   ·rw[upd_ne z];exact sm _ _ (x1 _ _ e z)
  refine Zm (yl:=yI) (d:=dp) (od:=od) (kvs:=tabV (fun x=>opV (pf x)) us) (fun i σ H'=>∃ (o2 o3:Option V),σ=[some (.ref p),some v,o2,o3]∧Same H1 H'∧∀ x,v=.int x→x∉us.take i) ?_ ?_ ?_ ?_
  ·exact⟨none,none,rfl,fun _ _ h=>h,fun x _=>by simp⟩
  ·rintro i σ H' ⟨o2,o3,_,sm,_⟩
   exact sm _ _ hz1
  ·rintro i kv u σ G G' hkv ⟨o2,o3,rfl,sm,hni⟩ hy
   obtain⟨x,hx,rfl⟩:∃ x,us[i]?=some x∧kv=(Sum.inl x,opV (pf x)):=by
    unfold tabV at hkv
    rw[List.getElem?_map] at hkv
    obtain⟨x,h1,h2⟩:=Option.map_eq_some_iff.mp hkv
    exact⟨x,h1,h2.symm⟩
   obtain⟨p0,hp0,rfl,rfl⟩:=ZU hy
   have etk:us.take (i+1)=us.take i++[x]:=by rw[List.take_add_one,hx];rfl
   have hxu:=List.mem_of_getElem? hx
   have n1:=Same.new (o:=HO.tup [V.int x,opV (pf x)]) hp0
   have sm2:=sm.trans n1
   refine⟨p0,_,rfl,SqT.of upd_same,rfl,_,_,rfl,_,_,rfl,rfl,?_⟩
   generalize upd G p0 (HO.tup [V.int x,opV (pf x)])=G2 at *
   refine⟨_,rfl,_,true,rfl,.int x,_,rfl,v,b,rfl,hv,rfl,_,rfl,?_⟩
   cases hv with
   |non=>exact iteN (by rfl) ⟨_,_,rfl,sm2,fun y hy=>(nomatch hy)⟩
   |str s=>exact iteN (by rfl) ⟨_,_,rfl,sm2,fun y hy=>(nomatch hy)⟩
   |int j =>
    refine iteB (by rfl) ?_
    refine⟨_,rfl,_,rfl,rfl,_,rfl,?_⟩
    by_cases c:x=j
    ·subst c
     refine iteB (by simp) ?_
     refine⟨_,rfl,_,rfl,.inl ⟨by decide,Yt _,?_⟩⟩
     refine .inr ⟨dp,od,_,S,sm2 _ _ hz1,?_⟩
     have e:poV us pf (.int x)=opV (pf x):=if_pos hxu
     have:=k _ (back sm2)
     rw[e] at this
     exact this
    ·refine iteN (by simp[c]) ⟨_,_,rfl,sm2,fun y hy=>?_⟩
     cases hy
     rw[etk]
     exact fun z=>(List.mem_append.mp z).elim (hni j rfl) fun e=>c (List.mem_singleton.mp e).symm
  ·rintro σ H' ⟨o2,o3,rfl,sm,hni⟩
   rw[tabV_len,List.take_length] at hni
   refine .inr ⟨dp,od,_,S,sm _ _ hz1,?_⟩
   have e:poV us pf v=.non:=by
    cases hv with
    |int i=>exact if_neg (hni i rfl)
    |non=>rfl
    |str x=>rfl
   have:=k _ (back sm)
   rw[e] at this
   exact this
open L2.Sco (PT PsAt)
structure WbP (a:Ad) (H:Hp) (p:Addr) (hs:LI) (ls:LP):Prop where
 wh:Hs hs
 wl:Ls hs ls
 l63:ls.length≤63
 at_:∃ dx oh ol d ad,WebAt a H p hs ls dx oh ol d ad
theorem WbP.same {H H':Hp}{p:Addr}{hs:LI}{ls:LP}(h:WbP a H p hs ls) (s:Same H H'):WbP a H' p hs ls:=⟨h.wh,h.wl,h.l63,let ⟨dx,oh,ol,d,ad,W⟩:=h.at_;⟨dx,oh,ol,d,ad,W.same s⟩⟩
def VX (a:Ad):Sp:=fun vs H Q _=>∃ (p:Addr) (hs:LI) (ls:LP) (dx oh ol d:Addr) (ad:Int→Addr),vs=[.ref p]∧WebAt a H p hs ls dx oh ol d ad∧∀ q zs,H q=none→LnAt H zs (srt ls)→Q (.ref q) (upd H q (.lst zs))
theorem WO {p:Addr}{hs:LI}{ls:LP}{dx oh ol d:Addr}{ad:Int→Addr}{H:Hp}{Q:VK}{E:XK}(W:WebAt a H p hs ls dx oh ol d ad) (k:∀ q zs,H q=none→LnAt H zs (srt ls)→Q (.ref q) (upd H q (.lst zs))):VX a [.ref p] H Q E:=⟨p,hs,ls,dx,oh,ol,d,ad,rfl,W,k⟩
theorem Uk (T:Txt w K mg a):FnOk P w K mg base CX0 1 287 (dK K 287) ["self"] (VX a):=by
 refine(T.fn 43 rfl).ok (scp 43 rfl) (fun vs H Q E h=>?_) (fun cdv A outer s H vs Q E hr h=>?_)
 ·obtain⟨p,hs,ls,dx,oh,ol,d,ad,rfl,_⟩:=h
  rfl
 ·obtain⟨p,hs,ls,dx,oh,ol,d,ad,rfl,W,k⟩:=h
  refine yd (zg (zi (zL yp (by rfl) (T.n 4 rfl) bt_list (zk (yJ (zh 0) rfl) za)))) ?_
  obtain⟨zs,h1,h2⟩:=W.ol
  exact⟨_,rfl,p,_,dx,_,_,rfl,W.p,(T.cl 1 rfl),(T.na 1 1 rfl rfl),rfl,ol,_,rfl,.inl (SqL.of h1),fun q hq=>k q zs hq h2⟩
def zbD (a:Ad):Sp:=fun vs H Q _=>∃ (p:Addr) (x y:Int) (hs:LI) (ls:LP) (dx oh ol d:Addr) (ad:Int→Addr),vs=[.ref p,.int x,.int y]∧WebAt a H p hs ls dx oh ol d ad∧x∈hs∧y∈hs∧Q (.bl (adB ls x y)) H
theorem Um (T:Txt w K mg a):FnOk P w K mg base CX0 3 301 (dK K 301) ["self", "one", "other"] (zbD a):=by
 refine(T.fn 45 rfl).ok (scp 45 rfl) (fun vs H Q E h=>?_) (fun cdv A outer s H vs Q E hr h=>?_)
 ·obtain⟨p,x,y,hs,ls,dx,oh,ol,d,ad,rfl,_⟩:=h
  rfl
 ·obtain⟨p,x,y,hs,ls,dx,oh,ol,d,ad,rfl,W,hx,hy,k⟩:=h
  have hu:=xo hr
  refine yd (zg (zi (xu (zH (zh 0) (zd (zh 1) za)) (xu (zH (zh 0) (zd (zh 2) za)) (yW (yg wp (zh 2) (yL hu (yJ (zh 0) rfl) (zh 1) (fun _ _=>rfl)) (by with_unfolding_all rfl))))))) ?_
  refine mtV rfl W.p rfl (T.cl 1 rfl) (T.mt 44 rfl) (Yw (P:=P) (w:=w) T) hr.m (T.bi 44 rfl) ⟨_,rfl,p,x,hs,ls,dx,oh,ol,d,ad,rfl,W,hx,_,rfl,xn ?_⟩
  refine mtV rfl W.p rfl (T.cl 1 rfl) (T.mt 44 rfl) (Yw (P:=P) (w:=w) T) hr.m (T.bi 44 rfl) ⟨_,rfl,p,y,hs,ls,dx,oh,ol,d,ad,rfl,W,hy,_,rfl,xn ?_⟩
  refine⟨_,rfl,_,rfl,p,_,dx,_,_,rfl,W.p,(T.cl 1 rfl),(T.na 1 2 rfl rfl),rfl,_,rfl,d,V.ref (ad x),rfl,w8 W.nr.d hx,ad x,_,rfl,.inl (SqL.of (W.nr.nb x hx)),rfl,xq _,?_⟩
  have e:inV (.int y) ((nbs ls x).map V.int)=adB ls x y:=by rw[xP,Y9]
  rw[e]
  exact k
structure Brs (hs:LI) (bs:LP):Prop where
 nd:bs.Nodup
 ok:∀ p∈bs,p.1∈hs∧p.2∈hs∧p.1<p.2
theorem WebAt.frz {H G:Hp}{p dx oh ol d d0:Addr}{hs us:LI}{ls:LP}{ad:Int→Addr}{pf:Int→Option Int}(W:WebAt a H p hs ls dx oh ol d0 ad) (hd:H d=some (.dK (tabV (fun x=>opV (pf x)) us))) (wh:Hs hs) (x:Ext d H G):WebAt a G p hs ls dx oh ol d0 ad:=by
 have nt:∀ {b:Addr}{o:HO},H b=some o→(∀ kvs,o≠.dK kvs)→G b=some o:=fun {b o} e n=>x b o e fun z=>by rw[z,hd] at e;injection e with e;exact n _ e.symm
 have n0:d0≠d:=fun z=>by
  have e:=W.nr.d
  rw[z,hd] at e
  injection e with e
  injection e with e
  have l1:=wh.l1
  cases hs with
  |nil=>simp at l1
  |cons h hs =>
   cases us with
   |nil=>cases e
   |cons u us =>
    unfold tabV tab at e
    rw[List.map_cons,List.map_cons] at e
    injection e with e _
    injection e with _ e
    have e:opV (pf u)=V.ref (ad h):=e
    cases hp:pf u with
    |none=>rw[hp] at e;cases e
    |some y=>rw[hp] at e;cases e
 obtain⟨zs,o1,o2⟩:=W.ol
 exact⟨nt W.p (fun _ z=>by cases z),nt W.oh (fun _ z=>by cases z),⟨x _ _ W.nr.d n0,fun h hm=>nt (W.nr.nb h hm) (fun _ z=>by cases z)⟩,zs,nt o1 (fun _ z=>by cases z),o2.1,fun i r q h1 h2=>by
  obtain⟨t,e1,e2⟩:=o2.2 i r q h1 h2
  exact⟨t,e1,nt e2 (fun _ z=>by cases z)⟩⟩
def zbe (a:Ad):Sp:=fun vs H Q _=>∃ (p d:Addr) (hs us:LI) (ls:LP) (pf:Int→Option Int),vs=[.ref p,.ref d]∧WbP a H p hs ls∧H d=some (.dK (tabV (fun x=>opV (pf x)) us))∧us.Nodup∧(∀ x,x∈us↔x∈hs)∧Cl us pf∧∀ (b:Bool) (H':Hp),(b=true↔∀ x∈us,∀ y,pf x=some y→adB ls x y=true)→Same H H'→Q (.bl b) H'
theorem zay (T:Txt w K mg a):FnOk P w K mg base CX0 4 149 (dK K 149) ["web", "parents"] (zbe a):=by
 refine(T.fn 2 rfl).ok (scp 2 rfl) (fun vs H Q E h=>?_) (fun cdv A outer s H vs Q E hr h=>?_)
 ·obtain⟨p,d,hs,us,ls,pf,rfl,_⟩:=h
  rfl
 ·obtain⟨p,d,hs,us,ls,pf,rfl,WP,hd,nd,hm,C,k⟩:=h
  obtain⟨wdx,oh,ol,d0,ad,W⟩:=WP.at_
  have hlen:us.length=hs.length:=Nat.le_antisymm (wI nd fun x hx=>(hm x).mp hx) (wI (Vq WP.wh) fun x hx=>(hm x).mpr hx)
  refine yd (zb (zB (wJ (yt (zO (zG (zj zM (by rfl) (T.n 3 rfl) zq (zd (zh 1) (zd (zZ (T.n 5 rfl) xT) za))))) (yq (zo uv (zj v8 (by rfl) (T.n 0 rfl) yh (zd (zh 1) za)) (zj zw (by rfl) (T.n 0 rfl) yh (zT (yA (zh 0)) za)) (zC _)))))
    (zg (zi zI))
    zp)
   (zb (vt (zR PassesOwn.never rfl (xC (zh 1)) (yk rfl (zy (zn (i:=2) (scp 2 rfl).nd rfl (Or.inl rfl)) (zy (zn (i:=3) (scp 2 rfl).nd rfl (Or.inl rfl)) zY)))
    (zb (zB (zO (zG (zH (zh 0) (zd (zh 2) za))))
     (zg (zi zI))
     zp)
    (zg (zB (wJ (yU (zo vh (zh 3) yC (zC _)) (yK (zO (zG (zH (zh 0) (zd (zh 2) (zd (zh 3) za))))))))
     (zg (zi zI))
     zp)))))
   (zg (zi zI)))) ?_
  refine⟨_,rfl,_,_,_,_,_,rfl,rfl,.dK hd,(T.k 7 rfl),_,rfl,iteN rfl ?_⟩
  refine⟨_,rfl,d,_,rfl,hd,?_⟩
  refine mtV rfl W.p rfl (T.cl 1 rfl) (T.mt 42 rfl) (vU (P:=P) (w:=w) T) hr.m (T.bi 42 rfl) (ag0 (wO W (fun l hl=>?_)))
  have s1:=Same.new (o:=HO.lst (hs.map V.int)) hl
  have hl1:=upd_same (H:=H) (a:=l) (o:=HO.lst (hs.map V.int))
  generalize upd H l (HO.lst (hs.map V.int))=H1 at *
  refine⟨l,_,rfl,.inl (SqL.of hl1),rfl,_,rfl,iteN (by rw[tabV_len,List.length_map,hlen];simp) ?_⟩
  refine⟨_,rfl,d,_,rfl,s1 _ _ hd,fun od S=>?_⟩
  have hd1:=s1 _ _ hd
  have hz1:=upd_same (H:=H1) (a:=d) (o:=HO.frz od (HO.dK (tabV (fun x=>opV (pf x)) us)))
  have x1:Ext d H1 (upd H1 d (HO.frz od (HO.dK (tabV (fun x=>opV (pf x)) us)))):=Ext.at
  have W1:=(W.same s1).frz hd1 WP.wh x1
  generalize upd H1 d (HO.frz od (HO.dK (tabV (fun x=>opV (pf x)) us)))=G1 at *
  have back:∀ {G:Hp},Same G1 G→Same H (upd G d (HO.dK (tabV (fun x=>opV (pf x)) us))):=fun {G} sm b o e=>by
   by_cases z:b=d
   ·rw[z,hd] at e;cases e;rw[z];exact upd_same
   ·rw[upd_ne z];exact sm _ _ (x1 _ _ (s1 _ _ e) z)
  refine Zm (yl:=yI) (d:=d) (od:=od) (kvs:=tabV (fun x=>opV (pf x)) us) (fun i σ H'=>∃ (o2 o3:Option V),σ=[some (.ref p),some (.ref d),o2,o3]∧Same G1 H'∧∀ x∈us.take i,∀ y,pf x=some y→adB ls x y=true) ?_ ?_ ?_ ?_
  ·exact⟨none,none,rfl,fun _ _ h=>h,fun x hx=>by simp at hx⟩
  ·rintro i σ H' ⟨o2,o3,_,sm,_⟩
   exact sm _ _ hz1
  ·rintro i kv u σ G G' hkv ⟨o2,o3,rfl,sm,gd⟩ hy
   obtain⟨x,hx,rfl⟩:∃ x,us[i]?=some x∧kv=(Sum.inl x,opV (pf x)):=by
    unfold tabV at hkv
    rw[List.getElem?_map] at hkv
    obtain⟨x,h1,h2⟩:=Option.map_eq_some_iff.mp hkv
    exact⟨x,h1,h2.symm⟩
   obtain⟨p0,hp0,rfl,rfl⟩:=ZU hy
   have hxu:=List.mem_of_getElem? hx
   have etk:us.take (i+1)=us.take i++[x]:=by rw[List.take_add_one,hx];rfl
   have gd2:(∀ y,pf x=some y→adB ls x y=true)→∀ u∈us.take (i+1),∀ y,pf u=some y→adB ls u y=true:=fun h u hu=>by
    rw[etk] at hu
    rcases List.mem_append.mp hu with e | e
    ·exact gd u e
    ·rw[List.mem_singleton.mp e];exact h
   have n1:=Same.new (o:=HO.tup [V.int x,opV (pf x)]) hp0
   refine⟨p0,_,rfl,SqT.of upd_same,rfl,_,_,rfl,_,_,rfl,rfl,?_⟩
   have sm2:=sm.trans n1
   generalize upd G p0 (HO.tup [V.int x,opV (pf x)])=G2 at *
   have W2:=W1.same sm2
   refine mtV rfl W2.p rfl (T.cl 1 rfl) (T.mt 44 rfl) (Yw (P:=P) (w:=w) T) hr.m (T.bi 44 rfl) ⟨_,rfl,p,x,hs,ls,wdx,oh,ol,d0,ad,rfl,W2,(hm x).mp hxu,_,rfl,iteN rfl ?_⟩
   cases hpx:pf x with
   |none=>exact⟨_,rfl,rfl,_,rfl,iteN rfl ⟨_,_,rfl,sm2,gd2 fun y h=>by rw[hpx] at h;cases h⟩⟩
   |some y =>
    refine⟨_,rfl,rfl,_,rfl,xn ?_⟩
    refine mtV rfl W2.p rfl (T.cl 1 rfl) (T.mt 45 rfl) (Um (P:=P) (w:=w) T) hr.m (T.bi 45 rfl) ⟨_,rfl,_,rfl,p,x,y,hs,ls,wdx,oh,ol,d0,ad,rfl,W2,(hm x).mp hxu,(hm y).mp (C x hxu y hpx),_,rfl,?_⟩
    cases hb:adB ls x y with
    |true=>exact iteN rfl ⟨_,_,rfl,sm2,gd2 fun y' h=>by rw[hpx] at h;cases h;exact hb⟩
    |false =>
     refine xn ?_
     refine .inr ⟨d,od,_,S,sm2 _ _ hz1,k false _ ⟨fun z=>(nomatch z),fun h=>?_⟩ (back sm2)⟩
     rw[h x hxu y hpx] at hb
     cases hb
  ·rintro σ H' ⟨o2,o3,rfl,sm,gd⟩
   rw[tabV_len,List.take_length] at gd
   exact .inr ⟨d,od,_,S,sm _ _ hz1,k true _ ⟨fun _=>gd,fun _=>rfl⟩ (back sm)⟩
open L2.Sco (PT PsAt)
def zba (a:Ad):Sp:=fun vs H Q _=>∃ (p q dx dp ob:Addr) (hs us:LI) (ls bs:LP) (pf:Int→Option Int),vs=[.ref p,.ref q]∧WbP a H p hs ls∧WayAt a H q pf us bs dx dp ob∧(∀ x,x∈us↔x∈hs)∧Cl us pf∧∀ (b:Bool) (H':Hp),(b=true↔∀ x∈us,∃ l,En pf x l)→Same H H'→Q (.bl b) H'
theorem zau (T:Txt w K mg a):FnOk P w K mg base CX0 7 156 (dK K 156) ["web", "way"] (zba a):=by
 refine(T.fn 3 rfl).ok (scp 3 rfl) (fun vs H Q E h=>?_) (fun cdv A outer s H vs Q E hr h=>?_)
 ·obtain⟨p,q,dx,dp,ob,hs,us,ls,bs,pf,rfl,_⟩:=h
  rfl
 ·obtain⟨p,q,dx,dp,ob,hs,us,ls,bs,pf,rfl,WP,Y,hm,C,k⟩:=h
  obtain⟨wdx,oh,ol,d0,ad,W⟩:=WP.at_
  refine yd (zb (zR PassesOwn.never rfl (zE (yA (zh 0))) (zn (i:=2) (scp 3 rfl).nd rfl (Or.inl rfl))
    (zg (zB (zo vh (zH (zh 1) (zT (zH (zh 1) (zd (zh 2) za)) za)) yC (zC _))
     (zg (zi zI))
     zp)))
   (zg (zi zI))) ?_
  refine mtV rfl W.p rfl (T.cl 1 rfl) (T.mt 42 rfl) (vU (P:=P) (w:=w) T) hr.m (T.bi 42 rfl) (ag0 (wO W (fun l hl=>?_)))
  have s1:=Same.new (o:=HO.lst (hs.map V.int)) hl
  have hl1:=upd_same (H:=H) (a:=l) (o:=HO.lst (hs.map V.int))
  generalize upd H l (HO.lst (hs.map V.int))=H1 at *
  refine⟨l,rfl,⟨_,SqL.of hl1⟩,?_⟩
  refine for_list (xs:=hs.map V.int) (fun i σ H'=>∃ (o2:Option V),σ=[some (.ref p),some (.ref q),o2]∧Same H1 H'∧∀ x∈hs.take i,∃ l,En pf x l) ?_ ?_ ?_ ?_
  ·exact⟨none,rfl,fun _ _ h=>h,fun x hx=>by simp at hx⟩
  ·rintro i σ H' hi ⟨o2,_,sm,_⟩
   exact SqL.of (sm _ _ hl1)
  ·rintro i v σ G hi ⟨o2,rfl,sm,gd⟩
   rw[List.getElem?_map] at hi
   obtain⟨x,hx,rfl⟩:=Option.map_eq_some_iff.mp hi
   have hxu:=(hm x).mpr (List.mem_of_getElem? hx)
   have etk:hs.take (i+1)=hs.take i++[x]:=by rw[List.take_add_one,hx];rfl
   have Y1:=(Y.same s1).same sm
   refine mtV rfl Y1.p rfl (T.cl 0 rfl) (T.mt 36 rfl) (zaj (P:=P) (w:=w) T) hr.m (T.bi 36 rfl) (mtV rfl Y1.p rfl (T.cl 0 rfl) (T.mt 40 rfl) (Wr (P:=P) (w:=w) T) hr.m (T.bi 40 rfl) ⟨_,rfl,q,dx,dp,ob,pf,us,x,rfl,Y1.r,C,hxu,fun ys z G2 s2 hz hor=>?_⟩)
   refine⟨q,dx,dp,ob,pf,us,bs,.int z,true,rfl,Y1.same s2,.int _,fun G3 s3=>?_⟩
   have e:poV us pf (.int z)=opV (pf z):=if_pos hz
   rw[e]
   rcases hor with⟨h1,h2⟩ | ⟨h1,h2⟩
   ·rw[h1]
    refine⟨rfl,_,rfl,iteN rfl ⟨_,rfl,sm.trans (s2.trans s3),fun u hu=>?_⟩⟩
    rw[etk] at hu
    rcases List.mem_append.mp hu with e | e
    ·exact gd u e
    ·rw[List.mem_singleton.mp e];exact⟨_,h2⟩
   ·cases hpz:pf z with
    |none=>exact absurd hpz h1
    |some y =>
     refine⟨rfl,_,rfl,xn ?_⟩
     exact k false _ ⟨fun z=>(nomatch z),fun h=>absurd (h x hxu) h2⟩ (s1.trans (sm.trans (s2.trans s3)))
  ·rintro σ G ⟨o2,rfl,sm,gd⟩
   rw[List.length_map,List.take_length] at gd
   exact k true _ ⟨fun _ x hx=>gd x ((hm x).mp hx),fun _=>rfl⟩ (s1.trans sm)
def BrL (hs:LI) (bs:LP):Prop:=∀ b∈bs,b.1∈hs∧b.2∈hs
def za6 (a:Ad):Sp:=fun vs H Q _=>∃ (p q t dx dp ob:Addr) (hs us:LI) (ls bs:LP) (pf:Int→Option Int) (pa:Int→LI) (x y:Int),vs=[.ref p,.ref q,.ref t]∧WbP a H p hs ls∧WayAt a H q pf us bs dx dp ob∧(∀ x,x∈us↔x∈hs)∧UpP us pf pa∧(x∈hs∧y∈hs)∧H t=some (.tup [.int x,.int y])∧∀ (b:Bool) (H':Hp),(b=true↔adB ls x y=true∧x≤y∧ldr pa x≠ldr pa y)→Same H H'→Q (.bl b) H'
theorem zap (T:Txt w K mg a):FnOk P w K mg base CX0 4 163 (dK K 163) ["web", "way", "bridge"] (za6 a):=by
 refine(T.fn 4 rfl).ok (scp 4 rfl) (fun vs H Q E h=>?_) (fun cdv A outer s H vs Q E hr h=>?_)
 ·obtain⟨p,q,t,dx,dp,ob,hs,us,ls,bs,pf,pa,x,y,rfl,_⟩:=h
  rfl
 ·obtain⟨p,q,t,dx,dp,ob,hs,us,ls,bs,pf,pa,x,y,rfl,WP,Y,hm,U,⟨hxh,hyh⟩,ht,k⟩:=h
  obtain⟨wdx,oh,ol,d0,ad,W⟩:=WP.at_
  have hx:=(hm x).mpr hxh
  have hy:=(hm y).mpr hyh
  refine yd (zb (zB (wJ (yt (zO (zG (zj zM (by rfl) (T.n 3 rfl) zq (zd (zh 2) (zd (zZ (T.n 9 rfl) xa) za))))) (yq (zo uv (zj zw (by rfl) (T.n 0 rfl) yh (zd (zh 2) za)) ze (zC _)))))
    (zg (zi zI))
    zp)
   (zb (zB (wJ (yt (zO (zG (zH (zh 0) (zk (zv yc (zh 2) ze (fun _ _=>rfl)) (zk (zv yc (zh 2) ze (fun _ _=>rfl)) za))))) (yq (zo uy (zv yc (zh 2) ze (fun _ _=>rfl)) (zv yc (zh 2) ze (fun _ _=>rfl)) (zC _)))))
    (zg (zi zI))
    zp)
   (zg (zi (yg uv (zH (zh 1) (zk (zv yc (zh 2) ze (fun _ _=>rfl)) za)) (zH (zh 1) (zk (zv yc (zh 2) ze (fun _ _=>rfl)) za)) (zC _)))))) ?_
  refine⟨_,rfl,_,_,_,_,_,rfl,rfl,.tup ht,(T.k 3 rfl),_,rfl,iteN rfl ?_⟩
  refine⟨_,rfl,t,_,rfl,.inr (SqT.of ht),rfl,_,rfl,iteN rfl ?_⟩
  refine mtV rfl W.p rfl (T.cl 1 rfl) (T.mt 45 rfl) (Um (P:=P) (w:=w) T) hr.m (T.bi 45 rfl) ⟨_,rfl,t,_,0,_,rfl,rfl,SqT.of ht,rfl,_,rfl,t,_,1,_,rfl,rfl,SqT.of ht,rfl,p,x,y,hs,ls,wdx,oh,ol,d0,ad,rfl,W,hxh,hyh,_,rfl,?_⟩
  cases hadj:adB ls x y with
  |false=>exact iteB rfl (k false _ ⟨fun z=>(nomatch z),fun h=>by rw[hadj] at h;exact nomatch h.1⟩ (fun _ _ h=>h))
  |true =>
  refine iteN rfl ?_
  by_cases c:x>y
  ·refine⟨_,rfl,t,_,0,_,rfl,rfl,SqT.of ht,rfl,_,rfl,t,_,1,_,rfl,rfl,SqT.of ht,rfl,_,_,rfl,rfl,_,rfl,iteB (by simp;omega) ?_⟩
   exact k false _ ⟨fun z=>(nomatch z),fun h=>by have:=h.2.1;omega⟩ (fun _ _ h=>h)
  refine⟨_,rfl,t,_,0,_,rfl,rfl,SqT.of ht,rfl,_,rfl,t,_,1,_,rfl,rfl,SqT.of ht,rfl,_,_,rfl,rfl,_,rfl,iteN (by simp;omega) ?_⟩
  refine mtV rfl Y.p rfl (T.cl 0 rfl) (T.mt 40 rfl) (vT (P:=P) (w:=w) T) hr.m (T.bi 40 rfl) ⟨_,rfl,t,_,0,_,rfl,rfl,SqT.of ht,rfl,q,dx,dp,ob,pf,pa,us,x,rfl,Y.r,U,hx,fun G2 s2=>?_⟩
  refine mtV rfl (s2 _ _ Y.p) rfl (T.cl 0 rfl) (T.mt 40 rfl) (vT (P:=P) (w:=w) T) hr.m (T.bi 40 rfl) ⟨_,rfl,t,_,1,_,rfl,rfl,SqT.of (s2 _ _ ht),rfl,q,dx,dp,ob,pf,pa,us,y,rfl,(Y.same s2).r,U,hy,fun G3 s3=>?_⟩
  refine⟨rfl,?_⟩
  refine k _ _ ?_ (s2.trans s3)
  constructor
  ·intro z
   exact⟨hadj,by omega,fun e=>by rw[e] at z;simp at z⟩
  ·rintro⟨_,_,z⟩
   have e:decide (V.int (ldr pa x)=V.int (ldr pa y))=false:=decide_eq_false fun e=>z (by injection e)
   rw[e]
   rfl
def GdB (ls:LP) (lf:Int→Int) (bs:LP):Prop:=(∀ b∈bs,adB ls b.1 b.2=true∧b.1≤b.2∧lf b.1≠lf b.2)∧bs.Nodup
def zbd (a:Ad):Sp:=fun vs H Q _=>∃ (p q l dx dp ob:Addr) (hs us:LI) (ls bs:LP) (rs:List V) (pf:Int→Option Int) (pa:Int→LI),vs=[.ref p,.ref q,.ref l]∧WbP a H p hs ls∧WayAt a H q pf us bs dx dp ob∧(∀ x,x∈us↔x∈hs)∧UpP us pf pa∧BrL hs bs∧H l=some (.lst rs)∧LnAt H rs bs∧∀ (b:Bool) (H':Hp),(b=true↔GdB ls (ldr pa) bs)→Same H H'→Q (.bl b) H'
theorem zax (T:Txt w K mg a):FnOk P w K mg base CX0 5 170 (dK K 170) ["web", "way", "bridges"] (zbd a):=by
 have c_is_bridge:Callee P w K mg base "is_bridge" 163 (dK K 163) ["web", "way", "bridge"] 4 (za6 a):=⟨zap T,(T.g 4 rfl),(T.fn 4 rfl).kp,(T.bi 4 rfl)⟩
 refine(T.fn 5 rfl).ok (scp 5 rfl) (fun vs H Q E h=>?_) (fun cdv A outer s H vs Q E hr h=>?_)
 ·obtain⟨p,q,l,dx,dp,ob,hs,us,ls,bs,rs,pf,pa,rfl,_⟩:=h
  rfl
 ·obtain⟨p,q,l,dx,dp,ob,hs,us,ls,bs,rs,pf,pa,rfl,WP,Y,hm,U,BL,hl,hrs,k⟩:=h
  have l66:=Y.l66
  have hu:=xo hr
  refine yd (zb (zB (zO (zG (zj zM (by rfl) (T.n 3 rfl) zq (zd (zh 2) (zd (zZ (T.n 4 rfl) bt_list) za)))))
    (zg (zi zI))
    zp)
   (zb (zm (i:=3) (scp 5 rfl).nd rfl (Or.inl rfl) xJ)
   (zb (zR PassesOwn.never rfl (zE (zh 2)) (zn (i:=4) (scp 5 rfl).nd rfl (Or.inl rfl))
    (zb (zB (wJ (yt (zO (zG (zr c_is_bridge hr.m (zd (zh 0) (zd (zh 1) (zd (zh 4) za)))))) (yq (xY (wX hu (zh 4) (zh 3))))))
     (zg (zi zI))
     zp)
    (zg (yw hu (zh 3) (zh 4) zI rfl))))
   (zg (zi zI))))) ?_
  refine⟨_,rfl,_,_,_,_,_,rfl,rfl,.lst hl,(T.k 2 rfl),_,rfl,iteN rfl ?_⟩
  refine fun d hd=>?_
  refine⟨_,rfl,l,rfl,⟨_,SqL.of (Same.new hd _ _ hl)⟩,?_⟩
  refine for_list (K:=K) (a:=l) (xs:=rs) (fun i σ H'=>∃ (kvs:List (List Key×V)) (o:Option V),σ=[some (.ref p),some (.ref q),some (.ref l),some (.ref d),o]∧H' d=some (.dT kvs)∧kvs.map (·.1)=(bs.take i).map yb∧Same H H'∧GdB ls (ldr pa) (bs.take i)) ?_ ?_ ?_ ?_
  ·exact⟨[],none,rfl,upd_same,by simp,Same.new hd,by simp[GdB]⟩
  ·rintro i σ H' _ ⟨kvs,o,_,_,_,sm,_⟩
   exact SqL.of (sm _ _ hl)
  ·rintro i x σ H' hi ⟨kvs,o,rfl,hd',hk,sm,gd⟩
   obtain⟨b,t,hp,rfl,ht⟩:=(hrs.same sm).get hi
   have hbm:b∈bs:=List.mem_of_getElem? hp
   have etk:bs.take (i+1)=bs.take i++[b]:=by rw[List.take_add_one,hp];rfl
   refine⟨_,rfl,_,rfl,_,rfl,p,q,t,dx,dp,ob,hs,us,ls,bs,pf,pa,b.1,b.2,rfl,WP.same sm,Y.same sm,hm,U,BL b hbm,ht,fun bb H2 hbb s2=>⟨_,rfl,?_⟩⟩
   cases hbc:bb with
   |false =>
    refine xn ?_
    refine k false _ ⟨fun z=>(nomatch z),fun h=>?_⟩ (sm.trans s2)
    have:=hbb.mpr (h.1 b hbm)
    rw[hbc] at this
    cases this
   |true =>
   refine iteN rfl ?_
   have hd2:=s2 _ _ hd'
   have ht2:=s2 _ _ ht
   by_cases hin:b∈bs.take i
   ·have hs':(yM kvs (yb b)).isSome=true:=by
     rw[← yD]
     have h1:yb b∈kvs.map (·.1):=by rw[hk];exact List.mem_map_of_mem hin
     obtain⟨kv,h2,h3⟩:=List.mem_map.mp h1
     exact List.any_eq_true.mpr ⟨kv,h2,decide_eq_true h3⟩
    refine⟨_,rfl,_,rfl,d,_,rfl,DGet.t (k:=yb b) hd2 ht2,_,rfl,iteB hs' ?_⟩
    exact k false _ ⟨fun z=>(nomatch z),fun h=>absurd hin (uz h.2 hp)⟩ (sm.trans s2)
   have hnew:yb b∉kvs.map (·.1):=by
    rw[hk]
    intro z
    obtain⟨p',m',e'⟩:=List.mem_map.mp z
    rw[yn e'] at m'
    exact hin m'
   have hz:kvs.length≤1000:=by
    have:=congrArg List.length hk
    rw[List.length_map,List.length_map,List.length_take] at this
    omega
   refine⟨_,rfl,_,rfl,d,_,rfl,DGet.t (k:=yb b) hd2 ht2,_,rfl,iteN ?_ ?_⟩
   ·exact wZ hnew
   ·refine⟨_,rfl,_,rfl,d,_,rfl,DPut.t (k:=yb b) hd2 ht2 (zl hz),?_⟩
    refine⟨_,_,rfl,upd_same,?_,(sm.trans s2).updF hd,?_⟩
    ·rw[putK_new hnew,List.map_append,hk,etk,List.map_append]
     rfl
    ·rw[etk]
     refine⟨fun c hc=>?_,?_⟩
     ·rcases List.mem_append.mp hc with e | e
      ·exact gd.1 c e
      ·rw[List.mem_singleton.mp e];exact hbb.mp hbc
     ·rw[List.nodup_append]
      exact⟨gd.2,by simp,fun u hu v hv e=>hin (by rw[List.mem_singleton.mp hv] at e;rw[← e];exact hu)⟩
  ·rintro σ H' ⟨kvs,o,_,_,_,sm,gd⟩
   rw[hrs.1,List.take_length] at gd
   exact k true H' ⟨fun _=>gd,fun _=>rfl⟩ sm
structure GrB (us:LI) (ls:LP) (pf:Int→Option Int) (bs:LP):Prop where
 ad:∀ x∈us,∀ y,pf x=some y→adB ls x y=true
 en:∀ x∈us,∃ l,En pf x l
 gd:GdB ls (ldr (paO pf)) bs
def za5 (a:Ad):Sp:=fun vs H Q _=>∃ (p q dx dp ob:Addr) (hs us:LI) (ls bs:LP) (pf:Int→Option Int),vs=[.ref p,.ref q]∧WbP a H p hs ls∧WayAt a H q pf us bs dx dp ob∧(∀ x,x∈us↔x∈hs)∧Cl us pf∧BrL hs bs∧∀ (b:Bool) (H':Hp),(b=true↔GrB us ls pf bs)→Same H H'→Q (.bl b) H'
theorem zao (T:Txt w K mg a):FnOk P w K mg base CX0 8 177 (dK K 177) ["web", "way"] (za5 a):=by
 have c_are_parents:Callee P w K mg base "are_parents" 149 (dK K 149) ["web", "parents"] 4 (zbe a):=⟨zay T,(T.g 2 rfl),(T.fn 2 rfl).kp,(T.bi 2 rfl)⟩
 have c_come_to_leaders:Callee P w K mg base "come_to_leaders" 156 (dK K 156) ["web", "way"] 7 (zba a):=⟨zau T,(T.g 3 rfl),(T.fn 3 rfl).kp,(T.bi 3 rfl)⟩
 have c_are_bridges:Callee P w K mg base "are_bridges" 170 (dK K 170) ["web", "way", "bridges"] 5 (zbd a):=⟨zax T,(T.g 5 rfl),(T.fn 5 rfl).kp,(T.bi 5 rfl)⟩
 refine(T.fn 6 rfl).ok (scp 6 rfl) (fun vs H Q E h=>?_) (fun cdv A outer s H vs Q E hr h=>?_)
 ·obtain⟨p,q,dx,dp,ob,hs,us,ls,bs,pf,rfl,_⟩:=h
  rfl
 ·obtain⟨p,q,dx,dp,ob,hs,us,ls,bs,pf,rfl,WP,Y,hm,C,BL,k⟩:=h
  refine yd (zb (zB (wJ (yt (zO (zG (zj zM (by rfl) (T.n 3 rfl) zq (zd (zh 1) (zd (Xe (T.gc 0 rfl)) za))))) (yq (zO (zG (zr c_are_parents hr.m (zd (zh 0) (zT (yA (zh 1)) za))))))))
    (zg (zi zI))
    zp)
   (zg (zi (xu (zr c_come_to_leaders hr.m (zd (zh 0) (zd (zh 1) za))) (yW (zr c_are_bridges hr.m (zd (zh 0) (zd (zh 1) (zT (yA (zh 1)) za))))))))) ?_
  refine⟨_,rfl,_,_,_,_,_,rfl,rfl,(T.ty 0 rfl) H q dx _ Y.p,(T.k 16 rfl),_,rfl,iteN rfl ?_⟩
  refine⟨_,rfl,mtV rfl Y.p rfl (T.cl 0 rfl) (T.mt 37 rfl) (zaz (P:=P) (w:=w) T) hr.m (T.bi 37 rfl) (ag0 (VZ Y (fun d H1 hd hd1 s1=>?_)))⟩
  refine⟨p,d,hs,us,ls,pf,rfl,WP.same s1,hd1,Y.nd,hm,C,fun b1 H2 hb1 s2=>⟨_,rfl,?_⟩⟩
  have s02:=s1.trans s2
  cases hc1:b1 with
  |false=>exact xn (k false _ ⟨fun z=>(nomatch z),fun h=>by have:=hb1.mpr h.ad;rw[hc1] at this;cases this⟩ s02)
  |true =>
  refine iteN rfl ?_
  refine⟨_,rfl,_,rfl,p,q,dx,dp,ob,hs,us,ls,bs,pf,rfl,WP.same s02,Y.same s02,hm,C,fun b2 H3 hb2 s3=>⟨_,rfl,?_⟩⟩
  have s03:=s02.trans s3
  cases hc2:b2 with
  |false=>exact iteN rfl (k false _ ⟨fun z=>(nomatch z),fun h=>by have:=hb2.mpr h.en;rw[hc2] at this;cases this⟩ s03)
  |true =>
  refine xn ?_
  have en:=hb2.mp hc2
  refine⟨_,rfl,_,rfl,mtV rfl (s03 _ _ Y.p) rfl (T.cl 0 rfl) (T.mt 38 rfl) (ok_ab (P:=P) (w:=w) T) hr.m (T.bi 38 rfl) (ag0 (Wf (Y.same s03) (fun l rs H4 hl hl4 L4 s4=>?_)))⟩
  have s04:=s03.trans s4
  exact⟨p,q,l,dx,dp,ob,hs,us,ls,bs,rs,pf,paO pf,rfl,WP.same s04,Y.same s04,hm,UpP.of C en,BL,hl4,L4,fun b3 H5 hb3 s5=>k _ _ (hb3.trans ⟨fun h=>⟨hb1.mp hc1,en,h⟩,fun h=>h.gd⟩) (s04.trans s5)⟩
structure GG (us:LI) (ls:LP) (pf:Int→Option Int) (bs:LP):Prop where
 g:GrB us ls pf bs
 cov:∀ p∈ls,ldr (paO pf) p.1≠ldr (paO pf) p.2→∃ b∈bs,jk (ldr (paO pf)) b=jk (ldr (paO pf)) p
theorem vV:∀ {as bs:LP},as.Nodup→(∀ x∈as,x∈bs)→as.length≤bs.length
 |[],_,_,_=>Nat.zero_le _
 |a::as,bs,hn,hs=>by
  rw[List.nodup_cons] at hn
  have ha:=hs a List.mem_cons_self
  have ih:=vV (as:=as) (bs:=bs.erase a) hn.2 fun x hx=>by
   have ne:x≠a:=fun z=>hn.1 (by rw[← z];exact hx)
   exact(List.mem_erase_of_ne ne).mpr (hs x (List.mem_cons_of_mem _ hx))
  rw[List.length_erase_of_mem ha] at ih
  have:=List.length_pos_of_mem ha
  rw[List.length_cons];omega
theorem zbS {hs:LI}{ls:LP}{b:Int×Int}(wl:Ls hs ls) (h1:adB ls b.1 b.2=true) (h2:b.1≤b.2):b∈ls:=by
 unfold adB at h1
 rw[Bool.or_eq_true,decide_eq_true_eq,decide_eq_true_eq] at h1
 rcases h1 with h1 | h1
 ·exact h1
 ·have:=(wl.ok _ h1).2.2
  dsimp only at this
  omega
def XsAt (H:Hp) (l:Addr):Prop:=∃ ns:LI,H l=some (.lst (ns.map V.int))∧(∀ n∈ns,0≤n)∧ns.length≤400
theorem XsAt.ne {H:Hp}{l p:Addr}(s:XsAt H l) (h:H p=none):p≠l:=fun z=>by
 obtain⟨ns,e,_⟩:=s
 rw[← z,h] at e
 cases e
theorem XsAt.same {H H':Hp}{l:Addr}(s:XsAt H l) (k:Same H H'):XsAt H' l:=by
 obtain⟨ns,e,h⟩:=s
 exact⟨ns,k _ _ e,h⟩
theorem XsAt.new {H:Hp}{l p:Addr}{o:HO}(s:XsAt H l) (h:H p=none):XsAt (upd H p o) l:=s.same (Same.new h)
theorem XsAt.upd {H:Hp}{l p:Addr}{o:HO}(s:XsAt H l) (h:p≠l):XsAt (upd H p o) l:=by
 obtain⟨ns,e,h'⟩:=s
 exact⟨ns,by rw[upd_ne h.symm];exact e,h'⟩
def We (K:PySem.W.Frag):Sp:=fun vs H Q _=>∃ (l:Addr) (ns:LI) (k:Int),vs=[.ref l,.int k]∧SqL K H l (ns.map V.int)∧0≤k∧∀ i:Int,Q (.int i) H
theorem Vj (T:Txt w K mg a):FnOk P w K mg base CX0 1 336 (dK K 336) ["_law_script", "_law_k"] (We K):=by
 refine(T.fn 19 rfl).ok (scp 19 rfl) (fun vs H Q E h=>?_) (fun cdv A outer s H vs Q E hr h=>?_)
 ·obtain⟨l,ns,k,rfl,_⟩:=h
  rfl
 ·obtain⟨l,ns,k,rfl,hl,k0,q⟩:=h
  refine yd (zb (zB (zo uw (zh 1) (zj zw (by rfl) (T.n 0 rfl) yh (zd (zh 0) za)) (zC _))
    (zg (zi (zv zF (zh 0) (zh 1) (fun _ _=>rfl))))
    zp)
   (zg (zi ze))) ?_
  refine⟨_,rfl,_,rfl,l,_,rfl,.inl hl,_,_,rfl,rfl,_,rfl,?_⟩
  rw[List.length_map]
  refine ite2 (fun z=>?_) (fun z=>?_)
  ·have z:k<ns.length:=of_decide_eq_true z
   obtain⟨n,rfl⟩:∃ n:Nat,k=n:=⟨k.toNat,by omega⟩
   have hn:n<ns.length:=by omega
   refine⟨_,rfl,_,rfl,l,_,_,V.int ns[n],rfl,rfl,hl,zW (by simp[hn]),?_⟩
   exact q _
  ·exact q 0
def xf:Sp:=fun vs H Q _=>∃ (l:Addr) (n:Int),vs=[.ref l,.int n]∧XsAt H l∧0<n∧∀ (d:Int) (H':Hp),0≤d→d<n→XsAt H' l→Ext l H H'→Q (.int d) H'
theorem wt (T:Txt w K mg a):FnOk P w K mg base CX0 1 350 (dK K 350) ["_law_xs", "_law_size"] xf:=by
 refine(T.fn 21 rfl).ok (scp 21 rfl) (fun vs H Q E h=>?_) (fun cdv A outer s H vs Q E hr h=>?_)
 ·obtain⟨l,n,rfl,_⟩:=h
  rfl
 ·obtain⟨l,n,rfl,⟨ns,hl,h0,hlen⟩,hn,k⟩:=h
  have un:∀ n:Nat,n≤3→(A.deeper (PyProof.Rows.envOfC "_law_take" (defScope (top 34)) s.heap.objs.size 350 cdv)).units+n+2<cLine:=fun n hn=>by
   have:=hr.units
   omega
  refine yd (zb (zB (zo (wq Yr Ys) (zh 0) (zA za) (zC _))
    (zg (zi ze))
    zp)
   (zg (zi (zu xW (yu PySem.F.plainAttrs_list PySem.F.slot_list_pop PySem.F.type_list_pop Zg (zh 0) (zK ze za)) (zh 1))))) ?_
  refine⟨_,rfl,(by show 0≤sizeLine;decide),fun q hq=>?_⟩
  have hql:q≠l:=fun z=>by rw[z,hl] at hq;cases hq
  have hl1:(L2.upd H q (.lst [])) l=_:=(upd_ne hql.symm).trans hl
  cases ns with
  |nil =>
   refine .inl ⟨l,q,_,_,fun _=>true,0,rfl,rfl,.inl ⟨SqL.of hl1,SqL.of upd_same⟩,rfl,?_,?_,?_⟩
   ·exact un 0 (by decide)
   ·intro j x y hx
    cases hx
   ·refine⟨_,rfl,iteB rfl ?_⟩
    exact k 0 _ (Int.le_refl _) hn ⟨[],hl1,h0,hlen⟩ (Ext.new hq)
  |cons n0 ns =>
   refine .inr ⟨l,q,_,_,rfl,rfl,SqL.of hl1,SqL.of upd_same,(by simp),?_,?_⟩
   ·exact Nat.lt_of_le_of_lt (Nat.le_add_right _ 2) (un 0 (by decide))
   ·refine⟨_,rfl,iteN rfl ?_⟩
    refine⟨_,rfl,.inl ⟨rfl,_,SqL.of hl1⟩,l,_,0,0,_,rfl,rfl,hl1,by decide,by decide,(by simp[seqIndex?]),rfl,?_⟩
    refine⟨_,rfl,_,_,rfl,rfl,hn,?_⟩
    refine k _ _ (Int.emod_nonneg _ (Int.ne_of_gt hn)) (Int.emod_lt_of_pos _ hn) ⟨ns,upd_same,fun x hx=>h0 x (List.mem_cons_of_mem _ hx),?_⟩ ((Ext.new hq).trans Ext.at)
    have:ns.length+1≤400:=hlen
    omega
def Z6:Sp:=fun vs H Q _=>∃ (c:Int) (m:Nat),vs=[.int c,.int (m:Int)]∧m≤400∧∀ (q:Addr) (H':Hp),H q=none→XsAt H' q→Same H H'→Q (.ref q) H'
theorem Xy (T:Txt w K mg a):FnOk P w K mg base CX0 1 343 (dK K 343) ["_law_cell", "_law_many"] Z6:=by
 refine(T.fn 20 rfl).ok (scp 20 rfl) (fun vs H Q E h=>?_) (fun cdv A outer s H vs Q E hr h=>?_)
 ·obtain⟨c,m,rfl,_⟩:=h
  rfl
 ·obtain⟨c,m,rfl,hm,k⟩:=h
  refine yd (zb (zm (i:=2) (scp 20 rfl).nd rfl (Or.inl rfl) (zA za))
   (zb (zm (i:=3) (scp 20 rfl).nd rfl (Or.inl rfl) ze)
   (zX (zB (zo zad (zh 0) (zu Zf ze ze) (zC _))
    (zg (zm (i:=3) (scp 20 rfl).nd rfl (Or.inl rfl) (zu wo (zh 0) (zu Zf ze ze))))
    zp)
   (zb (xt PassesOwn.never (wJ (yU (zo uy (zh 3) ze (zC _)) (yK (zo uw (zj zw (by rfl) (T.n 0 rfl) yh (zd (zh 2) za)) (zh 1) (zC _)))))
    (zb (zQ (yu PySem.F.plainAttrs_list PySem.F.slot_list_append PySem.F.type_list_append zU (zh 2) (yS (zu xW (zh 3) (zu Zf ze ze)) za)))
    (zg (zm (i:=3) (scp 20 rfl).nd rfl (Or.inl rfl) (zu wb (zh 3) (zu Zf ze ze))))))
   (zb (zm (i:=4) (scp 20 rfl).nd rfl (Or.inl rfl) (zu xW (zu vS (zu xk (zu xW (zh 0) ze) ze) ze) ze))
   (zb (zR PassesOwn.never rfl (yV rfl (T.n 2 rfl) (yS (zu wo (zh 1) (zj zw (by rfl) (T.n 0 rfl) yh (zd (zh 2) za))) za)) (zn (i:=5) (scp 20 rfl).nd rfl (Or.inl rfl))
    (zb (zm (i:=4) (scp 20 rfl).nd rfl (Or.inl rfl) (zu xW (zu vS (zu xk (zu xk (zh 4) (zu vS ze (zh 5))) ze) ze) ze))
    (zb (zm (i:=6) (scp 20 rfl).nd rfl (Or.inl rfl) (zu xW (zu vS (zh 4) (zu xk (zu wb (zh 4) ze) ze)) ze))
    (zg (zQ (yu PySem.F.plainAttrs_list PySem.F.slot_list_append PySem.F.type_list_append zU (zh 2) (yS (zu xW (zu vS (zh 6) (zu xk (zu wb (zh 6) ze) ze)) ze) za)))))))
   (zg (zi (zh 2))))))))) ?_
  refine⟨(by show 0≤sizeLine;decide),fun p hp=>?_⟩
  refine⟨fun σ' H'=>∃ rest:Int,σ'=[some (.int c),some (.int m),some (.ref p),some (.int rest),none,none,none]∧H'=L2.upd H p (.lst []),?_,?_⟩
  ·refine⟨_,rfl,_,_,rfl,rfl,⟨by decide,by decide,by decide⟩,_,_,rfl,rfl,_,rfl,?_⟩
   refine ite2 (fun _=>?_) (fun _=>?_)
   ·exact⟨_,rfl,_,_,rfl,rfl,⟨by decide,by decide,by decide⟩,_,_,rfl,rfl,_,rfl,rfl⟩
   ·exact⟨_,rfl,rfl⟩
  ·rintro σ' H' ⟨rest,rfl,rfl⟩
   refine⟨fun μ σ H'=>∃ (ns:LI) (rest:Int),μ=m-ns.length∧σ=[some (.int c),some (.int m),some (.ref p),some (.int rest),none,none,none]∧H' p=some (.lst (ns.map V.int))∧Same H H'∧(∀ n∈ns,0≤n)∧ns.length≤m,⟨_,[],rest,rfl,rfl,upd_same,Same.new hp,(fun n hn=>nomatch hn),Nat.zero_le _⟩,?_⟩
   rintro μ σ H1 ⟨ns,rest,rfl,rfl,hp1,s1,h0,hlen⟩
   refine⟨_,rfl,_,_,rfl,rfl,_,rfl,?_⟩
   refine(fun hB=>ite2 (fun _=>⟨_,rfl,p,_,rfl,.inl (SqL.of hp1),_,rfl,_,_,rfl,rfl,_,rfl,ite2 (fun z=>?gC) (fun _=>hB)⟩) (fun _=>hB)) ?gB
   case gC =>
    have z:(ns.length:Int)<m:=by
     have z:=of_decide_eq_true z
     rw[List.length_map] at z
     exact z
    refine⟨_,fun σ' H' h=>h,?_⟩
    refine⟨_,rfl,.inl ⟨rfl,_,SqL.of hp1⟩,_,rfl,_,_,rfl,rfl,⟨by decide,by decide,by decide⟩,_,_,rfl,rfl,(by show(0:Int)<10 ^ Int.toNat 6;decide),p,_,_,rfl,rfl,hp1,(by rw[List.length_map];exact zl (by omega)),?_⟩
    refine⟨_,rfl,_,_,rfl,rfl,⟨by decide,by decide,by decide⟩,_,_,rfl,rfl,⟨(by show(0:Int)<10 ^ Int.toNat 6;decide),(by show(10 ^ Int.toNat 6:Int).natAbs.log2<9000;decide)⟩,?_⟩
    refine⟨m-(ns.length+1),by omega,ns++[rest%10 ^ Int.toNat 6],_,by simp,rfl,?_,Same.updF s1 hp,?_,by simp;omega⟩
    ·rw[upd_same,List.map_append]
     rfl
    ·intro n hn
     rcases List.mem_append.mp hn with h | h
     ·exact h0 n h
     ·rw[List.mem_singleton.mp h]
      exact Int.emod_nonneg _ (by decide)
   case gB =>
    refine⟨_,rfl,_,_,rfl,rfl,(by show(0:Int)<2147483647;decide),_,_,rfl,rfl,_,_,rfl,rfl,.inr ⟨by decide,by decide⟩,_,_,rfl,rfl,(by show(0:Int)<2147483647;decide),?_⟩
    refine⟨_,rfl,_,rfl,p,_,rfl,.inl (SqL.of hp1),_,_,rfl,rfl,?_⟩
    rw[List.length_map]
    refine⟨(m:Int)-ns.length,rfl,by omega,by omega,?_⟩
    generalize ((c%2147483647+1)*48271%2147483647)=x0
    refine for_range (lo:=0) (fun i σ H'=>∃ (ns':LI) (x:Int) (o5 o6:Option V),σ=[some (.int c),some (.int m),some (.ref p),some (.int rest),some (.int x),o5,o6]∧H' p=some (.lst (ns'.map V.int))∧Same H H'∧(∀ n∈ns',0≤n)∧ns'.length=ns.length+i) ?_ ?_ ?_
    ·exact⟨ns,_,none,none,rfl,hp1,s1,h0,rfl⟩
    ·rintro i σ H2 hi ⟨ns',x,o5,o6,rfl,hp2,s2,h2,hl2⟩
     refine⟨_,rfl,_,rfl,_,_,rfl,rfl,.inl ⟨by decide,by decide⟩,_,_,rfl,rfl,_,_,rfl,rfl,_,_,rfl,rfl,.inr ⟨by decide,by decide⟩,_,_,rfl,rfl,(by show(0:Int)<2147483647;decide),?_⟩
     generalize hv:(x+7919*(0+(i:Int))+1)*48271%2147483647=v
     have v1:0≤v:=by rw[← hv];exact Int.emod_nonneg _ (by decide)
     have v2:v<2147483647:=by rw[← hv];exact Int.emod_lt_of_pos _ (by decide)
     refine⟨_,rfl,_,rfl,_,_,rfl,rfl,⟨by show(0:Int)<1009;decide,XI⟩,_,_,rfl,rfl,_,_,rfl,rfl,.inl ⟨by omega,by omega⟩,_,_,rfl,rfl,(by show(0:Int)<2147483647;decide),?_⟩
     generalize hu:v*(v/1009+65537)%2147483647=u
     have u1:0≤u:=by rw[← hu];exact Int.emod_nonneg _ (by decide)
     have u2:u<2147483647:=by rw[← hu];exact Int.emod_lt_of_pos _ (by decide)
     refine⟨_,rfl,.inl ⟨rfl,_,SqL.of hp2⟩,_,rfl,_,rfl,_,_,rfl,rfl,⟨by show(0:Int)<2003;decide,XH⟩,_,_,rfl,rfl,_,_,rfl,rfl,.inl ⟨by omega,by omega⟩,_,_,rfl,rfl,(by show(0:Int)<2147483399;decide),p,_,_,rfl,rfl,hp2,(by rw[List.length_map];exact zl (by omega)),?_⟩
     refine⟨ns'++[u*(u/2003+40697)%2147483399],v,some (.int (0+(i:Int))),some (.int u),(by rw[← hu,← hv];rfl),?_,Same.updF s2 hp,?_,by simp;omega⟩
     ·rw[upd_same,List.map_append,← hu,← hv]
      rfl
     ·intro n hn
      rcases List.mem_append.mp hn with h | h
      ·exact h2 n h
      ·rw[List.mem_singleton.mp h]
       exact Int.emod_nonneg _ (by decide)
    ·rintro σ H2 ⟨ns',x,o5,o6,rfl,hp2,s2,h2,hl2⟩
     exact⟨_,rfl,k p H2 hp ⟨ns',hp2,h2,by omega⟩ s2⟩
def ot1 (ls:LP) (x:Int):LI:=(ls.filter fun p=>decide (p.1=x)).map (·.2)
def ot2 (ls:LP) (x:Int):LI:=(ls.filter fun p=>decide (p.2=x)).map (·.1)
theorem Xv {ls:LP}{p:Int×Int}{x:Int}:ot1 (ls++[p]) x=ot1 ls x++if p.1=x then[p.2] else[]:=by
 unfold ot1
 rw[List.filter_append,List.map_append]
 by_cases c:p.1=x<;>simp[c]
theorem Xu {ls:LP}{p:Int×Int}{x:Int}:ot2 (ls++[p]) x=ot2 ls x++if p.2=x then[p.1] else[]:=by
 unfold ot2
 rw[List.filter_append,List.map_append]
 by_cases c:p.2=x<;>simp[c]
theorem Ym {x:Int}:∀ {ls:LP},(ot1 ls x++ot2 ls x).Perm (nbs ls x)
 |[]=>List.Perm.refl _
 |p::ls=>by
  have e:nbs (p::ls) x=((if p.1=x then[p.2] else[])++if p.2=x then[p.1] else[])++nbs ls x:=by unfold nbs;rw[List.flatMap_cons]
  have e1:ot1 (p::ls) x=(if p.1=x then[p.2] else[])++ot1 ls x:=by unfold ot1;by_cases c:p.1=x<;>simp[c]
  have e2:ot2 (p::ls) x=(if p.2=x then[p.1] else[])++ot2 ls x:=by unfold ot2;by_cases c:p.2=x<;>simp[c]
  rw[e,e1,e2]
  refine List.Perm.trans ?_ (List.Perm.append_left _ (Ym (ls:=ls)))
  rw[List.append_assoc,List.append_assoc]
  refine List.Perm.append_left _ ?_
  rw[← List.append_assoc,← List.append_assoc]
  exact List.Perm.append_right _ List.perm_append_comm
theorem Wo {ls:LP}{x:Int}:(ot1 ls x).length≤ls.length∧(ot2 ls x).length≤ls.length:=by
 unfold ot1 ot2
 rw[List.length_map,List.length_map]
 exact⟨List.length_filter_le _ _,List.length_filter_le _ _⟩
def U1:Sp:=fun vs H Q _=>∃ (q:Addr) (x:Int) (rs:List V) (hs:LI) (ls:LP),vs=[.ref q,.int x]∧H q=some (.lst rs)∧LnAt H rs ls∧Hs hs∧Ls hs ls ∧
 ∀ (p:Addr) (H':Hp),H p=none→Same H H'→H' p=some (.lst ((hs.filter (adB ls x)).map V.int))→Q (.ref p) H'
theorem Ul (T:Txt w K mg a):FnOk P w K mg base CX0 1 374 (dK K 374) ["_law_lines_here", "_law_hand"] U1:=by
 refine(T.fn 25 rfl).ok (scp 25 rfl) (fun vs H Q E h=>?_) (fun cdv A outer s H vs Q E hr h=>?_)
 ·obtain⟨q,x,rs,hs,ls,rfl,_⟩:=h
  rfl
 ·obtain⟨q,x,rs,hs,ls,rfl,hq,L,wh,wl,k⟩:=h
  have hu:=xo hr
  have l66:=wl.le
  refine yd (zb (xU (i:=2) rfl (scp 25 rfl).nd rfl (Or.inl rfl) (N':=["_law_one", "_law_other", "_law_hand"]) (t:=2) (caps:=[1]) ⟨rfl,rfl,rfl⟩ (zE (zh 0)) (fun _=>(yk rfl (zy (zn (i:=0) (show(["_law_one", "_law_other", "_law_hand"]:List Str).Nodup by decide +kernel) rfl (Or.inl rfl)) (zy (zn (i:=1) (show(["_law_one", "_law_other", "_law_hand"]:List Str).Nodup by decide +kernel) rfl (Or.inl rfl)) zY)))) (fun _=>(xi (zo yG (zh 0) (zh 2) (zC _)))) (fun _=>(zh 1)))
   (zg (zi (zj wU (by rfl) (T.n 6 rfl) xr (yS (zu yO (zh 2) (yo rfl (N':=["_law_one", "_law_other", "_law_hand"]) (t:=2) (caps:=[1]) ⟨rfl,rfl,rfl⟩ (zE (zh 0)) (fun _=>(yk rfl (zy (zn (i:=0) (show(["_law_one", "_law_other", "_law_hand"]:List Str).Nodup by decide +kernel) rfl (Or.inl rfl)) (zy (zn (i:=1) (show(["_law_one", "_law_other", "_law_hand"]:List Str).Nodup by decide +kernel) rfl (Or.inl rfl)) zY)))) (fun _=>(xi (zo yG (zh 1) (zh 2) (zC _)))) (fun _=>(zh 0)))) za))))) ?_
  refine⟨_,rfl,q,rfl,⟨_,SqL.of hq⟩,fun D hD _=>?_⟩
  refine comp_list (K:=K) (a:=q) (xs:=rs) (fun j zs τ H'=>∃ o1 o2,τ=[o1,o2,some (.int x)]∧zs=(ot1 (ls.take j) x).map V.int∧H' D=some (.lst zs)∧Same H H') ?_ ?_ ?_ ?_
  ·exact⟨none,none,rfl,rfl,upd_same,Same.new hD⟩
  ·rintro j zs τ H' ⟨o1,o2,_,_,_,sm⟩
   exact SqL.of (sm _ _ hq)
  ·rintro j v zs τ H' hj ⟨o1,o2,rfl,rfl,hD',sm⟩
   obtain⟨pr,r,hpr,rfl,hr'⟩:=L.get hj
   refine⟨r,_,rfl,SqT.of (sm _ _ hr'),rfl,_,_,rfl,_,_,rfl,rfl,?_⟩
   refine⟨_,rfl,_,rfl,rfl,_,rfl,?_⟩
   have st:ot1 (ls.take (j+1)) x=ot1 (ls.take j) x++if pr.1=x then[pr.2] else[]:=by
    rw[List.take_add_one,hpr]
    exact Xv
   refine ite2 (fun z=>?_) (fun z=>?_)
   ·have z:pr.1=x:=by
     have:=of_decide_eq_true z
     injection this
    refine⟨_,rfl,hD',?_,_,_,rfl,?_,upd_same,Same.updF sm hD⟩
    ·rw[List.length_map]
     have:=(Wo (ls:=ls.take j) (x:=x)).1
     rw[List.length_take] at this
     exact zl (by omega)
    ·rw[st,if_pos z,List.map_append]
     rfl
   ·have z:¬ pr.1=x:=fun e=>z (by rw[e];exact decide_eq_true rfl)
    refine⟨_,_,rfl,?_,hD',sm⟩
    rw[st,if_neg z,List.append_nil]
  ·rintro zs τ H1 ⟨o1,o2,rfl,rfl,hD1,sm⟩
   rw[L.1,List.take_length] at hD1
   refine⟨_,rfl,_,rfl,q,rfl,⟨_,SqL.of (sm _ _ hq)⟩,fun D2 hD2 _=>?_⟩
   refine comp_list (K:=K) (a:=q) (xs:=rs) (fun j zs τ H'=>∃ o1 o2,τ=[o1,o2,some (.int x)]∧zs=(ot2 (ls.take j) x).map V.int∧H' D2=some (.lst zs)∧Same H1 H') ?_ ?_ ?_ ?_
   ·exact⟨none,none,rfl,rfl,upd_same,Same.new hD2⟩
   ·rintro j zs τ H' ⟨o1,o2,_,_,_,sm2⟩
    exact SqL.of (sm2 _ _ (sm _ _ hq))
   ·rintro j v zs τ H' hj ⟨o1,o2,rfl,rfl,hD',sm2⟩
    obtain⟨pr,r,hpr,rfl,hr'⟩:=L.get hj
    refine⟨r,_,rfl,SqT.of (sm2 _ _ (sm _ _ hr')),rfl,_,_,rfl,_,_,rfl,rfl,?_⟩
    refine⟨_,rfl,_,rfl,rfl,_,rfl,?_⟩
    have st:ot2 (ls.take (j+1)) x=ot2 (ls.take j) x++if pr.2=x then[pr.1] else[]:=by
     rw[List.take_add_one,hpr]
     exact Xu
    refine ite2 (fun z=>?_) (fun z=>?_)
    ·have z:pr.2=x:=by
      have:=of_decide_eq_true z
      injection this
     refine⟨_,rfl,hD',?_,_,_,rfl,?_,upd_same,Same.updF sm2 hD2⟩
     ·rw[List.length_map]
      have:=(Wo (ls:=ls.take j) (x:=x)).2
      rw[List.length_take] at this
      exact zl (by omega)
     ·rw[st,if_pos z,List.map_append]
      rfl
    ·have z:¬ pr.2=x:=fun e=>z (by rw[e];exact decide_eq_true rfl)
     refine⟨_,_,rfl,?_,hD',sm2⟩
     rw[st,if_neg z,List.append_nil]
   ·rintro zs τ H2 ⟨o1',o2',rfl,rfl,hD3,sm2⟩
    rw[L.1,List.take_length] at hD3
    have pmx:=Ym (x:=x) (ls:=ls)
    have few:=Vl (x:=x) wh wl
    have flen:=pmx.length_eq
    rw[List.length_append] at flen
    refine⟨D,D2,_,_,rfl,rfl,sm2 _ _ hD1,hD3,(by rw[List.length_map,List.length_map];exact Nat.le_of_lt (zl (by omega))),fun p hp=>?_⟩
    have hp':L2.upd H2 p (HO.lst (List.map V.int (ot1 ls x)++List.map V.int (ot2 ls x))) p=some (.lst ((ot1 ls x++ot2 ls x).map V.int)):=by rw[upd_same,List.map_append]
    have y3:=Same.new (o:=HO.lst (List.map V.int (ot1 ls x)++List.map V.int (ot2 ls x))) hp
    have y123:=(sm.trans sm2).trans y3
    exact⟨p,_,rfl,SqL.of hp',by rw[List.length_append];omega,fun q' ms hq' pm sd=>by
     rw[Xn wh wl (pm.trans pmx) sd]
     exact k q' _ (y123.free hq') (y123.trans (Same.new hq')) upd_same⟩
def za2:Sp:=fun vs H Q _=>∃ (l:Addr) (mo:Int),vs=[.ref l,.int mo]∧0<mo∧mo≤12∧XsAt H l ∧
 ∀ (h:Addr) (hs:LI) (H':Hp),H h=none→H' h=some (.lst (hs.map V.int))→Hs hs→(hs.length:Int)≤mo→XsAt H' l→Ext l H H'→Q (.ref h) H'
theorem zam (T:Txt w K mg a):FnOk P w K mg base CX0 2 355 (dK K 355) ["_law_xs", "_law_most"] za2:=by
 have c__law_take:Callee P w K mg base "_law_take" 350 (dK K 350) ["_law_xs", "_law_size"] 1 xf:=⟨wt T,(T.g 21 rfl),(T.fn 21 rfl).kp,(T.bi 21 rfl)⟩
 refine(T.fn 22 rfl).ok (scp 22 rfl) (fun vs H Q E h=>?_) (fun cdv A outer s H vs Q E hr h=>?_)
 ·obtain⟨l,mo,rfl,_⟩:=h
  rfl
 ·obtain⟨l,mo,rfl,mo0,mo12,hs,k⟩:=h
  refine yd (zb (zm (i:=2) (scp 22 rfl).nd rfl (Or.inl rfl) (zr c__law_take hr.m (zd (zh 0) (zK ze za))))
   (zb (zm (i:=3) (scp 22 rfl).nd rfl (Or.inr rfl) (zA (zd (zh 2) za)))
   (zb (zR PassesOwn.never rfl (yV rfl (T.n 2 rfl) (zT (zr c__law_take hr.m (zd (zh 0) (zd (zh 1) za))) za)) (zn (i:=4) (scp 22 rfl).nd rfl (Or.inl rfl))
    (zb (zm (i:=2) (scp 22 rfl).nd rfl (Or.inl rfl) (zu xk (zu xk (zh 2) ze) (zr c__law_take hr.m (zd (zh 0) (zK ze za)))))
    (zg (zQ (yu PySem.F.plainAttrs_list PySem.F.slot_list_append PySem.F.type_list_append zU (zh 3) (zd (zh 2) za))))))
   (zX (zB (zo yG (zr c__law_take hr.m (zd (zh 0) (zK ze za))) ze (zC _))
    (zg (zm (i:=3) (scp 22 rfl).nd rfl (Or.inr rfl) (yo rfl (N':=["_law_one", "_law_found"]) (t:=1) (caps:=[3]) ⟨rfl,rfl,rfl⟩ (zE (zh 3)) (fun _=>(zn (i:=0) (show(["_law_one", "_law_found"]:List Str).Nodup by decide +kernel) rfl (Or.inl rfl))) (fun _=>yF) (fun _=>(zu wo (zu xk (zh 0) ze) (zv zF (zh 1) (yx yN ze) (fun _ _=>rfl)))))))
    zp)
   (zg (zi (zh 3))))))) ?_
  refine⟨_,rfl,l,5,rfl,hs,by decide,fun d0 H1 g1 g2 s1 x1=>?_⟩
  refine⟨_,rfl,(by show 1≤sizeLine;decide),fun p hp=>?_⟩
  have npl:=s1.ne hp
  refine⟨_,rfl,_,rfl,l,mo,rfl,s1.new hp,mo0,fun m H2 g3 g4 s2 x2=>?_⟩
  refine⟨m,rfl,by omega,by omega,?_⟩
  have hp2:H2 p=some (.lst [V.int d0]):=x2 _ _ upd_same npl
  have X2:Ext l H1 H2:=(Ext.new hp).trans x2
  refine for_range (lo:=0) (fun i σ H'=>∃ (ns:LI) (x:Int) (o4:Option V),σ=[some (.ref l),some (.int mo),some (.int x),some (.ref p),o4]∧H' p=some (.lst ((ns++[x]).map V.int))∧ns.length=i∧(ns++[x]).Pairwise (· < ·)∧(∀ y∈ns++[x],0≤y)∧(∀ y∈ns++[x],y≤4+8*(i:Int))∧XsAt H' l∧Ext l H1 H') ?_ ?_ ?_
  ·refine⟨[],d0,none,rfl,hp2,rfl,by simp,?_,?_,s2,X2⟩
   ·intro y hy
    rw[List.mem_singleton.mp hy];exact g1
   ·intro y hy
    rw[List.mem_singleton.mp hy];omega
  ·rintro i σ H3 hi ⟨ns,x,o4,rfl,hp3,hln,up,lo,hi',s3,x3⟩
   refine⟨_,rfl,_,_,rfl,rfl,_,rfl,l,8,rfl,s3,by decide,fun d H4 a1 a2 s4 x4=>?_⟩
   have hp4:=x4 _ _ hp3 npl
   refine⟨_,_,rfl,rfl,_,rfl,.inl ⟨rfl,_,SqL.of hp4⟩,_,rfl,p,_,_,rfl,rfl,hp4,(by rw[List.length_map,List.length_append];exact zl (by simp;omega)),?_⟩
   refine⟨ns++[x],x+1+d,_,rfl,?_,by simp[hln],?_,?_,?_,s4.upd npl,?_⟩
   ·rw[upd_same,List.map_append (l₂:=[x+1+d])]
    rfl
   ·rw[List.pairwise_append]
    refine⟨up,by simp,fun y hy z hz=>?_⟩
    rw[List.mem_singleton.mp hz]
    rcases List.mem_append.mp hy with h | h
    ·have:=(List.pairwise_append.mp up).2.2 y h x (by simp)
     omega
    ·rw[List.mem_singleton.mp h];omega
   ·intro y hy
    rcases List.mem_append.mp hy with h | h
    ·exact lo y h
    ·rw[List.mem_singleton.mp h]
     have:=lo x (by simp)
     omega
   ·intro y hy
    rcases List.mem_append.mp hy with h | h
    ·have:=hi' y h
     omega
    ·rw[List.mem_singleton.mp h]
     have:=hi' x (by simp)
     omega
   ·intro b o e nb
    rw[upd_ne (ne_of_none e hp)]
    exact(x3.trans x4) b o e nb
  ·rintro σ H3 ⟨ns,x,o4,rfl,hp3,hln,up,lo,hi',s3,x3⟩
   have hp0:H p=none:=by
    cases e:H p with
    |none=>rfl
    |some o=>have:=x1 _ _ e npl;rw[hp] at this;cases this
   have X3:=x1.trans x3
   refine⟨fun σ' H'=>∃ (h:Addr) (hs':LI),σ'=[some (.ref l),some (.int mo),some (.int x),some (.ref h),o4]∧H h=none∧H' h=some (.lst (hs'.map V.int))∧Hs hs'∧(hs'.length:Int)≤mo∧XsAt H' l∧Ext l H H',?_,?_⟩
   ·refine⟨_,rfl,l,4,rfl,s3,by decide,fun d H4 a1 a2 s4 x4=>⟨rfl,_,rfl,?_⟩⟩
    have hp4:=x4 _ _ hp3 npl
    have X4:=X3.trans x4
    have hl:(ns++[x]).length=m.toNat+1:=by rw[List.length_append,hln];rfl
    refine ite2 (fun _=>?_) (fun _=>?_)
    ·refine⟨_,rfl,p,rfl,⟨_,SqL.of hp4⟩,fun D hD _=>?_⟩
     have nDl:=s4.ne hD
     have hD0:H D=none:=by
      cases e:H D with
      |none=>rfl
      |some o=>have:=X4 _ _ e nDl;rw[hD] at this;cases this
     refine comp_list (K:=K) (a:=p) (xs:=(ns++[x]).map V.int) (fun j zs τ H'=>∃ o,τ=[o,some (.ref p)]∧zs=(((ns++[x]).take j).map fun y=>y+99-x).map V.int∧H' D=some (.lst zs)∧Same H4 H') ?_ ?_ ?_ ?_
     ·exact⟨none,rfl,by simp,upd_same,Same.new hD⟩
     ·rintro j zs τ H' ⟨o,_,_,_,sm⟩
      exact SqL.of (sm _ _ hp4)
     ·rintro j v zs τ H' hj ⟨o,rfl,rfl,hD',sm⟩
      rw[List.getElem?_map] at hj
      obtain⟨y,hy,rfl⟩:=Option.map_eq_some_iff.mp hj
      have hjl:=(List.getElem?_eq_some_iff.mp hy).1
      refine XQ ?_
      refine⟨_,rfl,_,_,rfl,rfl,_,rfl,_,rfl,p,_,_,V.int x,rfl,rfl,SqL.of (sm _ _ hp4),(by rw[List.map_append];exact at_last),_,_,rfl,rfl,hD',by simp;exact zl (by omega),some (.int y),rfl,?_,upd_same,Same.updF sm hD⟩
      rw[List.take_add_one,hy]
      simp
     ·rintro zs τ H5 ⟨o,rfl,rfl,hD5,sm⟩
      rw[List.length_map,List.take_length] at hD5
      refine⟨D,_,rfl,hD0,hD5,⟨?_,?_,?_,?_,?_⟩,by rw[List.length_map,hl];omega,s4.same sm,X4.trans (Ext.same sm)⟩
      ·rw[List.length_map,hl];omega
      ·rw[List.length_map,hl];omega
      ·rw[List.pairwise_map]
       exact up.imp fun h=>by omega
      ·intro y hy
       obtain⟨z,hz,rfl⟩:=List.mem_map.mp hy
       have h1:=lo z hz
       have h2:=hi' x (by simp)
       omega
      ·intro y hy
       obtain⟨z,hz,rfl⟩:=List.mem_map.mp hy
       rcases List.mem_append.mp hz with h | h
       ·have:=(List.pairwise_append.mp up).2.2 z h x (by simp)
        omega
       ·rw[List.mem_singleton.mp h];omega
    ·refine⟨p,_,rfl,hp0,hp4,⟨?_,?_,up,lo,fun y hy=>?_⟩,by rw[hl];omega,s4,X4⟩
     ·rw[hl];omega
     ·rw[hl];omega
     ·have:=hi' y hy
      omega
   ·rintro σ' H4 ⟨h,hs',rfl,hh0,hh,wh,hmo,s4,x4⟩
    exact⟨_,rfl,k h hs' H4 hh0 hh wh hmo s4 x4⟩
def tri:Nat→Nat
 |0=>0
 |n+1=>tri n+n
theorem WH:∀ n,n≤12→tri n≤66:=by decide
theorem VG {n j:Nat}(h:j<n):tri j+j≤tri n:=by
 induction n with
 |zero=>omega
 |succ n ih =>
  show tri j+j≤tri n+n
  by_cases c:j=n
  ·subst c;exact Nat.le_refl _
  ·have:=ih (by omega)
   omega
theorem zaa {b1 b2 b3 b4 b5 b6:Bool}{d:Int}(h0:0≤d) (h1:d<6):∃ z,atI [V.bl b1,V.bl b2,V.bl b3,V.bl b4,V.bl b5,V.bl b6] d=some (.bl z):=by
 rcases(by omega:d=0∨d=1∨d=2∨d=3∨d=4∨d=5) with rfl | rfl | rfl | rfl | rfl | rfl
 all_goals exact⟨_,rfl⟩
theorem LnAt.cut {H:Hp}{rs:List V}{ls:LP}{n:Nat}(h:LnAt H rs ls):LnAt H (rs.drop n++rs.take n) (ls.drop n++ls.take n):=by
 refine⟨by simp[h.1],fun i r p e1 e2=>?_⟩
 by_cases c:i<(ls.drop n).length
 ·rw[List.getElem?_append_left (by simp[h.1];simpa using c)] at e1
  rw[List.getElem?_append_left c] at e2
  rw[List.getElem?_drop] at e1 e2
  exact h.2 _ r p e1 e2
 ·rw[List.getElem?_append_right (by simp[h.1];simpa using c)] at e1
  rw[List.getElem?_append_right (by omega)] at e2
  have e:(rs.drop n).length=(ls.drop n).length:=by simp[h.1]
  rw[e,List.getElem?_take] at e1
  rw[List.getElem?_take] at e2
  split at e1
  ·rw[if_pos ‹_›] at e2
   exact h.2 _ r p e1 e2
  ·cases e1
theorem Vx {rs:List V}{n:Nat}(h:n≤rs.length):cutV rs (some (n:Int)) none=rs.drop n:=by
 have h1:HT.sIx rs.length 0 (some (n:Int))=n:=by
  unfold HT.sIx
  show(if (n:Int)<0 then _ else _)=n
  rw[if_neg (by omega)]
  simp
  omega
 have h2:HT.sIx rs.length rs.length none=rs.length:=rfl
 unfold cutV
 rw[h1,h2]
 exact List.take_of_length_le (by rw[List.length_drop];omega)
theorem Vw {rs:List V}{n:Nat}(h:n≤rs.length):cutV rs none (some (n:Int))=rs.take n:=by
 have h1:HT.sIx rs.length rs.length (some (n:Int))=n:=by
  unfold HT.sIx
  show(if (n:Int)<0 then _ else _)=n
  rw[if_neg (by omega)]
  simp
  omega
 have h2:HT.sIx rs.length 0 none=0:=rfl
 unfold cutV
 rw[h1,h2]
 simp
theorem Up {hs:LI}(nd:hs.Nodup){i j:Nat}{x:Int}(h1:hs[i]?=some x) (h2:hs[j]?=some x):i=j:=by
 obtain⟨a1,b1⟩:=List.getElem?_eq_some_iff.mp h1
 obtain⟨a2,b2⟩:=List.getElem?_eq_some_iff.mp h2
 exact(List.getElem?_inj a1 nd).mp (h1.trans h2.symm)
structure Lfd (hs:LI) (ls:LP) (j k:Nat):Prop where
 nd:ls.Nodup
 at_:∀ p∈ls,∃ k' j',hs[k']?=some p.1∧hs[j']?=some p.2∧k'<j'∧(j'<j∨(j'=j∧k'<k))
 le:ls.length≤tri j+k
theorem Lfd.skip {hs:LI}{ls:LP}{j k:Nat}(h:Lfd hs ls j k):Lfd hs ls j (k+1) :=
 ⟨h.nd,fun p hp=>by
  obtain⟨k',j',h1,h2,h3,h4⟩:=h.at_ p hp
  exact⟨k',j',h1,h2,h3,by omega⟩,by have:=h.le;omega⟩
theorem Lfd.row {hs:LI}{ls:LP}{j:Nat}(h:Lfd hs ls j j):Lfd hs ls (j+1) 0 :=
 ⟨h.nd,fun p hp=>by
  obtain⟨k',j',h1,h2,h3,h4⟩:=h.at_ p hp
  exact⟨k',j',h1,h2,h3,by omega⟩,h.le⟩
theorem Lfd.add {hs:LI}{ls:LP}{j k:Nat}{x y:Int}(W:Hs hs) (h:Lfd hs ls j k) (kj:k<j) (hx:hs[k]?=some x) (hy:hs[j]?=some y):Lfd hs (ls++[(x,y)]) j (k+1):=by
 have nd:=Vq W
 refine⟨?_,fun p hp=>?_,?_⟩
 ·rw[List.nodup_append]
  refine⟨h.nd,by simp,fun a ha b hb z=>?_⟩
  rw[List.mem_singleton.mp hb] at z
  obtain⟨k',j',h1,h2,h3,h4⟩:=h.at_ a ha
  rw[z] at h1 h2
  have:=Up nd h1 hx
  have:=Up nd h2 hy
  omega
 ·rcases List.mem_append.mp hp with h' | h'
  ·obtain⟨k',j',h1,h2,h3,h4⟩:=h.at_ p h'
   exact⟨k',j',h1,h2,h3,by omega⟩
  ·rw[List.mem_singleton.mp h']
   exact⟨k,j,hx,hy,kj,.inr ⟨rfl,by omega⟩⟩
 ·rw[List.length_append]
  have:=h.le
  simp
  omega
theorem Lfd.ls {hs:LI}{ls:LP}{n:Nat}(W:Hs hs) (h:Lfd hs ls hs.length 0):Ls hs (ls.drop n++ls.take n):=by
 have pm:(ls.drop n++ls.take n).Perm ls:=List.perm_append_comm.trans (by rw[List.take_append_drop])
 refine⟨pm.nodup_iff.mpr h.nd,fun p hp=>?_,?_⟩
 ·obtain⟨k',j',h1,h2,h3,_⟩:=h.at_ p (pm.mem_iff.mp hp)
  obtain⟨a1,b1⟩:=List.getElem?_eq_some_iff.mp h1
  obtain⟨a2,b2⟩:=List.getElem?_eq_some_iff.mp h2
  refine⟨b1 ▸ List.getElem_mem a1,b2 ▸ List.getElem_mem a2,?_⟩
  rw[← b1,← b2]
  exact List.pairwise_iff_getElem.mp W.up _ _ a1 a2 h3
 ·rw[pm.length_eq]
  have:=h.le
  have:=WH hs.length W.l12
  omega
def za1:Sp:=fun vs H Q _=>∃ (l h:Addr) (hs:LI),vs=[.ref l,.ref h]∧XsAt H l∧H h=some (.lst (hs.map V.int))∧h≠l∧Hs hs ∧
 ∀ (q:Addr) (rs:List V) (ls:LP) (H':Hp),H q=none→H' q=some (.lst rs)→LnAt H' rs ls→Ls hs ls→ls.length≤tri hs.length→XsAt H' l→Ext l H H'→Q (.ref q) H'
theorem Wp {tA tB:TE}{σ:St}{H:Hp}{Q:VK}(k:(∀ b:Bool,Q (.bl b) H)→UU tA tB σ H Q) (J:∀ b:Bool,Q (.bl b) H):UU tA tB σ H Q:=k J
theorem zal (T:Txt w K mg a):FnOk P w K mg base CX0 2 362 (dK K 362) ["_law_xs", "_law_hands_here"] za1:=by
 have c__law_take:Callee P w K mg base "_law_take" 350 (dK K 350) ["_law_xs", "_law_size"] 1 xf:=⟨wt T,(T.g 21 rfl),(T.fn 21 rfl).kp,(T.bi 21 rfl)⟩
 refine(T.fn 23 rfl).ok (scp 23 rfl) (fun vs H Q E h=>?_) (fun cdv A outer s H vs Q E hr h=>?_)
 ·obtain⟨l,h,hs,rfl,_⟩:=h
  rfl
 ·obtain⟨l,h,hs,rfl,sl,hh,nhl,wh,k⟩:=h
  have l12:=wh.l12
  refine yd (zb (zm (i:=2) (scp 23 rfl).nd rfl (Or.inl rfl) (zr c__law_take hr.m (zd (zh 0) (zK ze za))))
   (zb (zm (i:=3) (scp 23 rfl).nd rfl (Or.inl rfl) (zA za))
   (zb (zR PassesOwn.never rfl (yV rfl (T.n 2 rfl) (zT (zj zw (by rfl) (T.n 0 rfl) yh (zd (zh 1) za)) za)) (zn (i:=4) (scp 23 rfl).nd rfl (Or.inl rfl))
    (zg (zR PassesOwn.never rfl (yV rfl (T.n 2 rfl) (zd (zh 4) za)) (zn (i:=5) (scp 23 rfl).nd rfl (Or.inl rfl))
     (zb (zm (i:=6) (scp 23 rfl).nd rfl (Or.inl rfl) (ZW (yg yG (zu wo (zh 4) (zh 5)) ze (zC _)) (yW (yg yG (zu wo (zh 4) (zh 5)) (zu wo (zj zw (by rfl) (T.n 0 rfl) yh (zd (zh 1) za)) ze) (zC _)))))
     (zb (zm (i:=7) (scp 23 rfl).nd rfl (Or.inl rfl) (zr c__law_take hr.m (zd (zh 0) (zK ze za))))
     (zg (zB (zG (zv zF (zA (zd (zh 6) (zk (yg uw (zh 7) ze (zC _)) (zk (yg uw (zh 7) ze (zC _)) (zk (yg uw (zh 7) ze (zC _)) (zK zI (zk (ZW (yg yG (zh 5) (zu xW (zh 7) (zh 4)) (zC _)) (yW (yg yG (zh 7) ze (zC _)))) za))))))) (zh 2) (fun _ _=>rfl)))
      (zg (zQ (yu PySem.F.plainAttrs_list PySem.F.slot_list_append PySem.F.type_list_append zU (zh 3) (xc (zJ (zk (zv zF (zh 1) (zh 5) (fun _ _=>rfl)) (zk (zv zF (zh 1) (zh 4) (fun _ _=>rfl)) za))) za))))
      zp)))))))
   (zb (zm (i:=8) (scp 23 rfl).nd rfl (Or.inl rfl) (zr c__law_take hr.m (zd (zh 0) (yS (zu xk (zj zw (by rfl) (T.n 0 rfl) yh (zd (zh 3) za)) ze) za))))
   (zg (zi (zu yO (zP yz (zh 3) (w_po_some (zh 8)) yf) (zP yz (zh 3) yf (w_po_some (zh 8)))))))))) ?_
  refine⟨_,rfl,l,6,rfl,sl,by decide,fun way H1 g1 g2 s1 x1=>?_⟩
  refine⟨(by show 0≤sizeLine;decide),fun p hp=>?_⟩
  have npl:=s1.ne hp
  have hh1:=x1 _ _ hh nhl
  have nhp:h≠p:=fun z=>by rw[z,hp] at hh1;cases hh1
  refine⟨_,rfl,h,_,rfl,.inl (SqL.of ((Same.new hp) _ _ hh1)),_,rfl,?_⟩
  rw[List.length_map]
  refine⟨by omega,by omega,?_⟩
  rw[show((hs.length:Int)).toNat=hs.length by omega]
  have St:∀ {rs:List V}{ls:LP}{H':Hp},LnAt H' rs ls→True:=fun _=>trivial
  refine for_range (lo:=0) (fun j σ H'=>∃ (o4 o5 o6 o7:Option V) (rs:List V) (ls:LP),σ=[some (.ref l),some (.ref h),some (.int way),some (.ref p),o4,o5,o6,o7,none]∧H' p=some (.lst rs)∧LnAt H' rs ls∧Lfd hs ls j 0∧XsAt H' l∧Ext l H1 H') ?_ ?_ ?_
  ·exact⟨none,none,none,none,[],[],rfl,upd_same,⟨rfl,fun i r q e=>by cases e⟩,⟨List.nodup_nil,(fun q hq=>nomatch hq),Nat.zero_le _⟩,s1.new hp,Ext.new hp⟩
  ·rintro j σ H2 hj ⟨o4,o5,o6,o7,rs,ls,rfl,hp2,L,F,s2,x2⟩
   refine⟨_,rfl,0+(j:Int),rfl,by omega,by omega,?_⟩
   rw[show(0+(j:Int)).toNat=j by omega]
   refine for_range (lo:=0) (fun i σ H'=>∃ (o5 o6 o7:Option V) (rs:List V) (ls:LP),σ=[some (.ref l),some (.ref h),some (.int way),some (.ref p),some (.int (0+(j:Int))),o5,o6,o7,none]∧H' p=some (.lst rs)∧LnAt H' rs ls∧Lfd hs ls j i∧XsAt H' l∧Ext l H1 H') ?_ ?_ ?_
   ·exact⟨o5,o6,o7,rs,ls,rfl,hp2,L,F,s2,x2⟩
   ·rintro i σ H3 hi ⟨o5,o6,o7,rs,ls,rfl,hp3,L,F,s3,x3⟩
    have hj2:hs[j]?=some hs[j]:=by simp[hj]
    have hi2:hs[i]?=some (hs[i]'(by omega)):=by simp
    have hh3:=x3 _ _ hh1 nhl
    refine Wp (fun hJ=>⟨_,rfl,_,rfl,_,_,rfl,rfl,rfl,_,rfl,ite2 (fun _=>hJ _) (fun _=>⟨_,rfl,_,rfl,_,_,rfl,rfl,_,rfl,h,_,rfl,.inl (SqL.of hh3),_,_,rfl,rfl,rfl,hJ _⟩)⟩) (fun bb=>?_)
    refine⟨_,rfl,l,6,rfl,s3,by decide,fun dr H4 a1 a2 s4 x4=>?_⟩
    refine⟨_,rfl,_,rfl,_,_,rfl,rfl,_,rfl,_,_,rfl,rfl,_,rfl,_,_,rfl,rfl,?_⟩
    refine Wp (fun hJ=>⟨_,rfl,_,rfl,_,rfl,_,_,rfl,rfl,(by show(0:Int)<0+(j:Int);omega),rfl,_,rfl,ite2 (fun _=>hJ _) (fun _=>⟨_,rfl,rfl,hJ _⟩)⟩) (fun bb2=>?_)
    have hp4:=x4 _ _ hp3 npl
    have hh4:=x4 _ _ hh3 nhl
    have L4:LnAt H4 rs ls:=⟨L.1,fun n r pr e1 e2=>by
     obtain⟨q,e,t⟩:=L.2 n r pr e1 e2
     exact⟨q,e,x4 _ _ t fun z=>by
      obtain⟨ns,e3,_⟩:=s3
      rw[z,e3] at t
      cases t⟩⟩
    have X4:=x3.trans x4
    refine⟨by show 6≤sizeLine;decide,fun q6 hq6=>?_⟩
    have y5:∀ o,Same H4 (L2.upd H4 q6 o):=fun o=>Same.new hq6
    have u5:∀ o,L2.upd H4 q6 o q6=some o:=fun o=>upd_same
    generalize L2.upd H4 q6=f at *
    obtain⟨z,hz⟩:=zaa (b1:=_) (b2:=_) (b3:=_) (b4:=_) (b5:=_) (b6:=_) g1 g2
    refine⟨_,rfl,q6,_,_,_,rfl,rfl,SqL.of (u5 _),hz,_,rfl,?_⟩
    have hp5:=fun o=>y5 o _ _ hp4
    have hh5:=fun o=>y5 o _ _ hh4
    have L5:=fun o=>L4.same (y5 o)
    have s5:=fun o=>s4.same (y5 o)
    have X5:=fun o=>X4.trans (Ext.same (y5 o))
    refine ite2 (fun _=>?_) (fun _=>?_)
    ·refine⟨_,rfl,.inl ⟨rfl,_,SqL.of (hp5 _)⟩,_,rfl,_,rfl,h,_,_,V.int (hs[i]'(by omega)),rfl,rfl,SqL.of (hh5 _),(by rw[Int.zero_add];exact zW (by simp)),_,rfl,_,rfl,h,_,_,V.int hs[j],rfl,rfl,SqL.of (hh5 _),(by rw[Int.zero_add];exact zW (by simp[hj])),(by show 2≤sizeLine;decide),fun qt hqt=>?_⟩
     have y6:=Same.new (o:=HO.tup [V.int (hs[i]'(by omega)),V.int hs[j]]) hqt
     have l66:=F.le
     refine⟨p,_,_,rfl,rfl,y6 _ _ (hp5 _),(by rw[L.1];have:=WH hs.length l12;have:=VG hj;exact zl (by omega)),?_⟩
     refine⟨_,_,_,_,ls++[(hs[i]'(by omega),hs[j])],rfl,upd_same,LnAt.updL (y6 _ _ (hp5 _)) (LnAt.snoc (p:=(hs[i]'(by omega),hs[j])) ((L5 _).same y6) (q:=qt) upd_same),F.add wh hi hi2 hj2,((s5 _).same y6).upd npl.symm.symm,?_⟩
     intro b o e nb
     rw[upd_ne (ne_of_none e hp)]
     exact((X5 _).trans (Ext.same y6)) b o e nb
    ·exact⟨_,_,_,rs,ls,rfl,hp5 _,L5 _,F.skip,s5 _,X5 _⟩
   ·rintro σ H3 ⟨o5,o6,o7,rs,ls,rfl,hp3,L,F,s3,x3⟩
    exact⟨_,_,_,_,rs,ls,rfl,hp3,L,F.row,s3,x3⟩
  ·rintro σ H2 ⟨o4,o5,o6,o7,rs,ls,rfl,hp2,L,F,s2,x2⟩
   refine⟨_,rfl,_,rfl,p,_,rfl,.inl (SqL.of hp2),_,_,rfl,rfl,l,_,rfl,s2,by omega,fun d H3 a1 a2 s3 x3=>?_⟩
   obtain⟨n,rfl⟩:∃ n:Nat,d=n:=⟨d.toNat,by omega⟩
   have hp3:=x3 _ _ hp2 npl
   have L3:LnAt H3 rs ls:=⟨L.1,fun n r pr e1 e2=>by
      obtain⟨q,e,t⟩:=L.2 n r pr e1 e2
      exact⟨q,e,x3 _ _ t fun z=>by
       obtain⟨ns,e3,_⟩:=s2
       rw[z,e3] at t
       cases t⟩⟩
   refine⟨_,rfl,_,rfl,_,rfl,p,_,rfl,SqL.of hp3,fun q1 hq1=>?_⟩
   have y4:=Same.new (o:=HO.lst (cutV rs (some (n:Int)) none)) hq1
   refine⟨_,rfl,_,rfl,_,rfl,p,_,rfl,SqL.of (y4 _ _ hp3),fun q2 hq2=>?_⟩
   have y5:=Same.new (o:=HO.lst (cutV rs none (some (n:Int)))) hq2
   have hnl:n≤rs.length:=by omega
   have l66:=F.le
   have:=WH hs.length l12
   have l1:=yB rs (some (n:Int)) none
   have l2:=yB rs none (some (n:Int))
   have lL:=L.1
   refine⟨q1,q2,_,_,rfl,rfl,y5 _ _ upd_same,upd_same,(Nat.le_of_lt (zl (by omega))),fun q hq=>?_⟩
   have y6:=Same.new (o:=HO.lst (cutV rs (some (n:Int)) none++cutV rs none (some (n:Int)))) hq
   have y456:=(y4.trans y5).trans y6
   refine k q (rs.drop n++rs.take n) (ls.drop n++ls.take n) _ ((((x1.trans x2).trans x3).trans (Ext.same (y4.trans y5))).free ((s3.same (y4.trans y5)).ne hq) hq) (by rw[upd_same,Vx hnl,Vw hnl]) (L3.same y456).cut (F.ls wh) (by have:=F.le;rw[List.length_append,List.length_drop,List.length_take];omega) (s3.same y456) ?_
   exact(x1.trans x2).trans (x3.trans (Ext.same y456))
theorem LnAt.extX {H H':Hp}{l:Addr}{rs:List V}{ls:LP}(h:LnAt H rs ls) (x:XsAt H l) (y:Ext l H H'):LnAt H' rs ls:=⟨h.1,fun n r p a1 a2=>by
 obtain⟨qq,b1,b2⟩:=h.2 n r p a1 a2
 exact⟨qq,b1,y _ _ b2 fun z=>by
  obtain⟨ms,e',_⟩:=x
  rw[z,e'] at b2
  cases b2⟩⟩
theorem LnAt.updN {H:Hp}{p:Addr}{o:HO}{u:HO}{rs:List V}{ls:LP}(h:LnAt H rs ls) (hp:H p=some u) (hu:∀ xs,u≠.tup xs):LnAt (L2.upd H p o) rs ls:=⟨h.1,fun n r q a1 a2=>by
 obtain⟨qq,b1,b2⟩:=h.2 n r q a1 a2
 exact⟨qq,b1,by rw[upd_ne (fun z=>by rw[z,hp] at b2;injection b2 with b2;exact hu _ b2)];exact b2⟩⟩
structure Gd (hs:LI) (ls:LP) (pf:Int→Option Int) (pa:Int→LI) (us:LI) (bs:LP):Prop where
 U:UpP us pf pa
 m:∀ x,x∈us↔x∈hs
 ad:∀ x∈us,∀ y,pf x=some y→adB ls x y=true
 B:Brs hs bs
 inl:∀ b∈bs,b∈ls
 df:∀ b∈bs,ldr pa b.1≠ldr pa b.2
 cov:∀ p∈ls,ldr pa p.1≠ldr pa p.2→∃ b∈bs,jk (ldr pa) b=jk (ldr pa) p
def UX:Sp:=fun vs H Q _=>∃ (d:Addr) (pf:Int→Option Int) (us:LI) (x:Int),vs=[.ref d,.int x]∧H d=some (.dK (tabV (fun x=>opV (pf x)) us))∧us.length≤12∧Cl us pf∧x∈us∧(∀ (l:Addr) (p:LI),En pf x p→H l=none→Q (.ref l) (upd H l (.lst (p.map V.int))))∧((¬∃ p,En pf x p)→∀ H',Same H H'→Q .non H')
theorem Ug (T:Txt w K mg a):FnOk P w K mg base CX0 1 381 (dK K 381) ["_law_parents", "_law_hand"] UX:=by
 refine(T.fn 26 rfl).ok (scp 26 rfl) (fun vs H Q E h=>?_) (fun cdv A outer s H vs Q E hr h=>?_)
 ·obtain⟨d,pf,us,x,rfl,_⟩:=h
  rfl
 ·obtain⟨d,pf,us,x,rfl,hd,l12,C,hx,k,k0⟩:=h
  have hu:=xo hr
  refine yd (zb (zm (i:=2) (scp 26 rfl).nd rfl (Or.inl rfl) (zA (zd (zh 1) za)))
   (zb (xt PassesOwn.never (zo vh (yL hu (zh 0) (zv zF (zh 2) (yx yN ze) (fun _ _=>rfl)) (fun _ _=>rfl)) yC (zC _))
    (zb (zB (zo uy (zj zw (by rfl) (T.n 0 rfl) yh (zd (zh 2) za)) (zj v8 (by rfl) (T.n 0 rfl) yh (zd (zh 0) za)) (zC _))
     (zg (zi yC))
     zp)
    (zg (zQ (yu PySem.F.plainAttrs_list PySem.F.slot_list_append PySem.F.type_list_append zU (zh 2) (zk (yL hu (zh 0) (zv zF (zh 2) (yx yN ze) (fun _ _=>rfl)) (fun _ _=>rfl)) za))))))
   (zg (zi (zh 2))))) ?_
  refine⟨_,rfl,(by show 1≤sizeLine;decide),fun l hl=>?_⟩
  have sm:∀ o,Same H (upd H l o):=fun o=>Same.new hl
  refine⟨fun m σ H'=>∃ (ys:LI) (z:Int),m+(ys++[z]).length=us.length+1∧σ=[some (.ref d),some (.int x),some (.ref l)]∧H'=upd H l (.lst ((ys++[z]).map V.int))∧z∈us∧Pre pf x ys z,⟨us.length,[],x,rfl,rfl,rfl,hx,Pre.z⟩,?_⟩
  rintro m σ H' ⟨ys,z,hm,rfl,rfl,hz,hp⟩
  have hlast:atI ((ys++[z]).map V.int) (-1)=some (V.int z):=by rw[List.map_append];exact at_last
  have e2:∀ y:Int,(ys++[z]++[y]).length=(ys++[z]).length+1:=fun y=>by simp
  refine⟨_,rfl,_,rfl,_,rfl,l,_,-1,_,rfl,rfl,SqL.of upd_same,hlast,d,_,rfl,va ((sm _) _ _ hd) hz,?_⟩
  cases h1:pf z with
  |none =>
   refine⟨rfl,_,rfl,iteN rfl ?_⟩
   refine⟨_,rfl,?_⟩
   exact k l _ (hp.end_ h1) hl
  |some y =>
   refine⟨rfl,_,rfl,xn ?_⟩
   refine⟨_,fun σ' H' h=>h,?_⟩
   by_cases c:us.length<(ys++[z]).length
   ·refine⟨_,rfl,l,_,rfl,.inl (SqL.of upd_same),_,rfl,d,_,rfl,(sm _) _ _ hd,_,_,rfl,rfl,_,rfl,iteB (by rw[List.length_map,tabV_len];exact decide_eq_true (by omega)) ?_⟩
    exact k0 (hp.long C hx h1 (by omega)) _ (sm _)
   refine⟨_,rfl,l,_,rfl,.inl (SqL.of upd_same),_,rfl,d,_,rfl,(sm _) _ _ hd,_,_,rfl,rfl,_,rfl,iteN (by rw[List.length_map,tabV_len];exact decide_eq_false (by omega)) ?_⟩
   refine⟨_,rfl,.inl ⟨rfl,_,SqL.of upd_same⟩,_,rfl,_,rfl,_,rfl,l,_,-1,_,rfl,rfl,SqL.of upd_same,hlast,d,_,rfl,va ((sm _) _ _ hd) hz,l,_,_,rfl,rfl,upd_same,(by rw[List.length_map];exact zl (by omega)),?_⟩
   rw[xL,h1]
   refine⟨m-1,by omega,ys++[z],y,by have:=e2 y;omega,rfl,?_,C z hz y h1,hp.s h1⟩
   rw[List.map_append (l₂:=[y])]
   rfl
def UY:Sp:=fun vs H Q _=>∃ (d:Addr) (pf:Int→Option Int) (pa:Int→LI) (us:LI) (x:Int),vs=[.ref d,.int x]∧H d=some (.dK (tabV (fun x=>opV (pf x)) us))∧us.length≤12∧UpP us pf pa∧x∈us∧∀ (l:Addr),H l=none→Q (.ref l) (upd H l (.lst ((pa x).map V.int)))
theorem Uh (T:Txt w K mg a):FnOk P w K mg base CX0 1 381 (dK K 381) ["_law_parents", "_law_hand"] UY:=(Ug T).imp fun vs H Q E h=>by
 obtain⟨d,pf,pa,us,x,rfl,hd,l12,U,hx,k⟩:=h
 exact⟨d,pf,us,x,rfl,hd,l12,U.cl,hx,fun l p hp hl=>by rw[hp.fn (U.en hx)];exact k l hl,fun h=>absurd ⟨_,U.en hx⟩ h⟩
def zbb:Sp:=fun vs H Q _=>∃ (d:Addr) (pf:Int→Option Int) (pa:Int→LI) (us:LI) (x y:Int),vs=[.ref d,.int x,.int y]∧H d=some (.dK (tabV (fun x=>opV (pf x)) us))∧us.length≤12∧UpP us pf pa∧x∈us∧y∈us∧∀ (t:Addr) (H':Hp),H t=none→H' t=some (.tup [.int (jk (ldr pa) (x,y)).1,.int (jk (ldr pa) (x,y)).2])→Same H H'→Q (.ref t) H'
theorem zav (T:Txt w K mg a):FnOk P w K mg base CX0 2 388 (dK K 388) ["_law_parents", "_law_one", "_law_other"] zbb:=by
 have c__law_up:Callee P w K mg base "_law_up" 381 (dK K 381) ["_law_parents", "_law_hand"] 1 UY:=⟨Uh T,(T.g 26 rfl),(T.fn 26 rfl).kp,(T.bi 26 rfl)⟩
 refine(T.fn 27 rfl).ok (scp 27 rfl) (fun vs H Q E h=>?_) (fun cdv A outer s H vs Q E hr h=>?_)
 ·obtain⟨d,pf,pa,us,x,y,rfl,_⟩:=h
  rfl
 ·obtain⟨d,pf,pa,us,x,y,rfl,hd,l12,U,hx,hy,k⟩:=h
  have lst:∀ {z},z∈us→atI ((pa z).map V.int) (-1)=some (V.int (ldr pa z)):=fun {z} hz=>by
   obtain⟨⟨ys,e⟩,_⟩:=U.ld hz
   rw[e,List.map_append]
   exact at_last
  refine yd (zg (zi (zL yZ (by rfl) (T.n 9 rfl) xa (zT (zj wU (by rfl) (T.n 6 rfl) xr (zk (zA (zk (zv zF (zr c__law_up hr.m (zd (zh 0) (zd (zh 1) za))) (yx yN ze) (fun _ _=>rfl)) (zk (zv zF (zr c__law_up hr.m (zd (zh 0) (zd (zh 2) za))) (yx yN ze) (fun _ _=>rfl)) za))) za)) za)))) ?_
  refine⟨_,rfl,_,rfl,d,pf,pa,us,x,rfl,hd,l12,U,hx,fun l1 hl1=>?_⟩
  have s1:=Same.new (o:=HO.lst ((pa x).map V.int)) hl1
  refine⟨_,rfl,l1,_,-1,_,rfl,rfl,SqL.of upd_same,lst hx,?_⟩
  generalize upd H l1 (HO.lst ((pa x).map V.int))=H1 at *
  refine⟨_,rfl,_,rfl,d,pf,pa,us,y,rfl,s1 _ _ hd,l12,U,hy,fun l2 hl2=>?_⟩
  have s2:=s1.trans (Same.new (o:=HO.lst ((pa y).map V.int)) hl2)
  refine⟨_,rfl,l2,_,-1,_,rfl,rfl,SqL.of upd_same,lst hy,?_⟩
  generalize upd H1 l2 (HO.lst ((pa y).map V.int))=H2 at *
  refine⟨(by show 2≤sizeLine;decide),fun pl hpl=>?_⟩
  have s3:=s2.trans (Same.new (o:=HO.lst [V.int (ldr pa x),V.int (ldr pa y)]) hpl)
  refine⟨pl,[ldr pa x,ldr pa y],rfl,SqL.of upd_same,(by show 2<64;decide),fun pm ms hpm pmm sd=>?_⟩
  rw[Zy pmm sd]
  have s4:=s3.trans (Same.new (o:=HO.lst ([min (ldr pa x) (ldr pa y),max (ldr pa x) (ldr pa y)].map V.int)) hpm)
  refine⟨pm,_,rfl,.inl ⟨SqL.of upd_same,fun pt hpt=>?_⟩⟩
  exact k pt _ (s4.free hpt) upd_same (s4.trans (Same.new hpt))
open L2.Sco (PT PsAt)
def rdW (pa:Int→LI) (h n:Int):LI:=pa n++(pa h).reverse.drop 1
def rdO (pa:Int→LI) (h n:Int) (b:Int×Int):LI:=rdW pa b.1 n++rdW pa h b.2
def dbl (ls:LP):LP:=ls.flatMap fun p=>[p,(p.2,p.1)]
theorem dbl_snoc {ls:LP}{p:Int×Int}:dbl (ls++[p])=dbl ls++[p]++[(p.2,p.1)]:=by
 unfold dbl
 rw[List.flatMap_append]
 simp
theorem mem_dbl {ls:LP}{q:Int×Int}:q∈dbl ls↔q∈ls∨(q.2,q.1)∈ls:=by
 unfold dbl
 rw[List.mem_flatMap]
 constructor
 ·rintro⟨p,hp,h⟩
  rcases List.mem_cons.mp h with e | e
  ·rw[e];exact .inl hp
  ·rw[List.mem_singleton.mp e];exact .inr hp
 ·rintro(h | h)
  ·exact⟨q,h,List.mem_cons_self⟩
  ·exact⟨_,h,by simp⟩
theorem xR:∀ {ls:LP},(dbl ls).length=2*ls.length
 |[]=>rfl
 |p::ls=>by
  have ih:=xR (ls:=ls)
  unfold dbl at ih ⊢
  rw[List.flatMap_cons,List.length_append,ih,List.length_cons,List.length_cons]
  simp
  omega
theorem UQ {rs:List V}(h:1≤rs.length):cutV rs (some 1) none=rs.drop 1:=Vx (n:=1) h
theorem UpP.len {us:LI}{pf:Int→Option Int}{pa:Int→LI}(U:UpP us pf pa){x:Int}(hx:x∈us):1≤(pa x).length∧(pa x).length≤us.length:=by
 obtain⟨⟨ys,e⟩,_,_,h4,h5⟩:=U.ld hx
 exact⟨by rw[e];simp,wI h4 h5⟩
theorem wm {us:LI}{pf:Int→Option Int}{pa:Int→LI}(U:UpP us pf pa){h n:Int}(hh:h∈us) (hn:n∈us):(rdW pa h n).length≤2*us.length:=by
 have h1:=(U.len hh).2
 have h2:=(U.len hn).2
 unfold rdW
 rw[List.length_append,List.length_drop,List.length_reverse]
 omega
def U0 (a:Ad):Sp:=fun vs H Q _=>∃ (p dx dp ob:Addr) (pf:Int→Option Int) (pa:Int→LI) (us:LI) (x:Int),vs=[.ref p,.int x]∧WayR a H p pf us dx dp ob∧UpP us pf pa∧x∈us∧∀ (l:Addr),H l=none→Q (.ref l) (upd H l (.lst ((pa x).map V.int)))
theorem Wq (T:Txt w K mg a):FnOk P w K mg base CX0 1 100 (dK K 100) ["self", "hand"] (U0 a):=(Uj T).imp fun vs H Q E h=>by
 obtain⟨p,dx,dp,ob,pf,pa,us,x,rfl,W,U,hx,k⟩:=h
 refine⟨p,dx,dp,ob,pf,us,x,rfl,W,U.cl,hx,fun l ys z hl hz hor=>?_⟩
 rcases hor with⟨_,h⟩ | ⟨_,h⟩
 ·rw[← (U.en hx).fn h]
  exact k l hl
 ·exact absurd ⟨_,U.en hx⟩ h
def UZ (a:Ad):Sp:=fun vs H Q _=>∃ (p dx dp ob:Addr) (pf:Int→Option Int) (pa:Int→LI) (us:LI) (h n:Int),vs=[.ref p,.int h,.int n]∧WayR a H p pf us dx dp ob∧UpP us pf pa∧h∈us∧n∈us∧∀ (l:Addr) (H':Hp),H l=none→H' l=some (.lst ((rdW pa h n).map V.int))→Same H H'→Q (.ref l) H'
theorem Ui (T:Txt w K mg a):FnOk P w K mg base CX0 2 184 (dK K 184) ["way", "hand", "neighbour"] (UZ a):=by
 refine(T.fn 7 rfl).ok (scp 7 rfl) (fun vs H Q E h=>?_) (fun cdv A outer s H vs Q E hr h=>?_)
 ·obtain⟨p,dx,dp,ob,pf,pa,us,h,n,rfl,_⟩:=h
  rfl
 ·obtain⟨p,dx,dp,ob,pf,pa,us,h,n,rfl,W,U,hh,hn,k⟩:=h
  have l12:=W.l12
  have lh:=U.len hh
  have ln:=U.len hn
  refine yd (zb (zm (i:=3) (scp 7 rfl).nd rfl (Or.inl rfl) (vw rfl rfl (T.n 4 rfl) rfl (T.n 10 rfl) (zT (zH (zh 0) (zd (zh 1) za)) za)))
   (zg (zi (zu yO (zH (zh 0) (zd (zh 2) za)) (zP yz (zh 3) (w_po_some ze) yf))))) ?_
  refine mtV rfl W.p rfl (T.cl 0 rfl) (T.mt 39 rfl) (Wq (P:=P) (w:=w) T) hr.m (T.bi 39 rfl) ⟨_,rfl,p,dx,dp,ob,pf,pa,us,h,rfl,W,U,hh,fun l1 hl1=>?_⟩
  refine⟨l1,_,rfl,SqL.of upd_same,fun l2 hl2=>?_⟩
  have s2:=(Same.new (o:=HO.lst ((pa h).map V.int)) hl1).trans (Same.new (o:=HO.lst ((pa h).map V.int).reverse) hl2)
  have h2:=upd_same (H:=upd H l1 (HO.lst ((pa h).map V.int))) (a:=l2) (o:=HO.lst ((pa h).map V.int).reverse)
  generalize upd (upd H l1 (HO.lst ((pa h).map V.int))) l2 (HO.lst ((pa h).map V.int).reverse)=H2 at *
  have W2:=W.same s2
  refine mtV rfl W2.p rfl (T.cl 0 rfl) (T.mt 39 rfl) (Wq (P:=P) (w:=w) T) hr.m (T.bi 39 rfl) ⟨_,rfl,p,dx,dp,ob,pf,pa,us,n,rfl,W2,U,hn,fun l3 hl3=>?_⟩
  have s3:=Same.new (o:=HO.lst ((pa n).map V.int)) hl3
  have h3:=upd_same (H:=H2) (a:=l3) (o:=HO.lst ((pa n).map V.int))
  generalize upd H2 l3 (HO.lst ((pa n).map V.int))=H3 at *
  refine⟨_,rfl,_,rfl,l2,_,rfl,SqL.of (s3 _ _ h2),fun l4 hl4=>?_⟩
  rw[UQ (by simp;omega)]
  have s4:=Same.new (o:=HO.lst (((pa h).map V.int).reverse.drop 1)) hl4
  refine⟨l3,l4,_,_,rfl,rfl,s4 _ _ h3,upd_same,Nat.le_of_lt (zl (by rw[List.length_drop,List.length_reverse,List.length_map,List.length_map];omega)),fun l5 hl5=>?_⟩
  have s5:=(s2.trans s3).trans s4
  refine k l5 _ (s5.free hl5) ?_ (s5.trans (Same.new hl5))
  rw[upd_same]
  unfold rdW
  rw[List.map_append,List.map_drop,List.map_reverse]
def zaW (a:Ad):Sp:=fun vs H Q _=>∃ (p dx dp ob t:Addr) (pf:Int→Option Int) (pa:Int→LI) (us:LI) (h n:Int) (b:Int×Int),vs=[.ref p,.int h,.int n,.ref t]∧WayR a H p pf us dx dp ob∧UpP us pf pa∧h∈us∧n∈us∧b.1∈us∧b.2∈us∧H t=some (.tup [.int b.1,.int b.2])∧∀ (l:Addr) (H':Hp),H l=none→H' l=some (.lst ((rdO pa h n b).map V.int))→Same H H'→Q (.ref l) H'
theorem zaf (T:Txt w K mg a):FnOk P w K mg base CX0 3 191 (dK K 191) ["way", "hand", "neighbour", "bridge"] (zaW a):=by
 have c_road_within:Callee P w K mg base "road_within" 184 (dK K 184) ["way", "hand", "neighbour"] 2 (UZ a):=⟨Ui T,(T.g 7 rfl),(T.fn 7 rfl).kp,(T.bi 7 rfl)⟩
 refine(T.fn 8 rfl).ok (scp 8 rfl) (fun vs H Q E h=>?_) (fun cdv A outer s H vs Q E hr h=>?_)
 ·obtain⟨p,dx,dp,ob,t,pf,pa,us,h,n,b,rfl,_⟩:=h
  rfl
 ·obtain⟨p,dx,dp,ob,t,pf,pa,us,h,n,b,rfl,W,U,hh,hn,hb1,hb2,ht,k⟩:=h
  have l12:=W.l12
  have n1:=wm U hb1 hn
  have n2:=wm U hh hb2
  refine yd (zg (zi (zu yO (zr c_road_within hr.m (zd (zh 0) (zk (zv yc (zh 3) ze (fun _ _=>rfl)) (zd (zh 2) za)))) (zr c_road_within hr.m (zd (zh 0) (zd (zh 1) (zk (zv yc (zh 3) ze (fun _ _=>rfl)) za))))))) ?_
  refine⟨_,rfl,_,rfl,t,_,0,_,rfl,rfl,SqT.of ht,rfl,_,rfl,p,dx,dp,ob,pf,pa,us,b.1,n,rfl,W,U,hb1,hn,fun l1 H1 hl1 h1 s1=>?_⟩
  refine⟨_,rfl,_,rfl,_,rfl,t,_,1,_,rfl,rfl,SqT.of (s1 _ _ ht),rfl,p,dx,dp,ob,pf,pa,us,h,b.2,rfl,W.same s1,U,hh,hb2,fun l2 H2 hl2 h2 s2=>?_⟩
  refine⟨l1,l2,_,_,rfl,rfl,s2 _ _ h1,h2,Nat.le_of_lt (zl (by rw[List.length_map,List.length_map];omega)),fun l3 hl3=>?_⟩
  have s12:=s1.trans s2
  refine k l3 _ (s12.free hl3) ?_ (s12.trans (Same.new hl3))
  rw[upd_same]
  unfold rdO
  rw[List.map_append]
open L2.Sco (PT PsAt)
def kvB (js:List ((Int×Int)×Addr)):List (List Key×V):=js.map fun j=>(yb j.1,V.ref j.2)
def sel (lf:Int→Int) (k:Int×Int) (ds:LP):LP:=ds.filter fun p=>decide ((lf p.1,lf p.2)=k)
structure BR (H:Hp) (d:Addr) (lf:Int→Int) (ds:LP) (js:List ((Int×Int)×Addr)):Prop where
 dd:H d=some (.dT (kvB js))
 nd:(js.map (·.1)).Nodup
 rows:∀ j∈js,∃ rs,H j.2=some (.lst rs)∧LnAt H rs (sel lf j.1 ds)
 no:∀ k,k∉js.map (·.1)→sel lf k ds=[]
structure BB (G H:Hp) (d:Addr) (lf:Int→Int) (ds:LP) (js:List ((Int×Int)×Addr)):Prop extends BR H d lf ds js where
 sm:Ext d G H
 fr:∀ j∈js,G j.2=none
 nda:(js.map (·.2)).Nodup
theorem BR.same {H H':Hp}{d:Addr}{lf:Int→Int}{ds:LP}{js:List ((Int×Int)×Addr)}(b:BR H d lf ds js) (s:Same H H'):BR H' d lf ds js :=
 ⟨s _ _ b.dd,b.nd,fun j hj=>let ⟨rs,h1,h2⟩:=b.rows j hj;⟨rs,s _ _ h1,h2.same s⟩,b.no⟩
theorem BB.same {G H H':Hp}{d:Addr}{lf:Int→Int}{ds:LP}{js:List ((Int×Int)×Addr)}(b:BB G H d lf ds js) (s:Same H H'):BB G H' d lf ds js :=
 ⟨b.toBR.same s,b.sm.trans (Ext.same s),b.fr,b.nda⟩
theorem wT {α β:Type}{f:α→β}:∀ {xs:List α},(xs.map f).Nodup→∀ {u v},u∈xs→v∈xs→f u=f v→u=v:=by
 intro xs
 induction xs with
 |nil=>intro _ u v hu;cases hu
 |cons x xs ih =>
  intro hn u v hu hv e
  rw[List.map_cons,List.nodup_cons] at hn
  rcases List.mem_cons.mp hu with a1 | a1<;>rcases List.mem_cons.mp hv with a2 | a2
  ·rw[a1,a2]
  ·exact absurd (List.mem_map.mpr ⟨v,a2,by rw[← e,a1]⟩) hn.1
  ·exact absurd (List.mem_map.mpr ⟨u,a1,by rw[e,a2]⟩) hn.1
  ·exact ih hn.2 a1 a2 e
theorem kvB_keys {js:List ((Int×Int)×Addr)}{k:Int×Int}:yb k∈(kvB js).map (·.1)↔k∈js.map (·.1):=by
 unfold kvB
 rw[List.map_map]
 constructor
 ·intro h
  obtain⟨j,hj,e⟩:=List.mem_map.mp h
  exact List.mem_map.mpr ⟨j,hj,yn e⟩
 ·intro h
  obtain⟨j,hj,e⟩:=List.mem_map.mp h
  exact List.mem_map.mpr ⟨j,hj,by rw[← e];rfl⟩
theorem Wu {js:List ((Int×Int)×Addr)}{k:Int×Int}{v:V}(h:yM (kvB js) (yb k)=some v):∃ l,v=.ref l∧(k,l)∈js:=by
 unfold yM at h
 obtain⟨kv,h1,rfl⟩:=Option.map_eq_some_iff.mp h
 have h2:=List.find?_some h1
 obtain⟨j,hj,e⟩:=List.mem_map.mp (List.mem_of_find?_eq_some h1)
 subst e
 have e:j.1=k:=yn (of_decide_eq_true h2)
 exact⟨j.2,rfl,by rw[← e];exact hj⟩
theorem BB.put {G H:Hp}{d e:Addr}{lf:Int→Int}{ds:LP}{js:List ((Int×Int)×Addr)}(b:BB G H d lf ds js){k:Int×Int}(he:H e=some (.lst [])) (hne:∀ j∈js,j.2≠e) (hge:G e=none) (hn:yM (kvB js) (yb k)=none):BB G (upd H d (.dT (putK (kvB js) (yb k) (.ref e)))) d lf ds (js++[(k,e)]):=by
 have hk:k∉js.map (·.1):=fun z=>uV hn (kvB_keys.mpr z)
 have ned:e≠d:=fun z=>by rw[z,b.dd] at he;cases he
 refine⟨⟨?_,?_,fun j hj=>?_,fun k' hk'=>b.no k' fun z=>hk' (by rw[List.map_append];exact List.mem_append.mpr (.inl z))⟩,b.sm.trans Ext.at,fun j hj=>?_,?_⟩
 ·rw[upd_same,L2.putK_new _ hn]
  unfold kvB
  rw[List.map_append]
  rfl
 ·rw[List.map_append,List.nodup_append]
  exact⟨b.nd,by simp,fun u hu v hv e=>hk (by rw[List.map_cons,List.map_nil] at hv;rw[List.mem_singleton.mp hv] at e;have e:u=k:=e;rw[← e];exact hu)⟩
 ·rcases List.mem_append.mp hj with z | z
  ·obtain⟨rs,h1,h2⟩:=b.rows j z
   exact⟨rs,by rw[upd_ne (fun q=>by rw[q,b.dd] at h1;cases h1)];exact h1,h2.updN b.dd (fun xs q=>by cases q)⟩
  ·rw[List.mem_singleton.mp z]
   refine⟨[],by rw[upd_ne ned];exact he,?_⟩
   rw[b.no k hk]
   exact⟨rfl,fun n r p a1=>by simp at a1⟩
 ·rcases List.mem_append.mp hj with z | z
  ·exact b.fr j z
  ·rw[List.mem_singleton.mp z];exact hge
 ·rw[List.map_append,List.nodup_append]
  refine⟨b.nda,by simp,fun u hu v hv ee=>?_⟩
  obtain⟨j,hj,rfl⟩:=List.mem_map.mp hu
  rw[List.map_cons,List.map_nil] at hv
  rw[List.mem_singleton.mp hv] at ee
  exact hne j hj ee
theorem BB.app {G H:Hp}{d l t:Addr}{lf:Int→Int}{ds:LP}{js:List ((Int×Int)×Addr)}(b:BB G H d lf ds js){p:Int×Int}(hj:((lf p.1,lf p.2),l)∈js){rs:List V}(hl:H l=some (.lst rs)) (ht:H t=some (.tup [.int p.1,.int p.2])):BB G (upd H l (.lst (rs++[.ref t]))) d lf (ds++[p]) js:=by
 have hsel:∀ k,sel lf k (ds++[p])=if (lf p.1,lf p.2)=k then sel lf k ds++[p] else sel lf k ds:=fun k=>by
  unfold sel
  rw[List.filter_append]
  by_cases c:(lf p.1,lf p.2)=k
  ·rw[if_pos c,List.filter_cons_of_pos (by simpa using c)]
   rfl
  ·rw[if_neg c,List.filter_cons_of_neg (by simpa using c)]
   simp
 refine⟨⟨?_,b.nd,fun j hjm=>?_,fun k hk=>?_⟩,fun c o e n=>?_,b.fr,b.nda⟩
 ·rw[upd_ne (fun z=>by rw[← z,b.dd] at hl;cases hl)]
  exact b.dd
 ·obtain⟨rs',h1,h2⟩:=b.rows j hjm
  rw[hsel]
  by_cases c:j.2=l
  ·have ej:j=((lf p.1,lf p.2),l):=wT b.nda hjm hj c
   rw[ej] at h1 h2 ⊢
   rw[hl] at h1
   cases h1
   rw[if_pos rfl]
   exact⟨_,upd_same,(h2.snoc ht).updN hl (fun xs q=>by cases q)⟩
  ·have hk:(lf p.1,lf p.2)≠j.1:=fun z=>c (by rw[← wT b.nd hj hjm z])
   rw[if_neg hk]
   exact⟨rs',by rw[upd_ne c];exact h1,h2.updN hl (fun xs q=>by cases q)⟩
 ·rw[hsel,if_neg (fun z=>hk (by rw[← z];exact List.mem_map.mpr ⟨_,hj,rfl⟩))]
  exact b.no k hk
 ·rw[upd_ne (ne_of_none e (b.fr _ hj))]
  exact b.sm c o e n
theorem BB.set {G H:Hp}{d e kt:Addr}{lf:Int→Int}{ds:LP}{js:List ((Int×Int)×Addr)}{k:Int×Int}{Q:V→Hp→Prop}(b:BB G H d lf ds js) (he:H e=some (.lst [])) (hne:∀ j∈js,j.2≠e) (hge:G e=none) (ht:H kt=some (.tup [.int k.1,.int k.2])) (hz:js.length≤1000)
  (hJ:∀ (l:Addr) (H':Hp) (js':List ((Int×Int)×Addr)),BB G H' d lf ds js'→(k,l)∈js'→js'.length≤js.length+1→Ext d H H'→Q (.ref l) H'):zaK H d (.ref kt) (.ref e) Q:=by
 refine .inr ⟨kvB js,yb k,kt,b.dd,rfl,ht,by unfold kvB;rw[List.length_map];exact zl hz,fun u hu=>?_,fun hn=>?_⟩
 ·obtain⟨l,rfl,hl⟩:=Wu hu
  exact hJ l H js b hl (by omega) (Ext.same fun _ _ h=>h)
 ·exact hJ e _ (js++[(k,e)]) (b.put he hne hge hn) (by simp) (by simp) Ext.at
def zbc (a:Ad):Sp:=fun vs H Q _=>∃ (p dx dp ob:Addr) (pf:Int→Option Int) (pa:Int→LI) (us:LI) (bs:LP),vs=[.ref p]∧WayAt a H p pf us bs dx dp ob∧UpP us pf pa∧Bd bs∧bs.length≤63∧(∀ q∈bs,q.1∈us∧q.2∈us) ∧
 ∀ (d:Addr) (js:List ((Int×Int)×Addr)) (H':Hp),H d=none→BR H' d (ldr pa) (dbl (srt bs)) js→js.length≤132→Same H H'→Q (.ref d) H'
theorem zaw (T:Txt w K mg a):FnOk P w K mg base CX0 7 198 (dK K 198) ["way"] (zbc a):=by
 refine(T.fn 9 rfl).ok (scp 9 rfl) (fun vs H Q E h=>?_) (fun cdv A outer s H vs Q E hr h=>?_)
 ·obtain⟨p,dx,dp,ob,pf,pa,us,bs,rfl,_⟩:=h
  rfl
 ·obtain⟨p,dx,dp,ob,pf,pa,us,bs,rfl,W,U,B,l66,hin,k⟩:=h
  have hu:=xo hr
  refine yd (zb (zm (i:=1) (scp 9 rfl).nd rfl (Or.inl rfl) xJ)
   (zb (zR PassesOwn.never rfl (zE (zj Sco.call_sortX (by rfl) (T.n 6 rfl) xr (zT (yA (zh 0)) za))) (yk rfl (zy (zn (i:=2) (scp 9 rfl).nd rfl (Or.inl rfl)) (zy (zn (i:=3) (scp 9 rfl).nd rfl (Or.inl rfl)) zY)))
    (zb (zQ (yu PySem.F.plainAttrs_list PySem.F.slot_list_append PySem.F.type_list_append zU (vy hu (zh 1) (zJ (zT (zH (zh 0) (zd (zh 2) za)) (zT (zH (zh 0) (zd (zh 3) za)) za))) (zA za) ⟨rfl,rfl,rfl,rfl⟩) (xc (zJ (zd (zh 2) (zd (zh 3) za))) za)))
    (zg (zQ (yu PySem.F.plainAttrs_list PySem.F.slot_list_append PySem.F.type_list_append zU (vy hu (zh 1) (zJ (zT (zH (zh 0) (zd (zh 3) za)) (zT (zH (zh 0) (zd (zh 2) za)) za))) (zA za) ⟨rfl,rfl,rfl,rfl⟩) (xc (zJ (zd (zh 3) (zd (zh 2) za))) za))))))
   (zg (zi (zh 1))))) ?_
  refine fun d hd=>?_
  have s0:=Same.new (o:=HO.dT []) hd
  have h0:=upd_same (H:=H) (a:=d) (o:=HO.dT [])
  generalize upd H d (HO.dT [])=H0 at *
  refine mtV rfl (s0 _ _ W.p) rfl (T.cl 0 rfl) (T.mt 38 rfl) (ok_ab (P:=P) (w:=w) T) hr.m (T.bi 38 rfl) (ag0 (Wf (W.same s0) (fun l rs H1 hl hl1 L1 s1=>?_)))
  obtain⟨ps,e1,e2,e3⟩:=L1.ps B
  have lps:ps.length≤63:=by rw[← e2,List.length_map] at l66;exact l66
  refine⟨l,ps,rfl,by rw[e1];exact SqL.of hl1,lps,e3,fun sl qs hsl pm up=>?_⟩
  have Ls:=ul e3 pm up
  rw[e2] at Ls
  have s2:=Same.new (o:=HO.lst (qs.map fun p=>V.ref p.1)) hsl
  have hs2:=upd_same (H:=H1) (a:=sl) (o:=HO.lst (qs.map fun p=>V.ref p.1))
  generalize upd H1 sl (HO.lst (qs.map fun p=>V.ref p.1))=H2 at *
  generalize hrq:qs.map (fun p=>V.ref p.1)=rq at *
  have s02:=s0.trans (s1.trans s2)
  have hsm:∀ {x:Int×Int},x∈srt bs↔x∈bs:=fun {x}=>(ym bs).mem_iff
  have lsl:(srt bs).length≤66:=by rw[(ym bs).length_eq];omega
  have lr:=Ls.1
  have Ls2:=Ls.same s2
  generalize srt bs=sb at *
  refine⟨sl,rfl,⟨_,SqL.of hs2⟩,?_⟩
  generalize hlf:ldr pa=lf at *
  have hd2:=(s1.trans s2) _ _ h0
  have nsd:sl≠d:=fun z=>by rw[z,hd2] at hs2;cases hs2
  refine for_list (xs:=rq) (fun i σ H'=>∃ (js:List ((Int×Int)×Addr)) (o2 o3:Option V),σ=[some (.ref p),some (.ref d),o2,o3]∧BB H2 H' d lf (dbl (sb.take i)) js∧js.length≤2*i) ?_ ?_ ?_ ?_
  ·exact⟨[],none,none,rfl,⟨⟨hd2,List.nodup_nil,(fun j hj=>(nomatch hj)),fun k _=>rfl⟩,Ext.same fun _ _ h=>h,(fun j hj=>(nomatch hj)),List.nodup_nil⟩,by simp⟩
  ·rintro i σ H' hi ⟨js,o2,o3,_,b,_⟩
   exact SqL.of (b.sm _ _ hs2 nsd)
  ·rintro i v σ H3 hi ⟨js,o2,o3,rfl,b,ljs⟩
   obtain⟨⟨x,y⟩,q,hp,rfl,hq⟩:=Ls2.get hi
   have hpm:=hin _ (hsm.mp (List.mem_of_getElem? hp))
   have hi66:i<66:=by
    have:=(List.getElem?_eq_some_iff.mp hp).1
    omega
   obtain⟨hx,hy⟩:=hpm
   dsimp only at hx hy hq
   have W3:∀ {H':Hp},Ext d H2 H'→WayR a H' p pf us dx dp ob:=fun {H'} x=>by
    have W2:=W.same s02
    refine⟨x _ _ W2.p fun z=>?_,.inl (x _ _ W2.dp fun z=>?_),W2.l12⟩
    ·have:=W.p;rw[z,hd] at this;cases this
    ·have:=W.dp;rw[z,hd] at this;cases this
   have nqd:q≠d:=fun z=>by rw[z,hd2] at hq;cases hq
   refine⟨q,_,rfl,SqT.of (b.sm _ _ hq nqd),rfl,_,_,rfl,_,_,rfl,rfl,?_⟩
   have etk:sb.take (i+1)=sb.take i++[(x,y)]:=by rw[List.take_add_one,hp];rfl
   have zt:(dbl (sb.take i)).length≤2*i:=by rw[xR,List.length_take];omega
   refine⟨_,rfl,d,rfl,.inr ⟨_,.inl b.dd⟩,?_⟩
   refine mtV rfl ((W3 b.sm).p) rfl (T.cl 0 rfl) (T.mt 40 rfl) (vT (P:=P) (w:=w) T) hr.m (T.bi 40 rfl) (ag1 rfl (wN (W3 b.sm) U hx (fun H4 s4=>?_)))
   have b4:=b.same s4
   refine mtV rfl ((W3 b4.sm).p) rfl (T.cl 0 rfl) (T.mt 40 rfl) (vT (P:=P) (w:=w) T) hr.m (T.bi 40 rfl) (ag1 rfl (wN (W3 b4.sm) U hy (fun H5 s5=>?_)))
   have b5:=b4.same s5
   rw[hlf]
   refine⟨(by show 2≤sizeLine;decide),fun kt hkt=>?_⟩
   refine⟨(by show 0≤sizeLine;decide),fun e he=>?_⟩
   have sk:=Same.new (o:=HO.tup [V.int (lf x),V.int (lf y)]) hkt
   have hk6:=upd_same (H:=H5) (a:=kt) (o:=HO.tup [V.int (lf x),V.int (lf y)])
   have b6:=b5.same sk
   generalize upd H5 kt (HO.tup [V.int (lf x),V.int (lf y)])=H6 at *
   have se:=Same.new (o:=HO.lst []) he
   have he7:=upd_same (H:=H6) (a:=e) (o:=HO.lst [])
   have b7:=b6.same se
   have ned:e≠d:=fun z=>by rw[z,b6.dd] at he;cases he
   have hne:∀ j∈js,j.2≠e:=fun j hj z=>by
    obtain⟨rs,h1,_⟩:=b6.rows j hj
    rw[z,he] at h1
    cases h1
   have hk7:=se _ _ hk6
   have hge:=b6.sm.free ned he
   generalize upd H6 e (HO.lst [])=H7 at *
   refine b7.set (k:=(lf x,lf y)) he7 hne hge hk7 (by omega) fun l H8 js1 b8 hl8 n8 x8=>?_
   obtain⟨rs8,hr8,L8⟩:=b8.rows _ hl8
   have z8:=L8.1
   have z9:=List.length_filter_le (fun p:Int×Int=>decide ((lf p.1,lf p.2)=(lf x,lf y))) (dbl (sb.take i))
   refine⟨.inl ⟨rfl,_,SqL.of hr8⟩,?_⟩
   refine⟨_,rfl,_,rfl,(by show 2≤sizeLine;decide),fun t ht=>?_⟩
   have s9:=Same.new (o:=HO.tup [V.int x,V.int y]) ht
   have b9:=b8.same s9
   refine⟨l,_,_,rfl,rfl,s9 _ _ hr8,zl (by unfold sel at z8;dsimp only at z8;omega),?_⟩
   have b10:=b9.app (p:=(x,y)) hl8 (s9 _ _ hr8) upd_same
   generalize upd (upd H8 t (HO.tup [V.int x,V.int y])) l (HO.lst (rs8++[V.ref t]))=H10 at *
   refine⟨_,rfl,d,rfl,.inr ⟨_,.inl b10.dd⟩,?_⟩
   refine mtV rfl ((W3 b10.sm).p) rfl (T.cl 0 rfl) (T.mt 40 rfl) (vT (P:=P) (w:=w) T) hr.m (T.bi 40 rfl) (ag1 rfl (wN (W3 b10.sm) U hy (fun H4' s4'=>?_)))
   have b4':=b10.same s4'
   refine mtV rfl ((W3 b4'.sm).p) rfl (T.cl 0 rfl) (T.mt 40 rfl) (vT (P:=P) (w:=w) T) hr.m (T.bi 40 rfl) (ag1 rfl (wN (W3 b4'.sm) U hx (fun H5' s5'=>?_)))
   have b5':=b4'.same s5'
   rw[hlf]
   refine⟨(by show 2≤sizeLine;decide),fun kt' hkt'=>?_⟩
   refine⟨(by show 0≤sizeLine;decide),fun e' he'=>?_⟩
   have sk':=Same.new (o:=HO.tup [V.int (lf y),V.int (lf x)]) hkt'
   have hk6':=upd_same (H:=H5') (a:=kt') (o:=HO.tup [V.int (lf y),V.int (lf x)])
   have b6':=b5'.same sk'
   generalize upd H5' kt' (HO.tup [V.int (lf y),V.int (lf x)])=H6' at *
   have se':=Same.new (o:=HO.lst []) he'
   have he7':=upd_same (H:=H6') (a:=e') (o:=HO.lst [])
   have b7':=b6'.same se'
   have ned':e'≠d:=fun z=>by rw[z,b6'.dd] at he';cases he'
   have hne':∀ j∈js1,j.2≠e':=fun j hj z=>by
    obtain⟨rs,h1,_⟩:=b6'.rows j hj
    rw[z,he'] at h1
    cases h1
   have hk7':=se' _ _ hk6'
   have hge':=b6'.sm.free ned' he'
   generalize upd H6' e' (HO.lst [])=H7' at *
   refine b7'.set (k:=(lf y,lf x)) he7' hne' hge' hk7' (by omega) fun l' H8' js' b8' hl8' n8' x8'=>?_
   obtain⟨rs8',hr8',L8'⟩:=b8'.rows _ hl8'
   have z8':=L8'.1
   have z9':=List.length_filter_le (fun p:Int×Int=>decide ((lf p.1,lf p.2)=(lf y,lf x))) (dbl (sb.take i)++[(x,y)])
   refine⟨.inl ⟨rfl,_,SqL.of hr8'⟩,?_⟩
   refine⟨_,rfl,_,rfl,(by show 2≤sizeLine;decide),fun t' ht'=>?_⟩
   have s9':=Same.new (o:=HO.tup [V.int y,V.int x]) ht'
   have b9':=b8'.same s9'
   refine⟨l',_,_,rfl,rfl,s9' _ _ hr8',zl (by unfold sel at z8';dsimp only at z8';rw[List.length_append,List.length_singleton] at z9';omega),?_⟩
   have b10':=b9'.app (p:=(y,x)) hl8' (s9' _ _ hr8') upd_same
   generalize upd (upd H8' t' (HO.tup [V.int y,V.int x])) l' (HO.lst (rs8'++[V.ref t']))=H10' at *
   refine⟨js',_,_,rfl,?_,by omega⟩
   rw[etk,dbl_snoc]
   exact b10'
  ·rintro σ H' ⟨js,o2,o3,rfl,b,lj⟩
   rw[List.take_of_length_le (by omega)] at b
   refine⟨_,rfl,k d js H' hd b.toBR (by omega) fun c o hc=>?_⟩
   exact b.sm _ _ (s02 _ _ hc) fun z=>by rw[z,hd] at hc;cases hc
open L2.Sco (PT PsAt)
def rfs (pa:Int→LI) (ds:LP) (h n:Int):List (LI):=if ldr pa n=ldr pa h then[rdW pa h n] else(sel (ldr pa) (ldr pa n,ldr pa h) ds).map (rdO pa h n)
def LL (H:Hp) (l:Addr) (xss:List (LI)):Prop:=∃ ps:List (Addr×LI),H l=some (.lst (ps.map fun p=>V.ref p.1))∧(∀ p∈ps,H p.1=some (.lst (p.2.map V.int)))∧ps.map (·.2)=xss
def zaX (a:Ad):Sp:=fun vs H Q _=>∃ (p dx dp ob d:Addr) (pf:Int→Option Int) (pa:Int→LI) (us:LI) (ds:LP) (js:List ((Int×Int)×Addr)) (h n:Int),vs=[.ref p,.ref d,.int h,.int n]∧WayR a H p pf us dx dp ob∧UpP us pf pa∧BR H d (ldr pa) ds js∧(∀ q∈ds,q.1∈us∧q.2∈us)∧ds.length≤132∧h∈us∧n∈us ∧
 ∀ (l:Addr) (H':Hp),H l=none→LL H' l (rfs pa ds h n)→Same H H'→Q (.ref l) H'
theorem zag (T:Txt w K mg a):FnOk P w K mg base CX0 4 203 (dK K 203) ["way", "bridges", "hand", "neighbour"] (zaX a):=by
 have c_road_within:Callee P w K mg base "road_within" 184 (dK K 184) ["way", "hand", "neighbour"] 2 (UZ a):=⟨Ui T,(T.g 7 rfl),(T.fn 7 rfl).kp,(T.bi 7 rfl)⟩
 have c_road_over:Callee P w K mg base "road_over" 191 (dK K 191) ["way", "hand", "neighbour", "bridge"] 3 (zaW a):=⟨zaf T,(T.g 8 rfl),(T.fn 8 rfl).kp,(T.bi 8 rfl)⟩
 refine(T.fn 10 rfl).ok (scp 10 rfl) (fun vs H Q E h=>?_) (fun cdv A outer s H vs Q E hr h=>?_)
 ·obtain⟨p,dx,dp,ob,d,pf,pa,us,ds,js,h,n,rfl,_⟩:=h
  rfl
 ·obtain⟨p,dx,dp,ob,d,pf,pa,us,ds,js,h,n,rfl,W,U,b,hds,lds,hh,hn,k⟩:=h
  have hu:=xo hr
  refine yd (zb (zm (i:=4) (scp 10 rfl).nd rfl (Or.inl rfl) (zJ (zT (zH (zh 0) (zd (zh 3) za)) (zT (zH (zh 0) (zd (zh 2) za)) za))))
   (zb (zB (zo yG (zv yc (zh 4) ze (fun _ _=>rfl)) (zv yc (zh 4) ze (fun _ _=>rfl)) (zC _))
    (zg (zi (zA (zT (zr c_road_within hr.m (zd (zh 0) (zd (zh 2) (zd (zh 3) za)))) za))))
    zp)
   (zg (zi (yo rfl (N':=["bridge", "way", "hand", "neighbour"]) (t:=1) (caps:=[0,2,3]) ⟨rfl,rfl,rfl⟩ (zE (Zx hu (zh 1) (zh 4) (zA za) ⟨rfl,rfl,rfl,rfl⟩)) (fun _=>(zn (i:=0) (show(["bridge", "way", "hand", "neighbour"]:List Str).Nodup by decide +kernel) rfl (Or.inl rfl))) (fun _=>yF) (fun _=>(zr c_road_over hr.m (zd (zh 1) (zd (zh 2) (zd (zh 3) (zd (zh 0) za))))))))))) ?_
  refine mtV rfl W.p rfl (T.cl 0 rfl) (T.mt 40 rfl) (vT (P:=P) (w:=w) T) hr.m (T.bi 40 rfl) (ag1 rfl (wN W U hn (fun H1 s1=>?_)))
  have W1:=W.same s1
  refine mtV rfl W1.p rfl (T.cl 0 rfl) (T.mt 40 rfl) (vT (P:=P) (w:=w) T) hr.m (T.bi 40 rfl) (ag1 rfl (wN W1 U hh (fun H2 s2=>?_)))
  refine⟨(by show 2≤sizeLine;decide),fun t ht=>?_⟩
  have s3:=(s1.trans s2).trans (Same.new (o:=HO.tup [V.int (ldr pa n),V.int (ldr pa h)]) ht)
  have ht3:=upd_same (H:=H2) (a:=t) (o:=HO.tup [V.int (ldr pa n),V.int (ldr pa h)])
  generalize upd H2 t (HO.tup [V.int (ldr pa n),V.int (ldr pa h)])=H3 at *
  refine⟨_,rfl,t,_,0,_,rfl,rfl,SqT.of ht3,rfl,_,rfl,t,_,1,_,rfl,rfl,SqT.of ht3,rfl,rfl,_,rfl,?_⟩
  have W3:=W.same s3
  have b3:=b.same s3
  by_cases c:ldr pa n=ldr pa h
  ·refine iteB (by rw[c];simp) ?_
   refine⟨_,rfl,_,rfl,_,rfl,p,dx,dp,ob,pf,pa,us,h,n,rfl,W3,U,hh,hn,fun l H4 hl h4 s4=>?_⟩
   refine⟨(by show 1≤sizeLine;decide),fun r hr'=>?_⟩
   have s5:=Same.new (o:=HO.lst [V.ref l]) hr'
   refine k r _ ((s3.trans s4).free hr') ⟨[(l,rdW pa h n)],upd_same,fun q hq=>?_,?_⟩ (s3.trans (s4.trans s5))
   ·rw[List.mem_singleton.mp hq]
    exact s5 _ _ h4
   ·unfold rfs
    rw[if_pos c]
    rfl
  ·refine iteN (by simp[c]) ?_
   have er:rfs pa ds h n=(sel (ldr pa) (ldr pa n,ldr pa h) ds).map (rdO pa h n):=by unfold rfs;rw[if_neg c]
   rw[er] at k
   refine⟨_,rfl,d,rfl,.inr ⟨_,.inl b3.dd⟩,_,rfl,(by show 0≤sizeLine;decide),fun e he=>?_⟩
   have s4:=Same.new (o:=HO.lst []) he
   have he4:=upd_same (H:=H3) (a:=e) (o:=HO.lst [])
   generalize upd H3 e (HO.lst [])=H4 at *
   have W4:=W3.same s4
   have b4:=b3.same s4
   obtain⟨l0,rs0,hv,h0,L0⟩:∃ l0 rs0,(yM (kvB js) (yb (ldr pa n,ldr pa h))).getD (V.ref e)=V.ref l0∧H4 l0=some (.lst rs0)∧LnAt H4 rs0 (sel (ldr pa) (ldr pa n,ldr pa h) ds):=by
    cases hc:yM (kvB js) (yb (ldr pa n,ldr pa h)) with
    |none =>
     refine⟨e,[],rfl,he4,?_⟩
     rw[b4.no _ fun z=>uV hc (kvB_keys.mpr z)]
     exact⟨rfl,fun n r p a1=>by simp at a1⟩
    |some v =>
     obtain⟨l,rfl,hl⟩:=Wu hc
     obtain⟨rs,h1,h2⟩:=b4.rows _ hl
     exact⟨l,rs,rfl,h1,h2⟩
   refine⟨_,DGet.t (k:=yb (ldr pa n,ldr pa h)) b4.dd (s4 _ _ ht3),?_⟩
   rw[hv]
   refine⟨l0,rfl,⟨_,SqL.of h0⟩,fun D hD _=>?_⟩
   have lsel:(sel (ldr pa) (ldr pa n,ldr pa h) ds).length≤132:=Nat.le_trans (List.length_filter_le _ _) lds
   have hsl:∀ q∈sel (ldr pa) (ldr pa n,ldr pa h) ds,q.1∈us∧q.2∈us:=fun q hq=>hds q (List.mem_filter.mp hq).1
   generalize sel (ldr pa) (ldr pa n,ldr pa h) ds=sl at *
   have fD:=(s3.trans s4).free hD
   refine comp_list (K:=K) (a:=l0) (xs:=rs0) (fun j zs τ H'=>∃ (o:Option V) (ps:List (Addr×LI)),τ=[o,some (.ref p),some (.int h),some (.int n)]∧zs=ps.map (fun p=>V.ref p.1)∧H' D=some (.lst zs)∧(∀ q∈ps,H' q.1=some (.lst (q.2.map V.int)))∧ps.map (·.2)=(sl.take j).map (rdO pa h n)∧Same H4 H') ?_ ?_ ?_ ?_
   ·exact⟨none,[],rfl,rfl,upd_same,(fun q hq=>(nomatch hq)),by simp,Same.new hD⟩
   ·rintro j zs τ H' ⟨o,ps,_,_,_,_,_,sm⟩
    exact SqL.of (sm _ _ h0)
   ·rintro j v zs τ H' hj ⟨o,ps,rfl,rfl,hD',hps,eps,sm⟩
    obtain⟨q,t',hq,rfl,ht'⟩:=L0.get hj
    obtain⟨hq1,hq2⟩:=hsl q (List.mem_of_getElem? hq)
    have hjl:=(List.getElem?_eq_some_iff.mp hq).1
    have lps:ps.length≤132:=by
     have:=congrArg List.length eps
     rw[List.length_map,List.length_map,List.length_take] at this
     omega
    refine XQ ?_
    refine⟨_,rfl,_,rfl,_,rfl,_,rfl,p,dx,dp,ob,t',pf,pa,us,h,n,q,rfl,W4.same sm,U,hh,hn,hq1,hq2,sm _ _ ht',fun l H5 hl h5 s5=>?_⟩
    have nlD:l≠D:=fun z=>by rw[z,hD'] at hl;cases hl
    refine⟨s5 _ _ hD',by rw[List.length_map];exact zl (by omega),_,ps++[(l,rdO pa h n q)],rfl,by rw[List.map_append];rfl,upd_same,fun q' hq'=>?_,?_,Same.updF (sm.trans s5) hD⟩
    ·rcases List.mem_append.mp hq' with z | z
     ·have h1:=s5 _ _ (hps q' z)
      have:q'.1≠D:=fun zz=>by
       have h2:=hps q' z
       rw[zz,hD'] at h2
       injection h2 with h2
       injection h2 with h2
       have:=congrArg List.head? h2
       cases ps with
       |nil=>cases z
       |cons p0 ps => 
        cases hc:q'.2 with
        |nil=>rw[hc] at h2;cases h2
        |cons i r=>rw[hc] at h2;cases h2
      rw[upd_ne this]
      exact h1
     ·rw[List.mem_singleton.mp z,upd_ne nlD]
      exact h5
    ·rw[List.map_append,eps,List.take_add_one,hq,List.map_append]
     rfl
   ·rintro zs τ H' ⟨o,ps,rfl,rfl,hD',hps,eps,sm⟩
    rw[List.take_of_length_le (by have:=L0.1;omega)] at eps
    exact k D H' fD ⟨ps,hD',hps,eps⟩ ((s3.trans s4).trans sm)
def zaZ (a:Ad):Sp:=fun vs H Q _=>∃ (p:Addr) (hs:LI) (ls:LP),vs=[.ref p]∧WbP a H p hs ls∧∀ (l:Addr) (rs:List V) (H':Hp),H l=none→H' l=some (.lst rs)→LnAt H' rs (dbl (srt ls))→Same H H'→Q (.ref l) H'
theorem zai (T:Txt w K mg a):FnOk P w K mg base CX0 2 210 (dK K 210) ["web"] (zaZ a):=by
 refine(T.fn 11 rfl).ok (scp 11 rfl) (fun vs H Q E h=>?_) (fun cdv A outer s H vs Q E hr h=>?_)
 ·obtain⟨p,hs,ls,rfl,_⟩:=h
  rfl
 ·obtain⟨p,hs,ls,rfl,WP,k⟩:=h
  refine yd (zb (zm (i:=1) (scp 11 rfl).nd rfl (Or.inl rfl) (zA za))
   (zb (zR PassesOwn.never rfl (zE (yA (zh 0))) (yk rfl (zy (zn (i:=2) (scp 11 rfl).nd rfl (Or.inl rfl)) (zy (zn (i:=3) (scp 11 rfl).nd rfl (Or.inl rfl)) zY)))
    (zb (zQ (yu PySem.F.plainAttrs_list PySem.F.slot_list_append PySem.F.type_list_append zU (zh 1) (xc (zJ (zd (zh 2) (zd (zh 3) za))) za)))
    (zg (zQ (yu PySem.F.plainAttrs_list PySem.F.slot_list_append PySem.F.type_list_append zU (zh 1) (xc (zJ (zd (zh 3) (zd (zh 2) za))) za))))))
   (zg (zi (zh 1))))) ?_
  refine⟨(by show 0≤sizeLine;decide),fun l hl=>?_⟩
  have s0:=Same.new (o:=HO.lst []) hl
  have h0:=upd_same (H:=H) (a:=l) (o:=HO.lst [])
  generalize upd H l (HO.lst [])=H0 at *
  obtain⟨wdx,oh,ol,d0,ad,W⟩:=(WP.same s0).at_
  refine mtV rfl W.p rfl (T.cl 1 rfl) (T.mt 43 rfl) (Uk (P:=P) (w:=w) T) hr.m (T.bi 43 rfl) (ag0 (WO W (fun lq zs hlq Lz=>?_)))
  have s1:=Same.new (o:=HO.lst zs) hlq
  have hz1:=upd_same (H:=H0) (a:=lq) (o:=HO.lst zs)
  have Lz1:=Lz.same s1
  have h1:=s1 _ _ h0
  have lsl:(srt ls).length≤66:=by rw[(ym ls).length_eq];exact WP.wl.le
  generalize upd H0 lq (HO.lst zs)=H1 at *
  generalize srt ls=sb at *
  have nql:lq≠l:=fun z=>by rw[z,h0] at hlq;cases hlq
  refine⟨lq,rfl,⟨_,SqL.of hz1⟩,?_⟩
  refine for_list (xs:=zs) (fun i σ H'=>∃ (rs:List V) (o2 o3:Option V),σ=[some (.ref p),some (.ref l),o2,o3]∧H' l=some (.lst rs)∧LnAt H' rs (dbl (sb.take i))∧H' lq=some (.lst zs)∧LnAt H' zs sb∧Same H H') ?_ ?_ ?_ ?_
  ·exact⟨[],none,none,rfl,h1,⟨rfl,fun n r p a1=>by simp at a1⟩,hz1,Lz1,s0.trans s1⟩
  ·rintro i σ H' hi ⟨rs,o2,o3,_,_,_,h,_⟩
   exact SqL.of h
  ·rintro i v σ H2 hi ⟨rs,o2,o3,rfl,h2,L2',hz2,Lz2,sm⟩
   obtain⟨⟨x,y⟩,q,hp,rfl,hq⟩:=Lz2.get hi
   dsimp only at hq
   have hjl:=(List.getElem?_eq_some_iff.mp hp).1
   have etk:sb.take (i+1)=sb.take i++[(x,y)]:=by rw[List.take_add_one,hp];rfl
   have lr:rs.length≤132:=by
    rw[L2'.1,xR,List.length_take]
    omega
   refine⟨q,_,rfl,SqT.of hq,rfl,_,_,rfl,_,_,rfl,rfl,?_⟩
   refine⟨_,rfl,.inl ⟨rfl,_,SqL.of h2⟩,_,rfl,_,rfl,(by show 2≤sizeLine;decide),fun t1 ht1=>?_⟩
   have n1:=Same.new (o:=HO.tup [V.int x,V.int y]) ht1
   refine⟨l,_,_,rfl,rfl,n1 _ _ h2,zl (by omega),?_⟩
   have L3:=(((L2'.same n1).snoc (p:=(x,y)) upd_same).updN (o:=HO.lst (rs++[V.ref t1])) (n1 _ _ h2) (fun xs q=>by cases q))
   have Lz3:=(Lz2.same n1).updN (o:=HO.lst (rs++[V.ref t1])) (n1 _ _ h2) (fun xs q=>by cases q)
   have hz3:(upd (upd H2 t1 (HO.tup [V.int x,V.int y])) l (HO.lst (rs++[V.ref t1]))) lq=some (.lst zs):=by rw[upd_ne nql];exact n1 _ _ hz2
   have sm3:=(sm.trans n1).updF (o:=HO.lst (rs++[V.ref t1])) hl
   have h3:=upd_same (H:=upd H2 t1 (HO.tup [V.int x,V.int y])) (a:=l) (o:=HO.lst (rs++[V.ref t1]))
   generalize upd (upd H2 t1 (HO.tup [V.int x,V.int y])) l (HO.lst (rs++[V.ref t1]))=H3 at *
   refine⟨_,rfl,.inl ⟨rfl,_,SqL.of h3⟩,_,rfl,_,rfl,(by show 2≤sizeLine;decide),fun t2 ht2=>?_⟩
   have n2:=Same.new (o:=HO.tup [V.int y,V.int x]) ht2
   refine⟨l,_,_,rfl,rfl,n2 _ _ h3,zl (by rw[List.length_append,List.length_singleton];omega),?_⟩
   refine⟨_,_,_,rfl,upd_same,?_,by rw[upd_ne nql];exact n2 _ _ hz3,(Lz3.same n2).updN (n2 _ _ h3) (fun xs q=>by cases q),(sm3.trans n2).updF hl⟩
   rw[etk,dbl_snoc]
   exact((L3.same n2).snoc (p:=(y,x)) upd_same).updN (n2 _ _ h3) (fun xs q=>by cases q)
  ·rintro σ H' ⟨rs,o2,o3,rfl,h2,L2',_,_,sm⟩
   rw[List.take_of_length_le (by have:=Lz1.1;omega)] at L2'
   exact⟨_,rfl,k l rs H' hl h2 L2' sm⟩
open L2.Sco (PT PsAt)
theorem LnAt.prs {H:Hp}:∀ {rs:List V}{ls:LP},LnAt H rs ls→∃ ps:List (Addr×Int×Int),ps.map (fun p=>V.ref p.1)=rs∧ps.map (·.2)=ls∧∀ p∈ps,H p.1=some (.tup [.int p.2.1,.int p.2.2])
 |[],[],_=>⟨[],rfl,rfl,fun p hp=>(nomatch hp)⟩
 |[],l::ls,h=>absurd h.1 (by simp)
 |r::rs,[],h=>absurd h.1 (by simp)
 |r::rs,l::ls,h=>by
  obtain⟨q,e1,e2⟩:=h.2 0 r l rfl rfl
  obtain⟨ps,h1,h2,h3⟩:=LnAt.prs (rs:=rs) (ls:=ls) ⟨by have:=h.1;simpa using this,fun i r p a1 a2=>h.2 (i+1) r p (by simpa using a1) (by simpa using a2)⟩
  refine⟨(q,l)::ps,by rw[List.map_cons,h1,e1],by rw[List.map_cons,h2],fun p hp=>?_⟩
  rcases List.mem_cons.mp hp with e | e
  ·rw[e];exact e2
  ·exact h3 p e
def kvP (js:List ((Int×Int)×Addr×LI)):List (List Key×V):=js.map fun j=>(yb j.1,V.ref j.2.1)
theorem wc {js:List ((Int×Int)×Addr×LI)}:(kvP js).map (·.1)=(js.map (·.1)).map yb:=by
 unfold kvP
 rw[List.map_map,List.map_map]
 rfl
theorem YG {js:List ((Int×Int)×Addr×LI)}(nd:(js.map (·.1)).Nodup){j:(Int×Int)×Addr×LI}(h:j∈js):yM (kvP js) (yb j.1)=some (.ref j.2.1):=by
 refine w4 ?_ (List.mem_map.mpr ⟨j,h,rfl⟩)
 rw[wc]
 exact List.pairwise_map.mpr (nd.imp fun h e=>h (yn e))
theorem WC:∀ {ls:LP},ls.Nodup→(∀ p∈ls,p.1<p.2)→(dbl ls).Nodup
 |[],_,_=>List.nodup_nil
 |p::ls,hn,h=>by
  rw[List.nodup_cons] at hn
  have ih:=WC (ls:=ls) hn.2 fun q hq=>h q (List.mem_cons_of_mem _ hq)
  have hp:=h p List.mem_cons_self
  show(p::(p.2,p.1)::dbl ls).Nodup
  rw[List.nodup_cons,List.nodup_cons]
  refine⟨fun z=>?_,fun z=>?_,ih⟩
  ·rcases List.mem_cons.mp z with e | e
   ·have:=congrArg Prod.fst e
    dsimp only at this
    omega
   ·rcases mem_dbl.mp e with e | e
    ·exact hn.1 e
    ·have:=h _ (List.mem_cons_of_mem _ e)
     dsimp only at this
     omega
  ·rcases mem_dbl.mp z with e | e
   ·have:=h _ (List.mem_cons_of_mem _ e)
    dsimp only at this
    omega
   ·exact hn.1 e
theorem Ls.dnd {hs:LI}{ls:LP}(L:Ls hs ls):(dbl (srt ls)).Nodup:=WC ((ym ls).nodup_iff.mpr L.nd) fun p hp=>(L.ok p ((ym ls).mem_iff.mp hp)).2.2
theorem mem_ds {ls:LP}{q:Int×Int}:q∈dbl (srt ls)↔q∈dbl ls:=by
 rw[mem_dbl,mem_dbl,(ym ls).mem_iff,(ym ls).mem_iff]
theorem Z3 {as bs:LP}(na:as.Nodup) (nb:bs.Nodup) (h:∀ x∈as,x∈bs) (hl:as.length=bs.length):∀ x∈bs,x∈as:=fun x hx=>by
 by_cases c:x∈as
 ·exact c
 ·have h1:=vV (as:=x::as) (bs:=bs) (List.nodup_cons.mpr ⟨c,na⟩) fun y hy=>by
   rcases List.mem_cons.mp hy with e | e
   ·rw[e];exact hx
   ·exact h y e
  rw[List.length_cons] at h1
  omega
theorem V1 {pa:Int→LI}{bs:LP}{x y:Int}(h:ldr pa x≠ldr pa y→∃ b∈bs,jk (ldr pa) b=jk (ldr pa) (x,y)):rfs pa (dbl (srt bs)) x y≠[]:=by
 unfold rfs
 by_cases c:ldr pa y=ldr pa x
 ·rw[if_pos c];simp
 ·rw[if_neg c]
  obtain⟨b,hb,e⟩:=h fun z=>c z.symm
  have e1:=congrArg Prod.fst e
  have e2:=congrArg Prod.snd e
  unfold jk at e1 e2
  dsimp only at e1 e2
  intro z
  rw[List.map_eq_nil_iff] at z
  have hz:∀ q:Int×Int,q∈dbl (srt bs)→(ldr pa q.1,ldr pa q.2)≠(ldr pa y,ldr pa x):=fun q hq e=>by
   have:q∈sel (ldr pa) (ldr pa y,ldr pa x) (dbl (srt bs)):=List.mem_filter.mpr ⟨hq,decide_eq_true e⟩
   rw[z] at this
   cases this
  by_cases c1:ldr pa b.1=ldr pa y
  ·exact hz b (mem_ds.mpr (mem_dbl.mpr (.inl hb))) (Prod.ext c1 (by show ldr pa b.2=ldr pa x;omega))
  ·exact hz (b.2,b.1) (mem_ds.mpr (mem_dbl.mpr (.inr hb))) (Prod.ext (by show ldr pa b.2=ldr pa y;omega) (by show ldr pa b.1=ldr pa x;omega))
open L2.Sco (PT PsAt)
theorem zaN {k:Nat}{A:Around}(hr:Room k A):A.units+70<cLine:=by have:=hr.un;omega
theorem TyOf.same {K:PySem.W.Frag}{H H':Hp}{v:V}{t:Value}(s:Same H H') (h:TyOf K H v t):TyOf K H' v t:=by
 cases h with
 |non=>exact .non
 |bl x=>exact .bl x
 |int i=>exact .int i
 |str x=>exact .str x
 |flt x=>exact .flt x
 |lst e=>exact .lst (s _ _ e)
 |frz e=>exact .frz (s _ _ e)
 |tup e=>exact .tup (s _ _ e)
 |dK e=>exact .dK (s _ _ e)
 |dT e=>exact .dT (s _ _ e)
 |ins e a b c d f=>exact .ins (s _ _ e) a b c d f
 |odd e x=>exact .odd (s _ _ e) x
inductive WhH (K:PySem.W.Frag) (H:Hp):V→Bool→Prop where
 |int (i:Int):WhH K H (.int i) true
 |bl (b:Bool):WhH K H (.bl b) false
 |no {v:V}{t:Value}(ty:TyOf K H v t) (kk:PySem.W.kitOne K t (.type "int")=some false):WhH K H v false
abbrev WhL (K:PySem.W.Frag) (H:Hp):List V→List Bool→Prop:=Paired (WhH K H)
theorem WhL.itl {K:PySem.W.Frag}{H:Hp}:∀ l:LI,WhL K H (l.map V.int) (l.map fun _=>true)
 |[]=>.nil
 |i::l=>.cons (.int i) (WhL.itl l)
theorem WhL.same {K:PySem.W.Frag}{H H':Hp}{xs:List V}{bs:List Bool}(s:Same H H') (h:WhL K H xs bs):WhL K H' xs bs:=Paired.mapP h fun a b h=>by
 cases h with
 |int i=>exact .int i
 |bl b=>exact .bl b
 |no ty kk=>exact .no (TyOf.same s ty) kk
theorem WhL.get {K:PySem.W.Frag}{H:Hp}:∀ {xs:List V}{bs:List Bool},WhL K H xs bs→∀ {i:Nat}{x:V},xs[i]?=some x→∃ b,bs[i]?=some b∧WhH K H x b
 |_,_,.cons h _,0,_,e=>by cases e;exact⟨_,rfl,h⟩
 |_,_,.cons _ t,i+1,x,e=>by simpa using WhL.get t (i:=i) (x:=x) (by simpa using e)
inductive RvAt (K:PySem.W.Frag) (H:Hp):V→Option (LI)→Prop where
 |itl {ad:Addr}{l:LI}(e:H ad=some (.lst (l.map V.int))) (z:l.length≤1000):RvAt K H (.ref ad) (some l)
 |no {v:V}{t:Value}(ty:TyOf K H v t) (kk:PySem.W.kitOne K t (.type "list")=some false):RvAt K H v none
 |odd {ad:Addr}{xs:List V}{bs:List Bool}(e:H ad=some (.lst xs)) (h:WhL K H xs bs) (f:false∈bs) (z:xs.length≤1000):RvAt K H (.ref ad) none
theorem RvAt.same {K:PySem.W.Frag}{H H':Hp}{v:V}{o:Option (LI)}(s:Same H H') (h:RvAt K H v o):RvAt K H' v o:=by
 cases h with
 |itl e z=>exact .itl (s _ _ e) z
 |no ty kk=>exact .no (TyOf.same s ty) kk
 |odd e h f z=>exact .odd (s _ _ e) (h.same s) f z
abbrev JG:=(Int×Int)×V×Option (LI)
def kvG (js:List JG):List (List Key×V):=js.map fun j=>(yb j.1,j.2.1)
structure GPp (K:PySem.W.Frag) (H:Hp) (d:Addr) (js:List JG):Prop where
 dd:H d=some (.dT (kvG js))
 nd:(js.map (·.1)).Nodup
 row:∀ j∈js,RvAt K H j.2.1 j.2.2
 len:js.length≤132
theorem GPp.same {K:PySem.W.Frag}{H H':Hp}{d:Addr}{js:List JG}(p:GPp K H d js) (s:Same H H'):GPp K H' d js:=⟨s _ _ p.dd,p.nd,fun j hj=>(p.row j hj).same s,p.len⟩
theorem uE {js:List JG}(nd:(js.map (·.1)).Nodup){j:JG}(h:j∈js):yM (kvG js) (yb j.1)=some j.2.1:=by
 refine w4 ?_ (List.mem_map.mpr ⟨j,h,rfl⟩)
 have e:(kvG js).map (·.1)=(js.map (·.1)).map yb:=by unfold kvG;rw[List.map_map,List.map_map];rfl
 rw[e]
 exact List.pairwise_map.mpr (nd.imp fun h e=>h (yn e))
abbrev JR:=(Int×Int)×Option (LI)
def jr (js:List JG):List JR:=js.map fun j=>(j.1,j.2.2)
inductive DcG (K:PySem.W.Frag) (n:Nat) (H:Hp):V→Option (List JR)→Prop where
 |pap {d:Addr}{js:List JG}(p:GPp K H d js):DcG K n H (.ref d) (some (jr js))
 |bad {d:Addr}{js:List JG}{kb:List Key}{v:V}(e:H d=some (.dT (kvG js++[(kb,v)]))) (hb:∀ q,kb≠yb q) (nd:(js.map (·.1)).Nodup):DcG K n H (.ref d) none
 |odd {d:Addr}{od:Obj}{ps:List PT}{y:V}{t:Value}(hm:(d == sysModules)=false) (e:H d=some (hOd d od)) (o:OdD od ((ps.map fun p=>V.ref p.1)++[y])) (hp:∀ p∈ps,H p.1=some (.tup [.int p.2.1,.int p.2.2])) (hn:ps.length=n) (ty:TyOf K H y t) (kk:PySem.W.kitOne K t (.type "tuple")=some false):DcG K n H (.ref d) none
theorem DcG.same {K:PySem.W.Frag}{n:Nat}{H H':Hp}{v:V}{o:Option (List JR)}(s:Same H H') (h:DcG K n H v o):DcG K n H' v o:=by
 cases h with
 |pap p=>exact .pap (p.same s)
 |bad e hb nd=>exact .bad (s _ _ e) hb nd
 |odd hm e o hp hn ty kk=>exact .odd hm (s _ _ e) o (fun p h=>s _ _ (hp p h)) hn (TyOf.same s ty) kk
theorem DcG.ty {K:PySem.W.Frag}{n:Nat}{H:Hp}{v:V}{o:Option (List JR)}(h:DcG K n H v o):TyOf K H v (.type "dict"):=by
 cases h with
 |pap p=>exact .dT p.dd
 |bad e hb nd=>exact .dT e
 |odd hm e o hp hn ty kk=>exact .odd e o.1
theorem wz:∀ (ks:List Key),(∃ ns:LI,ks=ns.map Sum.inl)∨∃ bs:List Bool,false∈bs∧∀ {K:PySem.W.Frag}{H:Hp},PySem.W.kitOne K (.type "str") (.type "int")=some false→WhL K H (ks.map kV) bs
 |[]=>.inl ⟨[],rfl⟩
 |.inr x::ks=>by
  rcases wz ks with⟨ns,rfl⟩ | ⟨bs,_,h⟩
  ·exact .inr ⟨false::ns.map (fun _=>true),List.mem_cons_self,fun kk=>.cons (.no (.str x) kk) (by rw[List.map_map];exact WhL.itl ns)⟩
  ·exact .inr ⟨false::bs,List.mem_cons_self,fun kk=>.cons (.no (.str x) kk) (h kk)⟩
 |.inl i::ks=>by
  rcases wz ks with⟨ns,rfl⟩ | ⟨bs,hb,h⟩
  ·exact .inl ⟨i::ns,rfl⟩
  ·exact .inr ⟨true::bs,List.mem_cons_of_mem _ hb,fun kk=>.cons (.int i) (h kk)⟩
structure HoG (us:LI) (ls:LP) (pf:Int→Option Int) (bs:LP) (js:List JR):Prop where
 g:GrB us ls pf bs
 kk:∀ j∈js,j.1∈dbl (srt ls)
 ln:js.length=(dbl (srt ls)).length
 rd:∀ j∈js,∃ l,j.2=some l∧l∈rfs (paO pf) (dbl (srt bs)) j.1.1 j.1.2
def uY (K:PySem.W.Frag):Sp:=fun vs H Q _=>∃ v b,vs=[v]∧WhH K H v b∧Q (.bl b) H
theorem Yv (T:Txt w K mg a):FnOk P w K mg base CX0 1 53 (dK K 53) ["value"] (uY K):=by
 refine(T.fn 0 rfl).ok (scp 0 rfl) (fun vs H Q E h=>?_) (fun cdv A outer s H vs Q E hr h=>?_)
 ·obtain⟨v,b,rfl,_⟩:=h
  rfl
 ·obtain⟨v,b,rfl,hv,k⟩:=h
  refine yd (zg (zi (xu (zj zM (by rfl) (T.n 3 rfl) zq (zd (zh 0) (zd (zZ (T.n 1 rfl) Zr) za))) (yW (uS (zj zM (by rfl) (T.n 3 rfl) zq (zd (zh 0) (zd (zZ (T.n 8 rfl) wD) za)))))))) ?_
  cases hv with
  |int i =>
   refine⟨_,rfl,_,_,_,_,_,rfl,rfl,.int i,(T.k 0 rfl),_,rfl,xn ?_⟩
   exact⟨_,rfl,_,_,_,_,_,rfl,rfl,.int i,(T.k 1 rfl),_,rfl,k⟩
  |bl b =>
   refine⟨_,rfl,_,_,_,_,_,rfl,rfl,.bl b,(T.k 25 rfl),_,rfl,xn ?_⟩
   exact⟨_,rfl,_,_,_,_,_,rfl,rfl,.bl b,(T.k 17 rfl),_,rfl,k⟩
  |no ty kk=>exact⟨_,rfl,_,_,_,_,_,rfl,rfl,ty,kk,_,rfl,iteN rfl k⟩
def U5 (K:PySem.W.Frag):Sp:=fun vs H Q _=>∃ (l:Addr) (xs:List V) (bs:List Bool),vs=[.ref l]∧(SqL K H l xs∨SqT K H l xs)∧WhL K H xs bs∧Q (.bl (bs.all id)) H
theorem Uo (T:Txt w K mg a):FnOk P w K mg base CX0 2 217 (dK K 217) ["values"] (U5 K):=by
 have c_is_whole:Callee P w K mg base "is_whole" 53 (dK K 53) ["value"] 1 (uY K):=⟨Yv T,(T.g 0 rfl),(T.fn 0 rfl).kp,(T.bi 0 rfl)⟩
 refine(T.fn 12 rfl).ok (scp 12 rfl) (fun vs H Q E h=>?_) (fun cdv A outer s H vs Q E hr h=>?_)
 ·obtain⟨l,xs,bs,rfl,_⟩:=h
  rfl
 ·obtain⟨l,xs,bs,rfl,hor,hw,k⟩:=h
  have hlen:=Paired.length hw
  have kf:∀ i:Nat,bs[i]?=some false→Q (.bl false) H:=fun i h=>by
   have:bs.all id=false:=List.all_eq_false.mpr ⟨false,List.mem_of_getElem? h,by simp⟩
   rw[this] at k
   exact k
  have kt:(∀ b∈bs.take xs.length,b=true)→Q (.bl true) H:=fun h=>by
   rw[hlen,List.take_length] at h
   have:bs.all id=true:=List.all_eq_true.mpr h
   rw[this] at k
   exact k
  have etk:∀ {i:Nat}{b:Bool},bs[i]?=some b→(∀ b∈bs.take i,b=true)→b=true→∀ b∈bs.take (i+1),b=true:=fun {i b} hb h e b' hb'=>by
   rw[List.take_add_one,hb] at hb'
   rcases List.mem_append.mp hb' with z | z
   ·exact h b' z
   ·rw[List.mem_singleton.mp z,e]
  refine yd (zb (zR PassesOwn.never rfl (uN (zE (zh 0)) (uM (zh 0))) (zn (i:=1) (scp 12 rfl).nd rfl (Or.inl rfl))
    (zg (zB (zO (zG (zr c_is_whole hr.m (zd (zh 1) za))))
     (zg (zi zI))
     zp)))
   (zg (zi zI))) ?_
  rcases hor with hl | hl
  ·refine .inl ⟨_,rfl,l,rfl,⟨_,hl⟩,?_⟩
   refine for_list (xs:=xs) (fun i σ H'=>∃ (o1:Option V),σ=[some (.ref l),o1]∧H'=H∧∀ b∈bs.take i,b=true) ?_ ?_ ?_ ?_
   ·exact⟨none,rfl,rfl,fun b hb=>by simp at hb⟩
   ·rintro i σ H' hi ⟨o1,_,rfl,_⟩
    exact hl
   ·rintro i v σ H' hi ⟨o1,rfl,rfl,gd⟩
    obtain⟨b,hb,hv⟩:=hw.get hi
    refine⟨_,rfl,_,b,rfl,hv,_,rfl,?_⟩
    cases hc:b with
    |true=>exact iteN rfl ⟨_,rfl,rfl,etk hb gd hc⟩
    |false=>rw[hc] at hb;exact xn (kf i hb)
   ·rintro σ H' ⟨o1,rfl,rfl,gd⟩
    exact kt gd
  ·refine .inr ⟨_,rfl,l,rfl,⟨_,hl⟩,?_⟩
   refine for_tup (xs:=xs) (fun i σ H'=>∃ (o1:Option V),σ=[some (.ref l),o1]∧H'=H∧∀ b∈bs.take i,b=true) ?_ ?_ ?_ ?_
   ·exact⟨none,rfl,rfl,fun b hb=>by simp at hb⟩
   ·rintro i σ H' hi ⟨o1,_,rfl,_⟩
    exact hl
   ·rintro i v σ H' hi ⟨o1,rfl,rfl,gd⟩
    obtain⟨b,hb,hv⟩:=hw.get hi
    refine⟨_,rfl,_,b,rfl,hv,_,rfl,?_⟩
    cases hc:b with
    |true=>exact iteN rfl ⟨_,rfl,rfl,etk hb gd hc⟩
    |false=>rw[hc] at hb;exact xn (kf i hb)
   ·rintro σ H' ⟨o1,rfl,rfl,gd⟩
    exact kt gd
def spHj (K:PySem.W.Frag) (n:Nat):Sp:=fun vs H Q _=>∃ (v:V) (l:Addr) (o:Option (List JR)) (rs:List V) (qs:LP),vs=[v,.ref l]∧DcG K n H v o∧H l=some (.lst rs)∧LnAt H rs qs∧∀ (b:Bool),(b=true↔∃ js,o=some js∧(∀ j∈js,j.1∈qs)∧js.length=qs.length)→Q (.bl b) H
theorem zar {n:Nat}(T:Txt w K mg a):FnOk P w K mg base CX0 3 224 (dK K 224) ["paper", "pairs"] (spHj K n):=by
 have c_are_wholes:Callee P w K mg base "are_wholes" 217 (dK K 217) ["values"] 2 (U5 K):=⟨Uo T,(T.g 12 rfl),(T.fn 12 rfl).kp,(T.bi 12 rfl)⟩
 refine(T.fn 13 rfl).ok (scp 13 rfl) (fun vs H Q E h=>?_) (fun cdv A outer s H vs Q E hr h=>?_)
 ·obtain⟨v,l,o,rs,qs,rfl,_⟩:=h
  rfl
 ·obtain⟨v,l,o,rs,qs,rfl,dc,hl,L,k⟩:=h
  have hu:=xo hr
  have un:=hr.units
  have un5:=Nat.lt_of_le_of_lt (Nat.add_le_add_left (by decide:5≤64) _) hr.units
  refine yd (zb (Zs (zR PassesOwn.never rfl (uN (ue (zh 0)) (Zv (zh 0))) (zn (i:=2) (scp 13 rfl).nd rfl (Or.inl rfl))
    (zg (zB (wJ (yt (zO (zG (zj zM (by rfl) (T.n 3 rfl) zq (zd (zh 2) (zd (zZ (T.n 9 rfl) xa) za))))) (yt (zO (zG (zr c_are_wholes hr.m (zd (zh 2) za)))) (yq (zo (wq Yo Yn) (zh 2) (zh 1) (by with_unfolding_all rfl))))))
     (zg (zi zI))
     zp))))
   (zg (zi (yg yG (zj wV (by rfl) (T.n 0 rfl) yh (zd (zh 0) za)) (zj zw (by rfl) (T.n 0 rfl) yh (zd (zh 1) za)) (zC _))))) ?_
  cases dc with
  |odd hm e o hp hn ty kk =>
   rename_i d od ps y t
   obtain⟨ps2,e1,e2,e3⟩:=L.prs
   have nk:Q (.bl false) H:=k false ⟨fun z=>(nomatch z),fun⟨js,h1,_⟩=>by cases h1⟩
   refine .inr ⟨_,rfl,d,od,_,rfl,hm,e,o,?_⟩
   refine YV (d:=d) (od:=od) (ks:=(ps.map fun p=>V.ref p.1)++[y]) (fun i σ H'=>∃ (o2:Option V),σ=[some (.ref d),some (.ref l),o2]∧H'=H∧i≤ps.length) ?_ ?_ ?_ ?_
   ·exact⟨none,rfl,rfl,Nat.zero_le _⟩
   ·rintro i σ H' ⟨o2,_,rfl,_⟩
    exact e
   ·rintro i x σ G hx ⟨o2,rfl,rfl,hi⟩
    by_cases c:i<ps.length
    ·rw[List.getElem?_append_left (by rw[List.length_map];exact c),List.getElem?_map] at hx
     obtain⟨p,hp1,rfl⟩:=Option.map_eq_some_iff.mp hx
     have hb:=hp p (List.mem_of_getElem? hp1)
     refine⟨_,rfl,_,_,_,_,_,rfl,rfl,.tup hb,(T.k 3 rfl),_,rfl,iteN rfl ?_⟩
     refine⟨_,rfl,p.1,_,_,rfl,.inr (SqT.of hb),WhL.itl [p.2.1,p.2.2],_,rfl,iteN rfl ?_⟩
     refine⟨_,rfl,_,rfl,.inl ⟨l,p.1,ps2,p.2.1,p.2.2,rfl,rfl,by rw[e1];exact SqL.of hl,e3,hb,un5,_,rfl,?_⟩⟩
     rw[e2]
     by_cases c2:p.2∈qs
     ·exact iteN (by rw[decide_eq_true (show(p.2.1,p.2.2)∈qs from c2)];rfl) ⟨_,rfl,rfl,c⟩
     ·exact iteB (by rw[decide_eq_false (show(p.2.1,p.2.2)∉qs from c2)];rfl) (.inl nk)
    ·have c:i=ps.length:=by omega
     subst c
     rw[List.getElem?_append_right (by rw[List.length_map];exact Nat.le_refl _),List.length_map,Nat.sub_self] at hx
     cases hx
     exact⟨_,rfl,_,_,_,_,_,rfl,rfl,ty,kk,_,rfl,iteB rfl (.inl nk)⟩
   ·rintro σ H' ⟨_,_,_,h⟩
    rw[List.length_append,List.length_map] at h
    exact absurd h (Nat.not_succ_le_self _)
  |bad e hb nd =>
   rename_i d js kb vb
   have nk:Q (.bl false) H:=k false ⟨fun z=>(nomatch z),fun⟨js,h1,_⟩=>by cases h1⟩
   refine .inl ⟨_,rfl,d,_,rfl,e,fun od S=>?_⟩
   have x1:Ext d H (upd H d (HO.frz od (HO.dT (kvG js++[(kb,vb)])))):=Ext.at
   have hz1:=upd_same (H:=H) (a:=d) (o:=HO.frz od (HO.dT (kvG js++[(kb,vb)])))
   have back:upd (upd H d (HO.frz od (HO.dT (kvG js++[(kb,vb)])))) d (HO.dT (kvG js++[(kb,vb)]))=H:=by
    rw[xL]
    funext b
    by_cases z:b=d
    ·rw[z,upd_same,e]
    ·rw[upd_ne z]
   generalize upd H d (HO.frz od (HO.dT (kvG js++[(kb,vb)])))=H1 at *
   have nld:l≠d:=fun z=>by rw[z,e] at hl;cases hl
   have hl1:=x1 _ _ hl nld
   have L1:LnAt H1 rs qs:=⟨L.1,fun n r p a1 a2=>by
    obtain⟨qq,b1,b2⟩:=L.2 n r p a1 a2
    exact⟨qq,b1,x1 _ _ b2 fun z=>by rw[z,e] at b2;cases b2⟩⟩
   obtain⟨ps,e1,e2,e3⟩:=L1.prs
   have hlk:(kvG js).length=js.length:=by unfold kvG;rw[List.length_map]
   have nk1:ThT H (fun H=>Q (.bl false) H) H1:=.inr ⟨d,od,_,S,hz1,by rw[back];exact nk⟩
   refine vZ (d:=d) (od:=od) (kvs:=kvG js++[(kb,vb)]) (fun i σ H'=>∃ (o2:Option V),σ=[some (.ref d),some (.ref l),o2]∧H'=H1∧i≤js.length) ?_ ?_ ?_ ?_
   ·exact⟨none,rfl,rfl,Nat.zero_le _⟩
   ·rintro i σ H' ⟨o2,_,rfl,_⟩
    exact hz1
   ·rintro i kv b σ H' hkv hbb ⟨o2,rfl,rfl,hi⟩
    refine⟨_,rfl,_,_,_,_,_,rfl,rfl,.tup hbb,(T.k 3 rfl),_,rfl,iteN rfl ?_⟩
    by_cases c:i<js.length
    ·rw[List.getElem?_append_left (by rw[hlk];exact c)] at hkv
     unfold kvG at hkv
     rw[List.getElem?_map] at hkv
     obtain⟨j,hj,ee⟩:=Option.map_eq_some_iff.mp hkv
     subst ee
     refine⟨_,rfl,b,_,_,rfl,.inr (SqT.of hbb),WhL.itl [j.1.1,j.1.2],_,rfl,iteN rfl ?_⟩
     refine⟨_,rfl,_,rfl,.inl ⟨l,b,ps,j.1.1,j.1.2,rfl,rfl,by rw[e1];exact SqL.of hl1,e3,hbb,un5,_,rfl,?_⟩⟩
     rw[e2]
     by_cases c2:j.1∈qs
     ·exact iteN (by rw[decide_eq_true (show(j.1.1,j.1.2)∈qs from c2)];rfl) ⟨_,rfl,rfl,c⟩
     ·exact iteB (by rw[decide_eq_false (show(j.1.1,j.1.2)∉qs from c2)];rfl) nk1
    ·have c:i=js.length:=by omega
     subst c
     rw[List.getElem?_append_right (by rw[hlk];exact Nat.le_refl _),hlk,Nat.sub_self] at hkv
     cases hkv
     rcases wz kb with⟨ns,rfl⟩ | ⟨bs,hf,hw⟩
     ·have hbb':H' b=some (.tup (ns.map V.int)):=by rw[hbb,List.map_map];rfl
      have n2:ns.length≠2:=fun z=>by
       obtain⟨x,y,rfl⟩:∃ x y,ns=[x,y]:=by
        match ns,z with
        |[x,y],_=>exact⟨x,y,rfl⟩
       exact hb (x,y) rfl
      refine⟨_,rfl,b,_,_,rfl,.inr (SqT.of hbb'),WhL.itl ns,_,rfl,iteN (by rw[show(ns.map fun _=>true).all id=true from List.all_eq_true.mpr fun b hb=>by obtain⟨_,_,rfl⟩:=List.mem_map.mp hb;rfl];rfl) ?_⟩
      exact⟨_,rfl,_,rfl,.inr ⟨l,b,ps,ns,rfl,rfl,by rw[e1];exact SqL.of hl1,e3,hbb',n2,un5,_,rfl,iteB rfl nk1⟩⟩
     ·refine⟨_,rfl,b,_,_,rfl,.inr (SqT.of hbb),hw (T.k 15 rfl),_,rfl,iteB ?_ nk1⟩
      rw[List.all_eq_false.mpr ⟨false,hf,by simp⟩]
      rfl
   ·rintro σ H' ⟨_,_,_,h⟩
    rw[List.length_append,hlk] at h
    exact absurd h (Nat.not_succ_le_self _)
  |pap pp =>
   rename_i d js
   refine .inl ⟨_,rfl,d,kvG js,rfl,pp.dd,fun od S=>?_⟩
   have x1:Ext d H (upd H d (HO.frz od (HO.dT (kvG js)))):=Ext.at
   have hz1:=upd_same (H:=H) (a:=d) (o:=HO.frz od (HO.dT (kvG js)))
   have back:upd (upd H d (HO.frz od (HO.dT (kvG js)))) d (HO.dT (kvG js))=H:=by
    rw[xL]
    funext b
    by_cases z:b=d
    ·rw[z,upd_same,pp.dd]
    ·rw[upd_ne z]
   generalize upd H d (HO.frz od (HO.dT (kvG js)))=H1 at *
   have nld:l≠d:=fun z=>by rw[z,pp.dd] at hl;cases hl
   have hl1:=x1 _ _ hl nld
   have L1:LnAt H1 rs qs:=⟨L.1,fun n r p a1 a2=>by
    obtain⟨qq,b1,b2⟩:=L.2 n r p a1 a2
    exact⟨qq,b1,x1 _ _ b2 fun z=>by rw[z,pp.dd] at b2;cases b2⟩⟩
   obtain⟨ps,e1,e2,e3⟩:=L1.prs
   refine vZ (d:=d) (od:=od) (kvs:=kvG js) (fun i σ H'=>∃ (o2:Option V),σ=[some (.ref d),some (.ref l),o2]∧H'=H1∧∀ j∈js.take i,j.1∈qs) ?_ ?_ ?_ ?_
   ·exact⟨none,rfl,rfl,fun j hj=>by simp at hj⟩
   ·rintro i σ H' ⟨o2,_,rfl,_⟩
    exact hz1
   ·rintro i kv b σ H' hkv hb ⟨o2,rfl,rfl,gd⟩
    unfold kvG at hkv
    rw[List.getElem?_map] at hkv
    obtain⟨j,hj,e⟩:=Option.map_eq_some_iff.mp hkv
    subst e
    have etk:js.take (i+1)=js.take i++[j]:=by rw[List.take_add_one,hj];rfl
    refine⟨_,rfl,_,_,_,_,_,rfl,rfl,.tup hb,(T.k 3 rfl),_,rfl,iteN rfl ?_⟩
    refine⟨_,rfl,b,_,_,rfl,.inr (SqT.of hb),WhL.itl [j.1.1,j.1.2],_,rfl,iteN rfl ?_⟩
    refine⟨_,rfl,_,rfl,.inl ⟨l,b,ps,j.1.1,j.1.2,rfl,rfl,by rw[e1];exact SqL.of hl1,e3,hb,un5,_,rfl,?_⟩⟩
    rw[e2]
    by_cases c:j.1∈qs
    ·refine iteN (by rw[decide_eq_true (show(j.1.1,j.1.2)∈qs from c)];rfl) ⟨_,rfl,rfl,fun j' hj'=>?_⟩
     rw[etk] at hj'
     rcases List.mem_append.mp hj' with z | z
     ·exact gd j' z
     ·rw[List.mem_singleton.mp z];exact c
    ·refine iteB (by rw[decide_eq_false (show(j.1.1,j.1.2)∉qs from c)];rfl) ?_
     refine .inr ⟨d,od,_,S,hz1,?_⟩
     rw[back]
     refine k false ⟨fun z=>(nomatch z),fun hq0=>?_⟩
     obtain⟨js',h1,h2,_⟩:=hq0
     cases h1
     exact absurd (h2 _ (List.mem_map.mpr ⟨j,List.mem_of_getElem? hj,rfl⟩)) c
   ·rintro σ H' ⟨o2,rfl,rfl,gd⟩
    refine .inr ⟨d,od,_,S,hz1,?_⟩
    rw[back]
    have hlk:(kvG js).length=js.length:=by unfold kvG;rw[List.length_map]
    rw[hlk,List.take_length] at gd
    refine⟨_,rfl,d,_,rfl,pp.dd,_,rfl,l,_,rfl,.inl (SqL.of hl),rfl,?_⟩
    refine k _ ?_
    rw[decide_eq_true_eq,hlk,L.1]
    constructor
    ·intro h
     injection h with h
     refine⟨_,rfl,fun j hj=>?_,by unfold jr;rw[List.length_map];omega⟩
     obtain⟨j',hj',rfl⟩:=List.mem_map.mp hj
     exact gd j' hj'
    ·rintro⟨js',h1,_,h⟩
     cases h1
     unfold jr at h
     rw[List.length_map] at h
     rw[h]
open L2.Sco (PT PsAt)
def za7 (K:PySem.W.Frag) (a:Ad) (n:Nat):Sp:=fun vs H Q _=>∃ (p q dx dp ob:Addr) (v:V) (hs us:LI) (ls bs:LP) (pf:Int→Option Int) (o:Option (List JR)),vs=[.ref p,.ref q,v]∧WbP a H p hs ls∧WayAt a H q pf us bs dx dp ob∧(∀ x,x∈us↔x∈hs)∧Cl us pf∧BrL hs bs∧DcG K n H v o∧∀ (b:Bool) (H':Hp),(b=true↔∃ js,o=some js∧HoG us ls pf bs js)→Same H H'→Q (.bl b) H'
theorem zaq {n:Nat}(T:Txt w K mg a):FnOk P w K mg base CX0 9 231 (dK K 231) ["web", "way", "paper"] (za7 K a n):=by
 have c_pairs_of:Callee P w K mg base "pairs_of" 210 (dK K 210) ["web"] 2 (zaZ a):=⟨zai T,(T.g 11 rfl),(T.fn 11 rfl).kp,(T.bi 11 rfl)⟩
 have c_is_grounded:Callee P w K mg base "is_grounded" 177 (dK K 177) ["web", "way"] 8 (za5 a):=⟨zao T,(T.g 6 rfl),(T.fn 6 rfl).kp,(T.bi 6 rfl)⟩
 have c_has_just_pairs:Callee P w K mg base "has_just_pairs" 224 (dK K 224) ["paper", "pairs"] 3 (spHj K n):=⟨zar T,(T.g 13 rfl),(T.fn 13 rfl).kp,(T.bi 13 rfl)⟩
 have c_bridges_by_leaders:Callee P w K mg base "bridges_by_leaders" 198 (dK K 198) ["way"] 7 (zbc a):=⟨zaw T,(T.g 9 rfl),(T.fn 9 rfl).kp,(T.bi 9 rfl)⟩
 have c_are_wholes:Callee P w K mg base "are_wholes" 217 (dK K 217) ["values"] 2 (U5 K):=⟨Uo T,(T.g 12 rfl),(T.fn 12 rfl).kp,(T.bi 12 rfl)⟩
 have c_roads_for:Callee P w K mg base "roads_for" 203 (dK K 203) ["way", "bridges", "hand", "neighbour"] 4 (zaX a):=⟨zag T,(T.g 10 rfl),(T.fn 10 rfl).kp,(T.bi 10 rfl)⟩
 refine(T.fn 14 rfl).ok (scp 14 rfl) (fun vs H Q E h=>?_) (fun cdv A outer s H vs Q E hr h=>?_)
 ·obtain⟨p,q,dx,dp,ob,v,hs,us,ls,bs,pf,o,rfl,_⟩:=h
  rfl
 ·obtain⟨p,q,dx,dp,ob,v,hs,us,ls,bs,pf,o,rfl,WP,Y,hm,C,BL,dc,k⟩:=h
  have hu:=xo hr
  have no:∀ {H'},Same H H'→(∀ js,o=some js→¬HoG us ls pf bs js)→Q (.bl false) H':=fun s h=>k false _ ⟨fun z=>(nomatch z),fun⟨js,h1,h2⟩=>absurd h2 (h js h1)⟩ s
  refine yd (zb (zm (i:=3) (scp 14 rfl).nd rfl (Or.inl rfl) (zr c_pairs_of hr.m (zd (zh 0) za)))
   (zb (zB (wJ (yt (zO (zG (zr c_is_grounded hr.m (zd (zh 0) (zd (zh 1) za))))) (yt (zO (zG (zj zM (by rfl) (T.n 3 rfl) zq (zd (zh 2) (zd (zZ (T.n 5 rfl) xT) za))))) (yq (zO (zG (zr c_has_just_pairs hr.m (zd (zh 2) (zd (zh 3) za)))))))))
    (zg (zi zI))
    zp)
   (zb (zm (i:=4) (scp 14 rfl).nd rfl (Or.inl rfl) (zr c_bridges_by_leaders hr.m (zd (zh 1) za)))
   (zb (zR PassesOwn.never rfl (zE (zh 3)) (yk rfl (zy (zn (i:=5) (scp 14 rfl).nd rfl (Or.inl rfl)) (zy (zn (i:=6) (scp 14 rfl).nd rfl (Or.inl rfl)) zY)))
    (zb (zm (i:=7) (scp 14 rfl).nd rfl (Or.inl rfl) (yL hu (zh 2) (zJ (zd (zh 5) (zd (zh 6) za))) (fun _ _=>rfl)))
    (zb (zB (wJ (yt (zO (zG (zj zM (by rfl) (T.n 3 rfl) zq (zd (zh 7) (zd (zZ (T.n 4 rfl) bt_list) za))))) (yq (zO (zG (zr c_are_wholes hr.m (zd (zh 7) za)))))))
     (zg (zi zI))
     zp)
    (zg (zB (zo vR (zh 7) (zr c_roads_for hr.m (zd (zh 1) (zd (zh 4) (zd (zh 5) (zd (zh 6) za))))) (by with_unfolding_all rfl))
     (zg (zi zI))
     zp)))))
   (zg (zi zI)))))) ?_
  refine⟨_,rfl,p,hs,ls,rfl,WP,fun l rs H1 hl h1 L1 s1=>?_⟩
  refine⟨_,rfl,_,rfl,p,q,dx,dp,ob,hs,us,ls,bs,pf,rfl,WP.same s1,Y.same s1,hm,C,BL,fun b1 H2 hb1 s2=>⟨_,rfl,?_⟩⟩
  have s02:=s1.trans s2
  cases hc1:b1 with
  |false=>exact xn (no s02 fun js _ h=>by have:=hb1.mpr h.g;rw[hc1] at this;cases this)
  |true =>
  have g:=hb1.mp hc1
  have U:=UpP.of C g.en
  have inl:∀ b∈bs,b∈ls:=fun b hb=>zbS WP.wl (g.gd.1 b hb).1 (g.gd.1 b hb).2.1
  have l66:bs.length≤63:=Nat.le_trans (vV g.gd.2 inl) WP.l63
  have Bb:Bd bs:=fun b hb=>(WP.wl.bd WP.wh) b (inl b hb)
  have bin:∀ b∈bs,b.1∈us∧b.2∈us:=fun b hb=>⟨(hm _).mpr (WP.wl.ok b (inl b hb)).1,(hm _).mpr (WP.wl.ok b (inl b hb)).2.1⟩
  have din:∀ b∈dbl (srt bs),b.1∈us∧b.2∈us:=fun b hb=>by
   rcases mem_dbl.mp (mem_ds.mp hb) with z | z
   ·exact bin b z
   ·exact⟨(bin _ z).2,(bin _ z).1⟩
  have dln:(dbl (srt bs)).length≤132:=by rw[xR,(ym bs).length_eq];omega
  have pin:∀ b∈dbl (srt ls),b.1∈us∧b.2∈us:=fun b hb=>by
   rcases mem_dbl.mp (mem_ds.mp hb) with z | z
   ·exact⟨(hm _).mpr (WP.wl.ok _ z).1,(hm _).mpr (WP.wl.ok _ z).2.1⟩
   ·exact⟨(hm _).mpr (WP.wl.ok _ z).2.1,(hm _).mpr (WP.wl.ok _ z).1⟩
  have dnd:=WP.wl.dnd
  refine iteN rfl ?_
  have dc2:=dc.same s02
  refine⟨_,rfl,_,_,_,_,_,rfl,rfl,dc2.ty,(T.k 7 rfl),_,rfl,iteN rfl ?_⟩
  refine⟨_,rfl,_,rfl,v,l,o,rs,_,rfl,dc2,s2 _ _ h1,L1.same s2,fun b3 hb3=>⟨_,rfl,?_⟩⟩
  cases hc3:b3 with
  |false=>exact xn (no s02 fun js e h=>by have:=hb3.mpr ⟨js,e,h.kk,h.ln⟩;rw[hc3] at this;cases this)
  |true =>
  obtain⟨js0,eo,kk,ln⟩:=hb3.mp hc3
  refine iteN rfl ?_
  refine⟨_,rfl,q,dx,dp,ob,pf,paO pf,us,bs,rfl,Y.same s02,U,Bb,l66,bin,fun bd bj H4 hbd br4 lbj s4=>?_⟩
  have s04:=s02.trans s4
  have h4:=s4 _ _ (s2 _ _ h1)
  have L4:=(L1.same s2).same s4
  have Y4:=Y.same s04
  have dc4:=dc.same s04
  refine⟨_,rfl,l,rfl,⟨_,SqL.of h4⟩,?_⟩
  have lr:=L4.1
  generalize hqs:dbl (srt ls)=qs at *
  refine for_list (xs:=rs) (fun i σ H'=>∃ (o5 o6 o7:Option V),σ=[some (.ref p),some (.ref q),some v,some (.ref l),some (.ref bd),o5,o6,o7]∧Same H4 H'∧∀ j∈js0,j.1∈qs.take i→∃ l,j.2=some l∧l∈rfs (paO pf) (dbl (srt bs)) j.1.1 j.1.2) ?_ ?_ ?_ ?_
  ·exact⟨none,none,none,rfl,Same.refl _,fun j _ hj=>by simp at hj⟩
  ·rintro i σ H' hi ⟨o5,o6,o7,_,sm,_⟩
   exact SqL.of (sm _ _ h4)
  ·rintro i u σ H5 hi ⟨o5,o6,o7,rfl,sm,gd⟩
   obtain⟨⟨x,y⟩,t,hp,rfl,ht⟩:=(L4.same sm).get hi
   have hxy:=List.mem_of_getElem? hp
   obtain⟨hx,hy⟩:=pin _ hxy
   dsimp only at ht hx hy
   have etk:qs.take (i+1)=qs.take i++[(x,y)]:=by rw[List.take_add_one,hp];rfl
   refine⟨t,_,rfl,SqT.of ht,rfl,_,_,rfl,_,_,rfl,rfl,?_⟩
   have dc5:=dc4.same sm
   cases dc5 with
   |bad e hb nd=>cases eo
   |odd hm e o hp hn ty kk=>cases eo
   |pap pp =>
   rename_i d js
   cases eo
   have hkj:=Z3 (as:=js.map (·.1)) pp.nd dnd (fun u hu=>by obtain⟨j,hj,rfl⟩:=List.mem_map.mp hu;exact kk _ (List.mem_map.mpr ⟨j,hj,rfl⟩)) (by rw[List.length_map];unfold jr at ln;rw[List.length_map] at ln;exact ln) _ hxy
   obtain⟨j,hj,ej⟩:=List.mem_map.mp hkj
   have hjr:(j.1,j.2.2)∈jr js:=List.mem_map.mpr ⟨j,hj,rfl⟩
   refine⟨_,rfl,_,rfl,_,rfl,(by show 2≤sizeLine;decide),fun kt hkt=>?_⟩
   have s6:=Same.new (o:=HO.tup [V.int x,V.int y]) hkt
   have hk6:=upd_same (H:=H5) (a:=kt) (o:=HO.tup [V.int x,V.int y])
   generalize upd H5 kt (HO.tup [V.int x,V.int y])=H6 at *
   have s46:=sm.trans s6
   have pp6:=pp.same s6
   have hval:some j.2.1=yM (kvG js) (yb (x,y)):=by rw[← ej];exact(uE pp.nd hj).symm
   refine⟨d,j.2.1,rfl,by rw[hval];exact DGet.t (k:=yb (x,y)) pp6.dd hk6,?_⟩
   have bad:j.2.2=none→∀ {H'},Same H H'→Q (.bl false) H':=fun e {H'} s'=>no s' fun js' e' h=>by
    cases e'
    obtain⟨l,h1,_⟩:=h.rd _ hjr
    rw[e] at h1
    cases h1
   have hrow:=pp6.row j hj
   revert bad
   generalize hv:j.2.1=vv at hrow ⊢
   generalize ho2:j.2.2=oo at hrow ⊢
   intro bad
   cases hrow with
   |no ty kk=>exact⟨_,rfl,_,_,_,_,_,rfl,rfl,ty,kk,_,rfl,iteB rfl (bad rfl (s04.trans s46))⟩
   |odd e hw hf _ =>
    refine⟨_,rfl,_,_,_,_,_,rfl,rfl,.lst e,(T.k 2 rfl),_,rfl,iteN rfl ?_⟩
    refine⟨_,rfl,_,_,_,rfl,.inl (SqL.of e),hw,_,rfl,iteB ?_ (bad rfl (s04.trans s46))⟩
    rw[List.all_eq_false.mpr ⟨false,hf,by simp⟩]
    rfl
   | @itl ad lt e _ =>
    refine⟨_,rfl,_,_,_,_,_,rfl,rfl,.lst e,(T.k 2 rfl),_,rfl,iteN rfl ?_⟩
    refine⟨_,rfl,ad,_,_,rfl,.inl (SqL.of e),WhL.itl lt,_,rfl,iteN (by rw[show(lt.map fun _=>true).all id=true from List.all_eq_true.mpr fun b hb=>by obtain⟨_,_,rfl⟩:=List.mem_map.mp hb;rfl];rfl) ?_⟩
    refine⟨_,rfl,_,rfl,_,rfl,_,rfl,_,rfl,q,dx,dp,ob,bd,pf,paO pf,us,dbl (srt bs),bj,x,y,rfl,(Y4.same s46).r,U,br4.same s46,din,dln,hx,hy,fun lr H7 hlr ll7 s7=>?_⟩
    obtain⟨ps,e1,e2,e3⟩:=ll7
    have s47:=s46.trans s7
    refine⟨lr,ad,ps,lt,rfl,rfl,SqL.of e1,e2,s7 _ _ e,zaN hr,_,rfl,?_⟩
    rw[e3]
    by_cases c:lt∈rfs (paO pf) (dbl (srt bs)) x y
    ·refine iteN (by rw[decide_eq_true c];rfl) ⟨_,_,_,rfl,s47,fun j' hj' hm'=>?_⟩
     rw[etk] at hm'
     rcases List.mem_append.mp hm' with z | z
     ·exact gd j' hj' z
     ·have z:=List.mem_singleton.mp z
      obtain⟨j2,hj2,rfl⟩:=List.mem_map.mp hj'
      have:=wT pp.nd hj2 hj (z.trans ej.symm)
      rw[this,ej]
      exact⟨lt,ho2,c⟩
    ·refine iteB (by rw[decide_eq_false c];rfl) ?_
     refine no (s04.trans s47) fun js' e' h=>?_
     cases e'
     obtain⟨l',h1,h2⟩:=h.rd _ hjr
     rw[ho2] at h1
     cases h1
     rw[ej] at h2
     exact c h2
  ·rintro σ H' ⟨o5,o6,o7,rfl,sm,gd⟩
   refine k true _ ⟨fun _=>⟨js0,eo,g,by rw[hqs];exact kk,by rw[hqs];exact ln,fun j hj=>gd j hj ?_⟩,fun _=>rfl⟩ (s04.trans sm)
   rw[List.take_of_length_le (by omega)]
   exact kk j hj
theorem Xi {f:Int→V}{us:LI}{x:Int}{v:V}(hx:x∈us):putK (tabV f us) (.inl x) v=tabV (fun y=>if y=x then v else f y) us:=by
 unfold putK
 have h:((tabV f us).any fun kv=>decide (kv.1=(Sum.inl x:Key)))=true:=by
  rw[List.any_eq_true]
  exact⟨(Sum.inl x,f x),List.mem_map.mpr ⟨x,hx,rfl⟩,by simp⟩
 rw[if_pos h]
 unfold tabV
 rw[List.map_map]
 refine List.map_congr_left fun y _=>?_
 show(if (Sum.inl y:Key)=Sum.inl x then((Sum.inl y:Key),v) else(Sum.inl y,f y))=(Sum.inl y,if y=x then v else f y)
 by_cases c:y=x
 ·rw[if_pos c,if_pos (by rw[c])]
 ·rw[if_neg c,if_neg (fun z=>c (by injection z))]
def UpS (us:LI) (pf:Int→Option Int) (pa:Int→LI):Prop:=∃ sf:Int→Nat,(∀ x∈us,sf x<us.length)∧∀ x∈us,(pf x=none∧pa x=[x])∨∃ y,pf x=some y∧y∈us∧pa x=x::pa y∧sf y<sf x
theorem UpS.up {us:LI}{pf:Int→Option Int}{pa:Int→LI}(h:UpS us pf pa):UpP us pf pa:=let ⟨sf,_,u⟩:=h;⟨sf,u⟩
def paF (pa:Int→LI) (x:Int):Option Int→List Int
 |none=>[x]
 |some y=>x::pa y
theorem UpS.add {us:LI}{pf:Int→Option Int}{pa:Int→LI}{x:Int}{o:Option Int}(h:UpS us pf pa) (hx:x∉us) (ho:∀ y,o=some y→y∈us):UpS (us++[x]) (fun z=>if z=x then o else pf z) (fun z=>if z=x then paF pa x o else pa z):=by
 obtain⟨sf,h1,h2⟩:=h
 have ne:∀ {z},z∈us→z≠x:=fun hz e=>hx (by rw[← e];exact hz)
 refine⟨fun z=>if z=x then us.length else sf z,fun z hz=>?_,fun z hz=>?_⟩
 ·rw[List.length_append,List.length_singleton]
  dsimp only
  by_cases c:z=x
  ·rw[if_pos c];omega
  ·rw[if_neg c]
   have:=h1 z ((List.mem_append.mp hz).resolve_right fun e=>c (List.mem_singleton.mp e))
   omega
 ·dsimp only
  by_cases c:z=x
  ·subst c
   rw[if_pos rfl,if_pos rfl,if_pos rfl]
   cases o with
   |none=>exact .inl ⟨rfl,rfl⟩
   |some y =>
    have hy:=ho y rfl
    refine .inr ⟨y,rfl,List.mem_append.mpr (.inl hy),?_,?_⟩
    ·rw[if_neg (ne hy)];rfl
    ·rw[if_neg (ne hy)];exact h1 y hy
  ·have hz':=(List.mem_append.mp hz).resolve_right fun e=>c (List.mem_singleton.mp e)
   rw[if_neg c,if_neg c,if_neg c]
   rcases h2 z hz' with q | ⟨y,q1,q2,q3,q4⟩
   ·exact .inl q
   ·exact .inr ⟨y,q1,List.mem_append.mpr (.inl q2),by rw[if_neg (ne q2)];exact q3,by rw[if_neg (ne q2)];exact q4⟩
structure Bw (lf:Int→Int) (ls bs:LP) (kvs:List (List Key×V)):Prop where
 sub:bs.Sublist ls
 df:∀ b∈bs,lf b.1≠lf b.2
 cov:∀ p∈ls,lf p.1≠lf p.2→∃ b∈bs,jk lf b=jk lf p
 key:∀ k:Int×Int,yb k∈kvs.map (·.1)↔∃ b∈bs,jk lf b=k
 len:kvs.length≤ls.length
theorem Bw.skip {lf:Int→Int}{ls bs:LP}{kvs:List (List Key×V)}{p:Int×Int}(h:Bw lf ls bs kvs) (c:lf p.1≠lf p.2→∃ b∈bs,jk lf b=jk lf p):Bw lf (ls++[p]) bs kvs :=
 ⟨h.sub.trans (List.sublist_append_left _ _),h.df,fun q hq hne=>(List.mem_append.mp hq).elim (fun z=>h.cov q z hne) fun z=>by rw[List.mem_singleton.mp z] at hne ⊢;exact c hne,h.key,by rw[List.length_append];have:=h.len;omega⟩
theorem Bw.add {lf:Int→Int}{ls bs:LP}{kvs:List (List Key×V)}{p:Int×Int}{v:V}(h:Bw lf ls bs kvs) (c:lf p.1≠lf p.2):Bw lf (ls++[p]) (bs++[p]) (putK kvs (yb (jk lf p)) v):=by
 refine⟨h.sub.append (List.Sublist.refl _),fun b hb=>?_,fun q hq hne=>?_,fun k=>?_,?_⟩
 ·rcases List.mem_append.mp hb with z | z
  ·exact h.df b z
  ·rw[List.mem_singleton.mp z];exact c
 ·rcases List.mem_append.mp hq with z | z
  ·obtain⟨b,h1,h2⟩:=h.cov q z hne
   exact⟨b,List.mem_append.mpr (.inl h1),h2⟩
  ·exact⟨q,List.mem_append.mpr (.inr z),rfl⟩
 ·have hpk:yb k∈(putK kvs (yb (jk lf p)) v).map (·.1)↔yb k∈kvs.map (·.1)∨k=jk lf p:=by
   by_cases hin:yb (jk lf p)∈kvs.map (·.1)
   ·rw[Ye hin]
    constructor
    ·exact .inl
    ·rintro(z | z)
     ·exact z
     ·rw[z];exact hin
   ·rw[putK_new hin,List.map_append,List.mem_append]
    constructor
    ·rintro(z | z)
     ·exact .inl z
     ·exact .inr (yn (List.mem_singleton.mp z))
    ·rintro(z | z)
     ·exact .inl z
     ·exact .inr (by rw[z];simp)
  rw[hpk,h.key k]
  constructor
  ·rintro(⟨b,h1,h2⟩ | z)
   ·exact⟨b,List.mem_append.mpr (.inl h1),h2⟩
   ·exact⟨p,by simp,z.symm⟩
  ·rintro⟨b,h1,h2⟩
   rcases List.mem_append.mp h1 with z | z
   ·exact .inl ⟨b,z,h2⟩
   ·rw[List.mem_singleton.mp z] at h2
    exact .inr h2.symm
 ·have:=yP kvs (yb (jk lf p)) v
  have:=h.len
  rw[List.length_append,List.length_singleton]
  omega
def za8:Sp:=fun vs H Q _=>∃ (l h q:Addr) (rs:List V) (hs:LI) (ls:LP),vs=[.ref l,.ref h,.ref q]∧XsAt H l∧H h=some (.lst (hs.map V.int))∧h≠l∧H q=some (.lst rs)∧q≠l∧LnAt H rs ls∧Hs hs∧Ls hs ls ∧
 ∀ (t d lb:Addr) (us:LI) (pf:Int→Option Int) (pa:Int→LI) (bs:LP) (rb:List V) (H':Hp),H' t=some (.tup [.ref d,.ref lb])→H' d=some (.dK (tabV (fun x=>opV (pf x)) us))→H' lb=some (.lst rb)→LnAt H' rb bs→us.Nodup→Gd hs ls pf pa us bs→XsAt H' l→Ext l H H'→lb≠l→Q (.ref t) H'
theorem zas (T:Txt w K mg a):FnOk P w K mg base CX0 3 393 (dK K 393) ["_law_xs", "_law_hands_here", "_law_lines_here"] za8:=by
 have c__law_take:Callee P w K mg base "_law_take" 350 (dK K 350) ["_law_xs", "_law_size"] 1 xf:=⟨wt T,(T.g 21 rfl),(T.fn 21 rfl).kp,(T.bi 21 rfl)⟩
 have c__law_near:Callee P w K mg base "_law_near" 374 (dK K 374) ["_law_lines_here", "_law_hand"] 1 U1:=⟨Ul T,(T.g 25 rfl),(T.fn 25 rfl).kp,(T.bi 25 rfl)⟩
 have c__law_both:Callee P w K mg base "_law_both" 388 (dK K 388) ["_law_parents", "_law_one", "_law_other"] 2 zbb:=⟨zav T,(T.g 27 rfl),(T.fn 27 rfl).kp,(T.bi 27 rfl)⟩
 refine(T.fn 28 rfl).ok (scp 28 rfl) (fun vs H Q E h=>?_) (fun cdv A outer s H vs Q E hr h=>?_)
 ·obtain⟨l,h,q,rs,hs,ls,rfl,_⟩:=h
  rfl
 ·obtain⟨l,h,q,rs,hs,ls,rfl,hX,hh,nhl,hq,nql,L,wh,wl,k⟩:=h
  have hu:=xo hr
  have l12:=wh.l12
  have un:∀ n:Nat,n≤3→(A.deeper (PyProof.Rows.envOfC "_law_drawn_way" (defScope (top 41)) s.heap.objs.size 393 cdv)).units+n+2<cLine:=fun n hn=>by
   have:=hr.units
   omega
  have lnX:∀ {H':Hp},Ext l H H'→LnAt H' rs ls:=fun {H'} y=>⟨L.1,fun n r p a1 a2=>by
   obtain⟨qq,b1,b2⟩:=L.2 n r p a1 a2
   exact⟨qq,b1,y _ _ b2 fun z=>by
    obtain⟨ms,e',_⟩:=hX
    rw[z,e'] at b2
    cases b2⟩⟩
  refine yd (zb (zm (i:=3) (scp 28 rfl).nd rfl (Or.inr rfl) xK)
   (zb (zm (i:=4) (scp 28 rfl).nd rfl (Or.inl rfl) (zL yp (by rfl) (T.n 4 rfl) bt_list (zd (zh 1) za)))
   (zb (xt PassesOwn.never (zo (wq Yp Yq) (zh 4) (zA za) (zC _))
    (zb (zm (i:=5) (scp 28 rfl).nd rfl (Or.inl rfl) (yu PySem.F.plainAttrs_list PySem.F.slot_list_pop PySem.F.type_list_pop Zg (zh 4) (zT (zr c__law_take hr.m (zd (zh 0) (zT (zj zw (by rfl) (T.n 0 rfl) yh (zd (zh 4) za)) za))) za)))
    (zb (xU (i:=6) rfl (scp 28 rfl).nd rfl (Or.inl rfl) (N':=["_law_other", "_law_parents"]) (t:=1) (caps:=[3]) ⟨rfl,rfl,rfl⟩ (zE (zr c__law_near hr.m (zd (zh 2) (zd (zh 5) za)))) (fun _=>(zn (i:=0) (show(["_law_other", "_law_parents"]:List Str).Nodup by decide +kernel) rfl (Or.inl rfl))) (fun _=>(xi (xY (wX hu (zh 0) (zh 1))))) (fun _=>(zh 0)))
    (zb (yw hu (zh 3) (zh 5) yC rfl)
    (zg (zB (wJ (yU (zo (wq Yp Yq) (zh 6) (zA za) (zC _)) (yK (zo uy (zr c__law_take hr.m (zd (zh 0) (zK ze za))) ze (zC _)))))
     (zg (yw hu (zh 3) (zh 5) (zv zF (zh 6) (zr c__law_take hr.m (zd (zh 0) (zT (zj zw (by rfl) (T.n 0 rfl) yh (zd (zh 6) za)) za))) (fun _ _=>rfl)) rfl))
     zp))))))
   (zb (zm (i:=7) (scp 28 rfl).nd rfl (Or.inl rfl) (zA za))
   (zb (zm (i:=8) (scp 28 rfl).nd rfl (Or.inl rfl) xJ)
   (zb (zR PassesOwn.never rfl (zE (zh 2)) (zn (i:=9) (scp 28 rfl).nd rfl (Or.inl rfl))
    (zb (zm (i:=10) (scp 28 rfl).nd rfl (Or.inl rfl) (zr c__law_both hr.m (zd (zh 3) (zk (zv yc (zh 9) ze (fun _ _=>rfl)) (zk (zv yc (zh 9) ze (fun _ _=>rfl)) za)))))
    (zg (zB (wJ (yU (zo uv (zv yc (zh 10) ze (fun _ _=>rfl)) (zv yc (zh 10) ze (fun _ _=>rfl)) (zC _)) (yK (wJ (yt (xY (wg hu (zh 10) (zh 8))) (yq (zo yG (zr c__law_take hr.m (zd (zh 0) (zK ze za))) ze (zC _))))))))
     (zb (yw hu (zh 8) (zh 10) zI rfl)
     (zg (zQ (yu PySem.F.plainAttrs_list PySem.F.slot_list_append PySem.F.type_list_append zU (zh 7) (zd (zh 9) za)))))
     zp))))
   (zb (zm (i:=11) (scp 28 rfl).nd rfl (Or.inl rfl) (zr c__law_take hr.m (zd (zh 0) (yS (zu xk (zj zw (by rfl) (T.n 0 rfl) yh (zd (zh 7) za)) ze) za))))
   (zg (zi (zJ (zd (zh 3) (yS (zu yO (zP yz (zh 7) (w_po_some (zh 11)) yf) (zP yz (zh 7) yf (w_po_some (zh 11)))) za)))))))))))) ?_
  refine fun d hd=>?_
  have ndl:d≠l:=hX.ne hd
  have y0:Ext l H (upd H d (HO.dK [])):=Ext.new hd
  have x0:=hX.new (o:=HO.dK []) hd
  have hd0:=upd_same (H:=H) (a:=d) (o:=HO.dK [])
  generalize upd H d (HO.dK [])=H0 at *
  refine⟨_,rfl,h,_,rfl,.inl (SqL.of (y0 _ _ hh nhl)),fun lf hlf=>?_⟩
  have nfl:lf≠l:=x0.ne hlf
  have nfd:d≠lf:=fun z=>by rw[← z,hd0] at hlf;cases hlf
  have fd:H d=none:=hd
  have ff:H lf=none:=y0.free nfl hlf
  refine⟨fun m σ H'=>∃ (us left:LI) (pf:Int→Option Int) (pa:Int→LI) (o5 o6 o7 o8 o9 o10 o11:Option V),m=left.length∧σ=[some (.ref l),some (.ref h),some (.ref q),some (.ref d),some (.ref lf),o5,o6,o7,o8,o9,o10,o11]∧H' d=some (.dK (tabV (fun x=>opV (pf x)) us))∧H' lf=some (.lst (left.map V.int))∧us.Nodup∧left.Nodup∧(∀ x,x∈hs↔x∈us∨x∈left)∧(∀ x∈left,x∉us)∧UpS us pf pa∧(∀ x∈us,∀ y,pf x=some y→adB ls x y=true)∧XsAt H' l∧Ext l H H',⟨_,[],hs,fun _=>none,fun x=>[x],none,none,none,none,none,none,none,rfl,rfl,?_,upd_same,List.nodup_nil,Vq wh,(fun x=>by simp),(fun x _=>by simp),⟨fun _=>0,(fun x hx=>(nomatch hx)),(fun x hx=>(nomatch hx))⟩,(fun x hx=>(nomatch hx)),x0.new hlf,y0.trans (Ext.new hlf)⟩,?_⟩
  ·rw[upd_ne nfd];exact hd0
  rintro m σ H3 ⟨us,left,pf,pa,o5,o6,o7,o8,o9,o10,o11,rfl,rfl,hd3,hl3,ndu,ndL,hm,hdj,U,had,x3,y3⟩
  have hsu:∀ x∈us,x∈hs:=fun x hx=>(hm x).mpr (.inl hx)
  have us12:us.length≤12:=Nat.le_trans (wI ndu hsu) l12
  have lf12:left.length≤12:=Nat.le_trans (wI ndL fun x hx=>(hm x).mpr (.inr hx)) l12
  refine⟨_,rfl,(by show 0≤sizeLine;decide),fun e he=>?_⟩
  have se:=Same.new (o:=HO.lst []) he
  have xe:=x3.new (o:=HO.lst []) he
  have ye:=y3.trans (Ext.new (l:=l) (o:=HO.lst []) he)
  cases hcl:left with
  |nil =>
   rw[hcl] at hl3
   refine .inl ⟨lf,e,_,_,fun _=>true,0,rfl,rfl,.inl ⟨SqL.of (se _ _ hl3),SqL.of upd_same⟩,rfl,un 0 (by omega),(fun j x y hx=>by cases hx),_,rfl,iteN rfl ?_⟩
   have hmem:∀ x,x∈us↔x∈hs:=fun x=>by
    rw[hm x,hcl]
    simp
   have UP:=U.up
   have hd4:=se _ _ hd3
   generalize upd H3 e (HO.lst [])=H4 at *
   refine⟨(by show 0≤sizeLine;decide),fun bl hbl=>?_⟩
   have nbl:bl≠l:=xe.ne hbl
   have fbl:H bl=none:=ye.free nbl hbl
   have s5:=Same.new (o:=HO.lst []) hbl
   have hb5:=upd_same (H:=H4) (a:=bl) (o:=HO.lst [])
   have x5:=xe.new (o:=HO.lst []) hbl
   have y5:=ye.trans (Ext.new (l:=l) (o:=HO.lst []) hbl)
   have hd5:=s5 _ _ hd4
   generalize upd H4 bl (HO.lst [])=H5 at *
   refine fun dj hdj'=>?_
   have ndj:dj≠l:=x5.ne hdj'
   have fdj:H dj=none:=y5.free ndj hdj'
   have s6:=Same.new (o:=HO.dT []) hdj'
   have hj6:=upd_same (H:=H5) (a:=dj) (o:=HO.dT [])
   have x6:=x5.new (o:=HO.dT []) hdj'
   have y6:=y5.trans (Ext.new (l:=l) (o:=HO.dT []) hdj')
   have hd6:=s6 _ _ hd5
   have hb6:=s6 _ _ hb5
   generalize upd H5 dj (HO.dT [])=H6 at *
   have njb:dj≠bl:=fun z=>by rw[z,hb6] at hj6;cases hj6
   have njd:dj≠d:=fun z=>by rw[z,hd6] at hj6;cases hj6
   have nbd:bl≠d:=fun z=>by rw[z,hd6] at hb6;cases hb6
   have hq6:=y6 _ _ hq nql
   refine⟨_,rfl,q,rfl,⟨_,SqL.of hq6⟩,?_⟩
   have lr:=L.1
   generalize hlf:ldr pa=lf' at *
   refine for_list (xs:=rs) (fun i σ H'=>∃ (bs:LP) (rb:List V) (kvs:List (List Key×V)) (o9 o10 o11:Option V),σ=[some (.ref l),some (.ref h),some (.ref q),some (.ref d),some (.ref lf),o5,o6,some (.ref bl),some (.ref dj),o9,o10,o11]∧H' d=some (.dK (tabV (fun x=>opV (pf x)) us))∧H' bl=some (.lst rb)∧LnAt H' rb bs∧H' dj=some (.dT kvs)∧Bw lf' (ls.take i) bs kvs∧XsAt H' l∧Ext l H H') ?_ ?_ ?_ ?_
   ·exact⟨[],[],[],_,_,_,rfl,hd6,hb6,⟨rfl,fun n r p a1=>by simp at a1⟩,hj6,⟨List.Sublist.refl _,(fun b hb=>(nomatch hb)),(fun p hp=>by simp at hp),(fun k=>by simp),Nat.le_refl _⟩,x6,y6⟩
   ·rintro i σ H' hi ⟨bs,rb,kvs,_,_,_,_,_,_,_,_,_,_,y⟩
    exact SqL.of (y _ _ hq nql)
   ·rintro i v σ H7 hi ⟨bs,rb,kvs,o9,o10,o11,rfl,hd7,hb7,Lb,hj7,BW,x7,y7⟩
    obtain⟨⟨x,y⟩,qa,hp,rfl,hqa⟩:=(L.extX hX y7).get hi
    have hpm:=List.mem_of_getElem? hp
    have hxy:=wl.ok _ hpm
    dsimp only at hxy hqa
    have hx:=(hmem x).mpr hxy.1
    have hy:=(hmem y).mpr hxy.2.1
    have hil:i<rs.length:=(List.getElem?_eq_some_iff.mp hi).1
    have etk:ls.take (i+1)=ls.take i++[(x,y)]:=by rw[List.take_add_one,hp];rfl
    have kl:kvs.length≤66:=by
     have h1:=BW.len
     rw[List.length_take] at h1
     have:=wl.le
     omega
    refine⟨_,rfl,_,rfl,qa,_,0,_,rfl,rfl,SqT.of hqa,rfl,_,rfl,qa,_,1,_,rfl,rfl,SqT.of hqa,rfl,d,pf,pa,us,x,y,rfl,hd7,us12,UP,hx,hy,fun tb H8 htb htb8 s8=>?_⟩
    rw[hlf] at htb8
    have hd8:=s8 _ _ hd7
    have hb8:=s8 _ _ hb7
    have hj8:=s8 _ _ hj7
    have x8:=x7.same s8
    have y8:=y7.trans (Ext.same s8)
    have hqa8:=s8 _ _ hqa
    have Lb8:=Lb.same s8
    refine⟨_,rfl,tb,_,0,_,rfl,rfl,SqT.of htb8,rfl,_,rfl,tb,_,1,_,rfl,rfl,SqT.of htb8,rfl,rfl,_,rfl,?_⟩
    have hj1:(jk lf' (x,y)).1=min (lf' x) (lf' y):=rfl
    have hj2:(jk lf' (x,y)).2=max (lf' x) (lf' y):=rfl
    have go:∀ H9 (o11:Option V),lf' x≠lf' y→H9 d=some (.dK (tabV (fun x=>opV (pf x)) us))→H9 bl=some (.lst rb)→LnAt H9 rb bs→H9 dj=some (.dT kvs)→H9 qa=some (.tup [.int x,.int y])→XsAt H9 l→Ext l H H9 →
      ∃ (bs':LP) (rb':List V) (kvs':List (List Key×V)) (o9' o10' o11':Option V),([some (.ref l),some (.ref h),some (.ref q),some (.ref d),some (.ref lf),o5,o6,some (.ref bl),some (.ref dj),some (.ref qa),some (.ref tb),o11]:St)=[some (.ref l),some (.ref h),some (.ref q),some (.ref d),some (.ref lf),o5,o6,some (.ref bl),some (.ref dj),o9',o10',o11']∧(upd (upd H9 dj (.dT (putK kvs (yb (jk lf' (x,y))) (.bl true)))) bl (.lst (rb++[.ref qa]))) d=some (.dK (tabV (fun x=>opV (pf x)) us))∧(upd (upd H9 dj (.dT (putK kvs (yb (jk lf' (x,y))) (.bl true)))) bl (.lst (rb++[.ref qa]))) bl=some (.lst rb')∧LnAt (upd (upd H9 dj (.dT (putK kvs (yb (jk lf' (x,y))) (.bl true)))) bl (.lst (rb++[.ref qa]))) rb' bs'∧(upd (upd H9 dj (.dT (putK kvs (yb (jk lf' (x,y))) (.bl true)))) bl (.lst (rb++[.ref qa]))) dj=some (.dT kvs')∧Bw lf' (ls.take (i+1)) bs' kvs'∧XsAt (upd (upd H9 dj (.dT (putK kvs (yb (jk lf' (x,y))) (.bl true)))) bl (.lst (rb++[.ref qa]))) l∧Ext l H (upd (upd H9 dj (.dT (putK kvs (yb (jk lf' (x,y))) (.bl true)))) bl (.lst (rb++[.ref qa]))):=fun H9 o11 c a1 a2 a3 a4 a5 a6 a7=>by
     have b1:(upd H9 dj (.dT (putK kvs (yb (jk lf' (x,y))) (.bl true)))) bl=some (.lst rb):=(upd_ne njb.symm).trans a2
     have nqj:qa≠dj:=fun z=>by rw[z,a4] at a5;cases a5
     have L1:LnAt (upd H9 dj (.dT (putK kvs (yb (jk lf' (x,y))) (.bl true)))) rb bs:=a3.updN a4 (fun _ z=>by cases z)
     refine⟨bs++[(x,y)],rb++[.ref qa],_,_,_,_,rfl,(upd_ne nbd.symm).trans ((upd_ne njd.symm).trans a1),upd_same,(L1.snoc ((upd_ne nqj).trans a5)).updN b1 (fun _ z=>by cases z),(upd_ne njb).trans upd_same,by rw[etk];exact BW.add c,(a6.upd ndj).upd nbl,fun b o e nb=>?_⟩
     rw[upd_ne (ne_of_none e fbl),upd_ne (ne_of_none e fdj)]
     exact a7 b o e nb
    by_cases c:lf' x=lf' y
    ·refine iteN (by rw[hj1,hj2,c];simp) (iteN rfl ?_)
     refine⟨bs,rb,kvs,_,_,_,rfl,hd8,hb8,Lb8,hj8,by rw[etk];exact BW.skip fun z=>absurd c z,x8,y8⟩
    ·refine iteB (by rw[hj1,hj2];simp;omega) ?_
     have rl:rb.length≤66:=by
      have h1:=BW.sub.length_le
      rw[List.length_take] at h1
      have:=Lb.1
      have:=wl.le
      omega
     by_cases cin:yb (jk lf' (x,y))∈kvs.map (·.1)
     ·refine⟨_,rfl,_,rfl,dj,_,rfl,DGet.t (k:=yb (jk lf' (x,y))) hj8 htb8,_,rfl,iteN (by rw[valV_yes cin];rfl) ?_⟩
      refine⟨_,rfl,l,2,rfl,x8,by decide,fun t2 H9 t0 t1 x9 y9=>?_⟩
      have hd9:=y9 _ _ hd8 ndl
      have hb9:=y9 _ _ hb8 nbl
      have hj9:=y9 _ _ hj8 ndj
      have Lb9:=Lb8.extX x8 y9
      have nta:∀ {b xs},H8 b=some (.tup xs)→b≠l:=fun {b xs} e z=>by
       obtain⟨ms,e',_⟩:=x8
       rw[z,e'] at e
       cases e
      have hqa9:=y9 _ _ hqa8 (nta hqa8)
      have htb9:=y9 _ _ htb8 (nta htb8)
      refine⟨rfl,_,rfl,?_⟩
      by_cases c2:t2=0
      ·refine iteB (by simp[c2]) ?_
       refine⟨_,rfl,_,rfl,dj,_,rfl,DPut.t (k:=yb (jk lf' (x,y))) hj9 htb9 (zl (by omega)),?_⟩
       refine⟨_,rfl,.inl ⟨rfl,_,SqL.of ((upd_ne njb.symm).trans hb9)⟩,_,rfl,bl,_,_,rfl,rfl,(upd_ne njb.symm).trans hb9,zl (by omega),?_⟩
       exact go H9 _ c hd9 hb9 Lb9 hj9 hqa9 x9 (y8.trans y9)
      ·refine iteN (by simp[c2]) ?_
       refine⟨bs,rb,kvs,_,_,_,rfl,hd9,hb9,Lb9,hj9,by rw[etk];exact BW.skip fun _=>(BW.key _).mp cin,x9,y8.trans y9⟩
     ·refine⟨_,rfl,_,rfl,dj,_,rfl,DGet.t (k:=yb (jk lf' (x,y))) hj8 htb8,_,rfl,iteB (by rw[wZ cin];rfl) (xn ?_)⟩
      refine⟨_,rfl,_,rfl,dj,_,rfl,DPut.t (k:=yb (jk lf' (x,y))) hj8 htb8 (zl (by omega)),?_⟩
      refine⟨_,rfl,.inl ⟨rfl,_,SqL.of ((upd_ne njb.symm).trans hb8)⟩,_,rfl,bl,_,_,rfl,rfl,(upd_ne njb.symm).trans hb8,zl (by omega),?_⟩
      exact go H8 _ c hd8 hb8 Lb8 hj8 hqa8 x8 y8
   ·rintro σ H7 ⟨bs,rb,kvs,o9,o10,o11,rfl,hd7,hb7,Lb,hj7,BW,x7,y7⟩
    rw[lr,List.take_length] at BW
    have rl:=Lb.1
    have bl66:bs.length≤66:=Nat.le_trans BW.sub.length_le wl.le
    refine⟨_,rfl,_,rfl,bl,_,rfl,.inl (SqL.of hb7),_,_,rfl,rfl,l,_,rfl,x7,(by show(0:Int)<(rb.length:Int)+1;omega),fun at0 H8 a0 a1 x8 y8=>?_⟩
    have hb8:=y8 _ _ hb7 nbl
    have hd8:=y8 _ _ hd7 ndl
    have Lb8:=Lb.extX x7 y8
    obtain⟨n,rfl⟩:∃ n:Nat,at0=(n:Int):=⟨at0.toNat,by omega⟩
    have hn:n≤rb.length:=by omega
    refine⟨_,rfl,_,rfl,_,rfl,_,rfl,bl,_,rfl,SqL.of hb8,fun p1 hp1=>?_⟩
    have z4:=Same.new (o:=HO.lst (cutV rb (some (n:Int)) none)) hp1
    refine⟨_,rfl,_,rfl,_,rfl,bl,_,rfl,SqL.of (z4 _ _ hb8),fun p2 hp2=>?_⟩
    have z5:=Same.new (o:=HO.lst (cutV rb none (some (n:Int)))) hp2
    have l1:=yB rb (some (n:Int)) none
    have l2:=yB rb none (some (n:Int))
    refine⟨p1,p2,_,_,rfl,rfl,z5 _ _ upd_same,upd_same,(Nat.le_of_lt (zl (by omega))),fun p3 hp3=>?_⟩
    have z6:=Same.new (o:=HO.lst (cutV rb (some (n:Int)) none++cutV rb none (some (n:Int)))) hp3
    have z456:=(z4.trans z5).trans z6
    have hp33:=upd_same (H:=(upd (upd H8 p1 (HO.lst (cutV rb (some (n:Int)) none))) p2 (HO.lst (cutV rb none (some (n:Int)))))) (a:=p3) (o:=HO.lst (cutV rb (some (n:Int)) none++cutV rb none (some (n:Int))))
    rw[Vx hn,Vw hn] at *
    generalize upd (upd (upd H8 p1 (HO.lst (rb.drop n))) p2 (HO.lst (rb.take n))) p3 (HO.lst (rb.drop n++rb.take n))=H9 at *
    refine⟨(by show 2≤sizeLine;decide),fun pt hpt=>?_⟩
    have z7:=Same.new (o:=HO.tup [V.ref d,V.ref p3]) hpt
    have z8:=z456.trans z7
    have hmr:∀ b,b∈bs.drop n++bs.take n↔b∈bs:=fun b=>by
     rw[List.mem_append,Or.comm,← List.mem_append,List.take_append_drop]
    have ndb:bs.Nodup:=wl.nd.sublist BW.sub
    have hin:∀ b∈bs,b∈ls:=fun b hb=>BW.sub.subset hb
    refine k pt d p3 us pf pa (bs.drop n++bs.take n) (rb.drop n++rb.take n) _ upd_same (z8 _ _ hd8) (z7 _ _ hp33) ((Lb8.cut).same z8) ndu ⟨UP,hmem,had,⟨?_,fun b hb=>wl.ok b (hin b ((hmr b).mp hb))⟩,fun b hb=>hin b ((hmr b).mp hb),fun b hb=>by rw[hlf];exact BW.df b ((hmr b).mp hb),fun p hp hne=>?_⟩ (x8.same z8) ((y7.trans y8).trans (Ext.same z8)) ((x8.same (z4.trans z5)).ne hp3)
    ·have:(bs.drop n++bs.take n).Perm bs:=List.perm_append_comm.trans (List.Perm.of_eq (List.take_append_drop n bs))
     exact this.nodup_iff.mpr ndb
    ·rw[hlf] at hne ⊢
     obtain⟨b,h1,h2⟩:=BW.cov p hp hne
     exact⟨b,(hmr b).mpr h1,h2⟩
  |cons b0 lt =>
   rw[hcl] at hl3
   refine .inr ⟨lf,e,_,_,rfl,rfl,SqL.of (se _ _ hl3),SqL.of upd_same,(by simp),Nat.lt_of_le_of_lt (Nat.le_add_right _ 2) (un 0 (by omega)),_,rfl,xn ?_⟩
   refine⟨_,fun σ' H' h=>h,?_⟩
   rw[← hcl] at hl3
   have hd4:=se _ _ hd3
   have hl4:=se _ _ hl3
   generalize upd H3 e (HO.lst [])=H4 at *
   have hlp:0<left.length:=by rw[hcl];simp
   refine⟨_,rfl,.inl ⟨rfl,_,SqL.of hl4⟩,?_⟩
   refine⟨_,rfl,_,rfl,lf,_,rfl,.inl (SqL.of hl4),l,_,rfl,xe,(by rw[List.length_map];omega),fun kd H5 k0 k1 x5 y5=>?_⟩
   rw[List.length_map] at k1
   have hd5:=y5 _ _ hd4 ndl
   have hl5:=y5 _ _ hl4 nfl
   have ye5:=ye.trans y5
   have hk:seqIndex? kd (left.map V.int).length=some kd.toNat:=by
    have e:(if kd<0 then kd+(left.length:Int) else kd)=kd:=if_neg (by omega)
    unfold seqIndex?
    rw[List.length_map]
    simp only[e]
    rw[if_pos (by simp;omega)]
   have hkl:kd.toNat<left.length:=by omega
   obtain⟨z,hz⟩:∃ z,left[kd.toNat]?=some z:=⟨left[kd.toNat],by simp[hkl]⟩
   refine⟨lf,_,kd,kd.toNat,V.int z,rfl,rfl,hl5,by omega,by omega,hk,by rw[List.getElem?_map,hz];rfl,?_⟩
   have hl6:(upd H5 lf (HO.lst ((left.map V.int).eraseIdx kd.toNat))) lf=some (.lst ((left.eraseIdx kd.toNat).map V.int)):=by rw[upd_same,List.eraseIdx_eq_take_drop_succ,List.eraseIdx_eq_take_drop_succ,List.map_append,List.map_take,List.map_drop]
   have hd6:(upd H5 lf (HO.lst ((left.map V.int).eraseIdx kd.toNat))) d=_:=(upd_ne nfd).trans hd5
   have x6:XsAt (upd H5 lf (HO.lst ((left.map V.int).eraseIdx kd.toNat))) l:=x5.upd nfl
   have y6:Ext l H (upd H5 lf (HO.lst ((left.map V.int).eraseIdx kd.toNat))):=fun b o e nb=>by
    rw[upd_ne (ne_of_none e ff)]
    exact ye5 b o e nb
   generalize upd H5 lf (HO.lst ((left.map V.int).eraseIdx kd.toNat))=H6 at *
   have hzl:=List.mem_of_getElem? hz
   have hzh:=(hm z).mpr (.inr hzl)
   have hzu:=hdj z hzl
   have hperm:left.Perm (z::left.eraseIdx kd.toNat):=by
    have e:left=left.take kd.toNat++z::left.drop (kd.toNat+1):=by
     have h1:=List.getElem?_eq_some_iff.mp hz
     rw[← h1.2]
     exact(List.take_append_drop kd.toNat left).symm.trans (by rw[List.drop_eq_getElem_cons h1.1])
    have e2:left.eraseIdx kd.toNat=left.take kd.toNat++left.drop (kd.toNat+1):=List.eraseIdx_eq_take_drop_succ left kd.toNat
    rw[e2]
    exact(List.Perm.of_eq e).trans List.perm_middle
   have hel:(left.eraseIdx kd.toNat).length+1=left.length:=by rw[hperm.length_eq];rfl
   obtain⟨hzn,ndE⟩:=List.nodup_cons.mp (hperm.nodup_iff.mp ndL)
   have hq6:=y6 _ _ hq nql
   refine⟨_,rfl,_,rfl,q,z,rs,hs,ls,rfl,hq6,lnX y6,wh,wl,fun pn H7 hpn s7 hpn7=>?_⟩
   refine⟨pn,rfl,⟨_,SqL.of hpn7⟩,fun D hD _=>?_⟩
   have hd7:=s7 _ _ hd6
   have nDd:d≠D:=fun z=>by rw[← z,hd7] at hD;cases hD
   refine comp_list (K:=K) (a:=pn) (xs:=(hs.filter (adB ls z)).map V.int) (fun j zs τ H'=>∃ (o:Option V),τ=[o,some (.ref d)]∧zs=(((hs.filter (adB ls z)).take j).filter fun y=>decide (y∈us)).map V.int∧H'=upd H7 D (.lst zs)) ?_ ?_ ?_ ?_
   ·exact⟨none,rfl,rfl,rfl⟩
   ·rintro j zs τ H' ⟨o,_,_,rfl⟩
    exact SqL.of (by rw[upd_ne (ne_of_none hpn7 hD)];exact hpn7)
   ·rintro j v zs τ H' hj ⟨o,rfl,rfl,rfl⟩
    rw[List.getElem?_map] at hj
    obtain⟨y,hy,rfl⟩:=Option.map_eq_some_iff.mp hj
    have etk2:(hs.filter (adB ls z)).take (j+1)=(hs.filter (adB ls z)).take j++[y]:=by rw[List.take_add_one,hy];rfl
    have hd9:(upd H7 D (HO.lst ((((hs.filter (adB ls z)).take j).filter fun y=>decide (y∈us)).map V.int))) d=some (.dK (tabV (fun x=>opV (pf x)) us)):=by rw[upd_ne nDd];exact hd7
    have hlen:((((hs.filter (adB ls z)).take j).filter fun y=>decide (y∈us)).map V.int).length<sizeLine:=by
     rw[List.length_map]
     have h1:=List.length_filter_le (fun y=>decide (y∈us)) ((hs.filter (adB ls z)).take j)
     rw[List.length_take] at h1
     have h2:=List.length_filter_le (adB ls z) hs
     exact zl (by omega)
    by_cases c1:y∈us
    ·refine⟨_,rfl,_,rfl,d,_,rfl,va hd9 c1,_,rfl,xn ?_⟩
     refine⟨_,rfl,upd_same,hlen,_,rfl,?_,?_⟩
     ·rw[etk2,List.filter_append,List.filter_cons_of_pos (by simpa using c1),List.filter_nil,List.map_append]
      rfl
     ·rw[xL]
    ·refine⟨_,rfl,_,rfl,d,none,rfl,WI hd9 c1,_,rfl,iteN rfl ?_⟩
     refine⟨_,rfl,?_,rfl⟩
     rw[etk2,List.filter_append,List.filter_cons_of_neg (by simpa using c1),List.filter_nil,List.append_nil]
   ·rintro zs τ H' ⟨o,rfl,rfl,rfl⟩
    rw[List.length_map,List.take_length]
    generalize hns:(hs.filter (adB ls z)).filter (fun y=>decide (y∈us))=ns
    have hnsm:∀ y∈ns,y∈us∧adB ls z y=true:=fun y hy=>by
     rw[← hns] at hy
     obtain⟨h1,h2⟩:=List.mem_filter.mp hy
     exact⟨of_decide_eq_true h2,(List.mem_filter.mp h1).2⟩
    have s8:=s7.trans (Same.new (o:=HO.lst (ns.map V.int)) hD)
    have hD8:=upd_same (H:=H7) (a:=D) (o:=HO.lst (ns.map V.int))
    have hd8:=s8 _ _ hd6
    have hl8:=s8 _ _ hl6
    have x8:=x6.same s8
    have y8:=y6.trans (Ext.same s8)
    have nDl:D≠l:=fun zz=>by
     obtain⟨ms,e',_⟩:=x6.same s7
     rw[zz,e'] at hD
     cases hD
    have nDd2:D≠d:=nDd.symm
    have nDf:D≠lf:=fun zz=>by rw[zz,s7 _ _ hl6] at hD;cases hD
    generalize upd H7 D (HO.lst (ns.map V.int))=H8 at *
    refine⟨_,rfl,_,rfl,d,_,rfl,DPut.k (k:=.inl z) hd8 (by rw[tabV_len];exact zl (by omega)),?_⟩
    rw[Xk hzu]
    have ndz:(us++[z]).Nodup:=by
     rw[List.nodup_append]
     exact⟨ndu,by simp,fun u hu v hv e=>hzu (by rw[List.mem_singleton.mp hv] at e;rw[← e];exact hu)⟩
    have fin:∀ (o:Option Int) (σ5 σ6:Option V) (H':Hp),(∀ y,o=some y→y∈us∧adB ls z y=true)→H' d=some (.dK (tabV (fun x=>opV (if x=z then o else pf x)) (us++[z])))→H' lf=some (.lst ((left.eraseIdx kd.toNat).map V.int))→XsAt H' l→Ext l H H' →
      ∃ m',m'<(b0::lt).length∧∃ (us' left':LI) (pf':Int→Option Int) (pa':Int→LI) (o5 o6 o7' o8' o9' o10' o11':Option V),m'=left'.length∧([some (.ref l),some (.ref h),some (.ref q),some (.ref d),some (.ref lf),σ5,σ6,o7,o8,o9,o10,o11]:St)=[some (.ref l),some (.ref h),some (.ref q),some (.ref d),some (.ref lf),o5,o6,o7',o8',o9',o10',o11']∧H' d=some (.dK (tabV (fun x=>opV (pf' x)) us'))∧H' lf=some (.lst (left'.map V.int))∧us'.Nodup∧left'.Nodup∧(∀ x,x∈hs↔x∈us'∨x∈left')∧(∀ x∈left',x∉us')∧UpS us' pf' pa'∧(∀ x∈us',∀ y,pf' x=some y→adB ls x y=true)∧XsAt H' l∧Ext l H H':=fun o σ5 σ6 H' ho a1 a2 a3 a4=>by
     refine⟨(left.eraseIdx kd.toNat).length,by rw[← hcl];omega,us++[z],left.eraseIdx kd.toNat,fun x=>if x=z then o else pf x,fun x=>if x=z then paF pa z o else pa x,σ5,σ6,o7,o8,o9,o10,o11,rfl,rfl,a1,a2,ndz,ndE,fun x=>?_,fun x hx hx2=>?_,U.add hzu fun y hy=>(ho y hy).1,fun x hx y hy=>?_,a3,a4⟩
     ·rw[hm x,hperm.mem_iff,List.mem_cons,List.mem_append,List.mem_singleton]
      constructor
      ·rintro(h1 | h1 | h1)
       ·exact .inl (.inl h1)
       ·exact .inl (.inr h1)
       ·exact .inr h1
      ·rintro((h1 | h1) | h1)
       ·exact .inl h1
       ·exact .inr (.inl h1)
       ·exact .inr (.inr h1)
     ·rcases List.mem_append.mp hx2 with z2 | z2
      ·exact hdj x (hperm.mem_iff.mpr (List.mem_cons_of_mem _ hx)) z2
      ·exact hzn (by rw[← List.mem_singleton.mp z2];exact hx)
     ·dsimp only at hy
      by_cases c:x=z
      ·rw[if_pos c] at hy
       rw[c]
       exact(ho y hy).2
      ·rw[if_neg c] at hy
       exact had x ((List.mem_append.mp hx).resolve_right fun e=>c (List.mem_singleton.mp e)) y hy
    have e9:tabV (fun y=>if y=z then V.non else opV (pf y)) (us++[z])=tabV (fun x=>opV (if x=z then none else pf x)) (us++[z]):=wM fun y _=>by
     by_cases c:y=z
     ·rw[if_pos c,if_pos c];rfl
     ·rw[if_neg c,if_neg c]
    rw[e9]
    have hd9:=upd_same (H:=H8) (a:=d) (o:=HO.dK (tabV (fun x=>opV (if x=z then none else pf x)) (us++[z])))
    have hl9:(upd H8 d (HO.dK (tabV (fun x=>opV (if x=z then none else pf x)) (us++[z])))) lf=_:=(upd_ne nfd.symm).trans hl8
    have hD9:(upd H8 d (HO.dK (tabV (fun x=>opV (if x=z then none else pf x)) (us++[z])))) D=_:=(upd_ne nDd2).trans hD8
    have x9:XsAt (upd H8 d (HO.dK (tabV (fun x=>opV (if x=z then none else pf x)) (us++[z])))) l:=x8.upd ndl
    have y9:Ext l H (upd H8 d (HO.dK (tabV (fun x=>opV (if x=z then none else pf x)) (us++[z])))):=fun b o e nb=>by
     rw[upd_ne (ne_of_none e fd)]
     exact y8 b o e nb
    generalize upd H8 d (HO.dK (tabV (fun x=>opV (if x=z then none else pf x)) (us++[z])))=H9 at *
    refine⟨_,rfl,(by show 0≤sizeLine;decide),fun e2 he2=>?_⟩
    have se2:=Same.new (o:=HO.lst []) he2
    have nsl:ns.length≤12:=by
     rw[← hns]
     have h1:=List.length_filter_le (fun y=>decide (y∈us)) (hs.filter (adB ls z))
     have h2:=List.length_filter_le (adB ls z) hs
     omega
    have x10:=x9.new (o:=HO.lst []) he2
    have y10:=y9.trans (Ext.new (l:=l) (o:=HO.lst []) he2)
    have hd10:=se2 _ _ hd9
    have hl10:=se2 _ _ hl9
    have hD10:=se2 _ _ hD9
    have he10:=upd_same (H:=H9) (a:=e2) (o:=HO.lst [])
    generalize upd H9 e2 (HO.lst [])=H10 at *
    cases hnc:ns with
    |nil =>
     rw[hnc] at hD10
     refine .inl ⟨D,e2,_,_,fun _=>true,0,rfl,rfl,.inl ⟨SqL.of hD10,SqL.of he10⟩,rfl,un 0 (by omega),(fun j x y hx=>by cases hx),_,rfl,iteN rfl ?_⟩
     exact iteN rfl (fin none _ _ H10 (fun y hy=>(nomatch hy)) hd10 hl10 x10 y10)
    |cons n0 nt =>
     rw[hnc] at hD10
     refine .inr ⟨D,e2,_,_,rfl,rfl,SqL.of hD10,SqL.of he10,(by simp),Nat.lt_of_le_of_lt (Nat.le_add_right _ 2) (un 0 (by omega)),_,rfl,xn ?_⟩
     rw[← hnc] at hD10
     have hnp:0<ns.length:=by rw[hnc];simp
     refine⟨_,rfl,l,4,rfl,x10,by decide,fun t4 H11 t0 t1 x11 y11=>?_⟩
     have hd11:=y11 _ _ hd10 ndl
     have hl11:=y11 _ _ hl10 nfl
     have hD11:=y11 _ _ hD10 nDl
     have yy:=y10.trans y11
     refine⟨_,_,rfl,rfl,_,rfl,?_⟩
     by_cases c4:0<t4
     ·refine iteB (by simp;omega) ?_
      refine⟨_,rfl,_,rfl,_,rfl,D,_,rfl,.inl (SqL.of hD11),l,_,rfl,x11,(by rw[List.length_map];omega),fun kk H12 kk0 kk1 x12 y12=>?_⟩
      rw[List.length_map] at kk1
      have hkk:kk.toNat<ns.length:=by omega
      obtain⟨yv,hyv⟩:∃ yv,ns[kk.toNat]?=some yv:=⟨ns[kk.toNat],by simp[hkk]⟩
      have hyn:=hnsm yv (List.mem_of_getElem? hyv)
      have hat:atI (ns.map V.int) kk=some (V.int yv):=by
       have:=zW (xs:=ns.map V.int) (j:=kk.toNat) (v:=V.int yv) (by rw[List.getElem?_map,hyv];rfl)
       rw[Int.toNat_of_nonneg kk0] at this
       exact this
      have hd12:=y12 _ _ hd11 ndl
      have hl12:=y12 _ _ hl11 nfl
      have hD12:=y12 _ _ hD11 nDl
      refine⟨D,_,_,_,rfl,rfl,SqL.of hD12,hat,?_⟩
      refine⟨_,rfl,_,rfl,d,_,rfl,DPut.k (k:=.inl z) hd12 (by rw[tabV_len,List.length_append,List.length_singleton];exact zl (by omega)),?_⟩
      rw[Xi (List.mem_append.mpr (.inr (by simp)))]
      have e12:tabV (fun y=>if y=z then V.int yv else opV (if y=z then none else pf y)) (us++[z])=tabV (fun x=>opV (if x=z then some yv else pf x)) (us++[z]):=wM fun y _=>by
       by_cases c:y=z
       ·rw[if_pos c,if_pos c];rfl
       ·rw[if_neg c,if_neg c,if_neg c]
      rw[e12]
      refine fin (some yv) _ _ _ (fun y hy=>by cases hy;exact hyn) upd_same ((upd_ne nfd.symm).trans hl12) (x12.upd ndl) fun b o e nb=>?_
      rw[upd_ne (ne_of_none e fd)]
      exact(yy.trans y12) b o e nb
     ·refine iteN (by simp;omega) ?_
      exact fin none _ _ H11 (fun y hy=>(nomatch hy)) hd11 hl11 x11 yy
open L2.Sco (PT PsAt)
theorem LnAt.take {H:Hp}{rs:List V}{ls:LP}{n:Nat}(h:LnAt H rs ls):LnAt H (rs.take n) (ls.take n):=by
 refine⟨by rw[List.length_take,List.length_take,h.1],fun i r p a1 a2=>?_⟩
 rw[List.getElem?_take] at a1 a2
 split at a1
 ·rw[if_pos (by assumption)] at a2
  exact h.2 i r p a1 a2
 ·cases a1
theorem zaF {rs:List V}:cutV rs none (some 14)=rs.take 14:=by
 by_cases c:14≤rs.length
 ·exact Vw (n:=14) c
 ·unfold cutV HT.sIx
  simp
theorem zbs {n m:Nat}(h:m≤tri n) (hn:n≤8):m≤28:=by
 have:∀ n,n≤8→tri n≤28:=by decide
 have:=this n hn
 omega
def zaV:Sp:=fun vs H Q _=>∃ (l:Addr),vs=[.ref l]∧XsAt H l ∧
 ∀ (t h q:Addr) (hs:LI) (rs:List V) (ls:LP) (H':Hp),H' t=some (.tup [.ref h,.ref q])→H' h=some (.lst (hs.map V.int))→H' q=some (.lst rs)→LnAt H' rs ls→Hs hs→Ls hs ls→XsAt H' l→Ext l H H'→h≠l→q≠l→ls.length≤28→Q (.ref t) H'
theorem zae (T:Txt w K mg a):FnOk P w K mg base CX0 3 369 (dK K 369) ["_law_xs"] zaV:=by
 have c__law_take:Callee P w K mg base "_law_take" 350 (dK K 350) ["_law_xs", "_law_size"] 1 xf:=⟨wt T,(T.g 21 rfl),(T.fn 21 rfl).kp,(T.bi 21 rfl)⟩
 have c__law_hands:Callee P w K mg base "_law_hands" 355 (dK K 355) ["_law_xs", "_law_most"] 2 za2:=⟨zam T,(T.g 22 rfl),(T.fn 22 rfl).kp,(T.bi 22 rfl)⟩
 have c__law_lines:Callee P w K mg base "_law_lines" 362 (dK K 362) ["_law_xs", "_law_hands_here"] 2 za1:=⟨zal T,(T.g 23 rfl),(T.fn 23 rfl).kp,(T.bi 23 rfl)⟩
 refine(T.fn 24 rfl).ok (scp 24 rfl) (fun vs H Q E h=>?_) (fun cdv A outer s H vs Q E hr h=>?_)
 ·obtain⟨l,rfl,_⟩:=h
  rfl
 ·obtain⟨l,rfl,hX,k⟩:=h
  refine yd (zb (zm (i:=1) (scp 24 rfl).nd rfl (Or.inl rfl) (zv zF (zA (zK ze (zK ze (zK ze (zK ze (zK ze (zK ze (zK ze (zK ze za))))))))) (zr c__law_take hr.m (zd (zh 0) (zK ze za))) (fun _ _=>rfl)))
   (zb (zm (i:=2) (scp 24 rfl).nd rfl (Or.inl rfl) (zr c__law_hands hr.m (zd (zh 0) (zd (zh 1) za))))
   (zb (zm (i:=3) (scp 24 rfl).nd rfl (Or.inl rfl) (zr c__law_lines hr.m (zd (zh 0) (zd (zh 2) za))))
   (zg (zi (zJ (zd (zh 2) (zk (zv zF (zA (zd (zh 3) (zk (zP yz (zh 3) yf (w_po_some ze)) za))) (zu wb (zh 1) ze) (fun _ _=>rfl)) za)))))))) ?_
  refine⟨(by show 8≤sizeLine;decide),fun q0 hq0=>?_⟩
  refine⟨_,rfl,l,8,rfl,hX.new hq0,by decide,fun d H1 d0 d1 x1 y1=>?_⟩
  have nq0:=hX.ne hq0
  have hq1:=y1 _ _ upd_same nq0
  obtain⟨m,hat,hm⟩:∃ m:Int,atI ([V.int 8,V.int 8,V.int 8,V.int 8,V.int 8,V.int 8,V.int 8,V.int 12]) d=some (V.int m)∧(m=8∨m=12):=by
   obtain⟨n,rfl⟩:∃ n:Nat,d=(n:Int):=⟨d.toNat,by omega⟩
   have hn:n<8:=by omega
   match n,hn with
   |0,_=>exact⟨8,zW rfl,.inl rfl⟩
   |1,_=>exact⟨8,zW rfl,.inl rfl⟩
   |2,_=>exact⟨8,zW rfl,.inl rfl⟩
   |3,_=>exact⟨8,zW rfl,.inl rfl⟩
   |4,_=>exact⟨8,zW rfl,.inl rfl⟩
   |5,_=>exact⟨8,zW rfl,.inl rfl⟩
   |6,_=>exact⟨8,zW rfl,.inl rfl⟩
   |7,_=>exact⟨12,zW rfl,.inr rfl⟩
   |n+8,hn=>omega
  refine⟨q0,_,_,_,rfl,rfl,SqL.of hq1,hat,?_⟩
  refine⟨_,rfl,_,rfl,l,m,rfl,by omega,by omega,x1,fun h hs H2 hh hh2 wh hmo x2 y2=>?_⟩
  have nhl:h≠l:=x1.ne hh
  refine⟨_,rfl,_,rfl,l,h,hs,rfl,x2,hh2,nhl,wh,fun q rs ls H3 hq hq3 L3 wl htr x3 y3=>?_⟩
  have nql:q≠l:=x2.ne hq
  have hh3:=y3 _ _ hh2 nhl
  have ye:=(((Ext.new (l:=l) (o:=HO.lst [V.int 8,V.int 8,V.int 8,V.int 8,V.int 8,V.int 8,V.int 8,V.int 12]) hq0).trans y1).trans y2).trans y3
  refine⟨_,rfl,_,rfl,_,rfl,_,rfl,q,_,rfl,SqL.of hq3,fun p1 hp1=>?_⟩
  rw[zaF]
  have s4:=Same.new (o:=HO.lst (rs.take 14)) hp1
  have hp4:=upd_same (H:=H3) (a:=p1) (o:=HO.lst (rs.take 14))
  have np1:p1≠l:=x3.ne hp1
  generalize upd H3 p1 (HO.lst (rs.take 14))=H4 at *
  refine⟨(by show 2≤sizeLine;decide),fun pl hpl=>?_⟩
  have s5:=Same.new (o:=HO.lst [V.ref q,V.ref p1]) hpl
  have hpl5:=upd_same (H:=H4) (a:=pl) (o:=HO.lst [V.ref q,V.ref p1])
  generalize upd H4 pl (HO.lst [V.ref q,V.ref p1])=H5 at *
  have s35:=s4.trans s5
  refine⟨_,rfl,_,_,rfl,rfl,⟨by decide,by decide⟩,?_⟩
  have fin:∀ (q':Addr) (rs':List V) (ls':LP),H5 q'=some (.lst rs')→LnAt H5 rs' ls'→Ls hs ls'→q'≠l→ls'.length≤28→∀ pt,H5 pt=none→Q (.ref pt) (upd H5 pt (.tup [.ref h,.ref q'])):=fun q' rs' ls' e1 e2 e3 e4 e5 pt hpt=>by
   have s6:=Same.new (o:=HO.tup [V.ref h,V.ref q']) hpt
   exact k pt h q' hs rs' ls' _ upd_same (s6 _ _ (s35 _ _ hh3)) (s6 _ _ e1) (e2.same s6) wh e3 ((x3.same s35).same s6) (ye.trans (Ext.same (s35.trans s6))) nhl e4 e5
  rcases hm with rfl | rfl
  ·refine⟨pl,_,_,V.ref q,rfl,rfl,SqL.of hpl5,zW (j:=0) rfl,(by show 2≤sizeLine;decide),fun pt hpt=>?_⟩
   exact fin q rs ls (s35 _ _ hq3) (L3.same s35) wl nql (zbs htr (by omega)) pt hpt
  ·refine⟨pl,_,_,V.ref p1,rfl,rfl,SqL.of hpl5,zW (j:=1) rfl,(by show 2≤sizeLine;decide),fun pt hpt=>?_⟩
   exact fin p1 (rs.take 14) (ls.take 14) (s5 _ _ hp4) (L3.take.same s35) ⟨wl.nd.sublist (List.take_sublist _ _),fun p hp=>wl.ok p (List.mem_of_mem_take hp),by rw[List.length_take];have:=wl.le;omega⟩ np1 (by rw[List.length_take];omega) pt hpt
open L2.Sco (PT PsAt)
theorem Z8 {lf:Int→Int}{k:Int×Int}{ds es:LP}:sel lf k (ds++es)=sel lf k ds++sel lf k es:=by
 unfold sel
 rw[List.filter_append]
def LLf (G H:Hp) (l:Addr) (xss:List (LI)):Prop:=∃ ps:List (Addr×LI),H l=some (.lst (ps.map fun p=>V.ref p.1))∧(∀ p∈ps,H p.1=some (.lst (p.2.map V.int))∧G p.1=none)∧ps.map (·.2)=xss
def VW:Sp:=fun vs H Q _=>∃ (d lb:Addr) (pf:Int→Option Int) (pa:Int→LI) (us:LI) (rb:List V) (bs:LP) (h n:Int),vs=[.ref d,.ref lb,.int h,.int n]∧H d=some (.dK (tabV (fun x=>opV (pf x)) us))∧us.length≤12∧UpP us pf pa∧H lb=some (.lst rb)∧LnAt H rb bs∧Bd bs∧bs.length≤63∧(∀ q∈bs,q.1∈us∧q.2∈us)∧h∈us∧n∈us ∧
 ∀ (l:Addr) (H':Hp),H l=none→LLf H H' l (rfs pa (dbl (srt bs)) h n)→Same H H'→Q (.ref l) H'
theorem Vh (T:Txt w K mg a):FnOk P w K mg base CX0 2 400 (dK K 400) ["_law_parents", "_law_bridges", "_law_hand", "_law_other"] VW:=by
 have c__law_up:Callee P w K mg base "_law_up" 381 (dK K 381) ["_law_parents", "_law_hand"] 1 UY:=⟨Uh T,(T.g 26 rfl),(T.fn 26 rfl).kp,(T.bi 26 rfl)⟩
 refine(T.fn 29 rfl).ok (scp 29 rfl) (fun vs H Q E h=>?_) (fun cdv A outer s H vs Q E hr h=>?_)
 ·obtain⟨d,lb,pf,pa,us,rb,bs,h,n,rfl,_⟩:=h
  rfl
 ·obtain⟨d,lb,pf,pa,us,rb,bs,h,n,rfl,hd,l12,U,hlb,L,B,l66,hin,hh,hn,k⟩:=h
  have lst:∀ {z},z∈us→atI ((pa z).map V.int) (-1)=some (V.int (ldr pa z)):=fun {z} hz=>by
   obtain⟨⟨ys,e⟩,_⟩:=U.ld hz
   rw[e,List.map_append]
   exact at_last
  have fst:∀ {z},z∈us→atI (((pa z).map V.int).reverse) 0=some (V.int (ldr pa z)):=fun {z} hz=>by
   obtain⟨⟨ys,e⟩,_⟩:=U.ld hz
   refine zW (j:=0) ?_
   rw[e,List.map_append,List.reverse_append]
   rfl
  have ln:∀ {z},z∈us→1≤(pa z).length∧(pa z).length≤12:=fun {z} hz=>⟨(U.len hz).1,Nat.le_trans (U.len hz).2 l12⟩
  have lh:=ln hh
  have lnn:=ln hn
  refine yd (zb (zm (i:=4) (scp 29 rfl).nd rfl (Or.inl rfl) (zr c__law_up hr.m (zd (zh 0) (zd (zh 3) za))))
   (zb (zm (i:=5) (scp 29 rfl).nd rfl (Or.inl rfl) (uR (zr c__law_up hr.m (zd (zh 0) (zd (zh 2) za))) (yx yN ze)))
   (zb (zB (zo yG (zv zF (zh 4) (yx yN ze) (fun _ _=>rfl)) (zv zF (zh 5) ze (fun _ _=>rfl)) (zC _))
    (zg (zi (zA (yS (zu yO (zh 4) (zP yz (zh 5) (w_po_some ze) yf)) za))))
    zp)
   (zb (zm (i:=6) (scp 29 rfl).nd rfl (Or.inl rfl) (zA za))
   (zb (zR PassesOwn.never rfl (zE (zj Sco.call_sortX (by rfl) (T.n 6 rfl) xr (zd (zh 1) za))) (yk rfl (zy (zn (i:=7) (scp 29 rfl).nd rfl (Or.inl rfl)) (zy (zn (i:=8) (scp 29 rfl).nd rfl (Or.inl rfl)) zY)))
    (zg (zR PassesOwn.never rfl (zE (zA (xc (zJ (zd (zh 7) (zd (zh 8) za))) (xc (zJ (zd (zh 8) (zd (zh 7) za))) za)))) (yk rfl (zy (zn (i:=9) (scp 29 rfl).nd rfl (Or.inl rfl)) (zy (zn (i:=10) (scp 29 rfl).nd rfl (Or.inl rfl)) zY)))
     (zg (zB (wJ (yU (zo yG (zv zF (zr c__law_up hr.m (zd (zh 0) (zd (zh 9) za))) (yx yN ze) (fun _ _=>rfl)) (zv zF (zh 4) (yx yN ze) (fun _ _=>rfl)) (zC _)) (yK (zo yG (zv zF (zr c__law_up hr.m (zd (zh 0) (zd (zh 10) za))) (yx yN ze) (fun _ _=>rfl)) (zv zF (zh 5) ze (fun _ _=>rfl)) (zC _)))))
      (zg (zQ (yu PySem.F.plainAttrs_list PySem.F.slot_list_append PySem.F.type_list_append zU (zh 6) (yS (zu yO (zu yO (zu yO (zh 4) (zP yz (uR (zr c__law_up hr.m (zd (zh 0) (zd (zh 9) za))) (yx yN ze)) (w_po_some ze) yf)) (zr c__law_up hr.m (zd (zh 0) (zd (zh 10) za)))) (zP yz (zh 5) (w_po_some ze) yf)) za))))
      zp)))))
   (zg (zi (zh 6)))))))) ?_
  refine⟨_,rfl,_,rfl,d,pf,pa,us,n,rfl,hd,l12,U,hn,fun l1 hl1=>?_⟩
  have s1:=Same.new (o:=HO.lst ((pa n).map V.int)) hl1
  have h1:=upd_same (H:=H) (a:=l1) (o:=HO.lst ((pa n).map V.int))
  generalize upd H l1 (HO.lst ((pa n).map V.int))=H1 at *
  refine⟨_,rfl,_,rfl,d,pf,pa,us,h,rfl,s1 _ _ hd,l12,U,hh,fun l2 hl2=>?_⟩
  have s2:=s1.trans (Same.new (o:=HO.lst ((pa h).map V.int)) hl2)
  have h2:=Same.new (o:=HO.lst ((pa h).map V.int)) hl2 _ _ h1
  refine⟨_,rfl,rfl,l2,_,rfl,SqL.of upd_same,fun l3 hl3=>?_⟩
  have s3:=s2.trans (Same.new (o:=HO.lst ((pa h).map V.int).reverse) hl3)
  have h31:=Same.new (o:=HO.lst ((pa h).map V.int).reverse) hl3 _ _ h2
  have h33:=upd_same (H:=upd H1 l2 (HO.lst ((pa h).map V.int))) (a:=l3) (o:=HO.lst ((pa h).map V.int).reverse)
  generalize upd (upd H1 l2 (HO.lst ((pa h).map V.int))) l3 (HO.lst ((pa h).map V.int).reverse)=H3 at *
  refine⟨_,rfl,_,rfl,l1,_,-1,_,rfl,rfl,SqL.of h31,lst hn,_,rfl,l3,_,0,_,rfl,rfl,SqL.of h33,fst hh,rfl,_,rfl,?_⟩
  by_cases c:ldr pa n=ldr pa h
  ·refine iteB (by rw[c];simp) ?_
   refine⟨_,rfl,_,rfl,_,rfl,l3,_,rfl,SqL.of h33,fun l4 hl4=>?_⟩
   rw[UQ (by simp;omega)]
   have s4:=Same.new (o:=HO.lst (((pa h).map V.int).reverse.drop 1)) hl4
   refine⟨l1,l4,_,_,rfl,rfl,s4 _ _ h31,upd_same,Nat.le_of_lt (zl (by rw[List.length_drop,List.length_reverse,List.length_map,List.length_map];omega)),fun l5 hl5=>?_⟩
   have s5:=s3.trans (s4.trans (Same.new (o:=HO.lst ((pa n).map V.int++((pa h).map V.int).reverse.drop 1)) hl5))
   have f5:H l5=none:=(s3.trans s4).free hl5
   have h5:=upd_same (H:=upd H3 l4 (HO.lst (((pa h).map V.int).reverse.drop 1))) (a:=l5) (o:=HO.lst ((pa n).map V.int++((pa h).map V.int).reverse.drop 1))
   generalize upd (upd H3 l4 (HO.lst (((pa h).map V.int).reverse.drop 1))) l5 (HO.lst ((pa n).map V.int++((pa h).map V.int).reverse.drop 1))=H5 at *
   refine⟨(by show 1≤sizeLine;decide),fun l6 hl6=>?_⟩
   have s6:=Same.new (o:=HO.lst [V.ref l5]) hl6
   refine k l6 _ (s5.free hl6) ⟨[(l5,rdW pa h n)],upd_same,fun q hq=>?_,?_⟩ (s5.trans s6)
   ·rw[List.mem_singleton.mp hq]
    refine⟨?_,f5⟩
    rw[s6 _ _ h5]
    unfold rdW
    rw[List.map_append,List.map_drop,List.map_reverse]
   ·unfold rfs
    rw[if_pos c]
    rfl
  ·refine iteN (by simp[c]) ?_
   have er:rfs pa (dbl (srt bs)) h n=(sel (ldr pa) (ldr pa n,ldr pa h) (dbl (srt bs))).map (rdO pa h n):=by unfold rfs;rw[if_neg c]
   rw[er] at k
   refine⟨(by show 0≤sizeLine;decide),fun lf hlf=>?_⟩
   have s4:=s3.trans (Same.new (o:=HO.lst []) hlf)
   have n4:=Same.new (o:=HO.lst []) hlf
   have h41:=n4 _ _ h31
   have h43:=n4 _ _ h33
   have h4f:=upd_same (H:=H3) (a:=lf) (o:=HO.lst [])
   have flf:H lf=none:=s3.free hlf
   generalize upd H3 lf (HO.lst [])=H4 at *
   obtain⟨ps,e1,e2,e3⟩:=(L.same s4).ps B
   have lps:ps.length≤63:=by rw[← e2,List.length_map] at l66;exact l66
   refine⟨_,rfl,lb,ps,rfl,by rw[e1];exact SqL.of (s4 _ _ hlb),lps,e3,fun sl qs hsl pm up=>?_⟩
   have Ls:=ul e3 pm up
   rw[e2] at Ls
   have n5:=Same.new (o:=HO.lst (qs.map fun p=>V.ref p.1)) hsl
   have hs5:=upd_same (H:=H4) (a:=sl) (o:=HO.lst (qs.map fun p=>V.ref p.1))
   generalize upd H4 sl (HO.lst (qs.map fun p=>V.ref p.1))=H5 at *
   generalize hrq:qs.map (fun p=>V.ref p.1)=rq at *
   have s5:=s4.trans n5
   have h51:=n5 _ _ h41
   have h53:=n5 _ _ h43
   have h5f:=n5 _ _ h4f
   have Ls5:=Ls.same n5
   have hsm:∀ {x:Int×Int},x∈srt bs↔x∈bs:=fun {x}=>(ym bs).mem_iff
   have lsl:(srt bs).length≤66:=by rw[(ym bs).length_eq];omega
   have lr:=Ls5.1
   generalize srt bs=sb at *
   refine⟨sl,rfl,⟨_,SqL.of hs5⟩,?_⟩
   have nsf:sl≠lf:=fun z=>by rw[z,h4f] at hsl;cases hsl
   have n1f:l1≠lf:=fun z=>by rw[z,hlf] at h31;cases h31
   have n3f:l3≠lf:=fun z=>by rw[z,hlf] at h33;cases h33
   have d5:=s5 _ _ hd
   have ndf:d≠lf:=fun z=>by rw[z,flf] at hd;cases hd
   have LX:∀ {G:Hp},Ext lf H5 G→LnAt G rq sb:=fun {G} x=>⟨Ls5.1,fun n r p a1 a2=>by
    obtain⟨qq,b1,b2⟩:=Ls5.2 n r p a1 a2
    exact⟨qq,b1,x _ _ b2 fun z=>by rw[z,h5f] at b2;cases b2⟩⟩
   -- the roads found so far,by the directed bridges gone over
   generalize hF:(fun(H':Hp) (ds:LP)=>∃ ps:List (Addr×LI),H' lf=some (.lst (ps.map fun p=>V.ref p.1))∧(∀ p∈ps,H' p.1=some (.lst (p.2.map V.int))∧p.1≠lf∧H p.1=none)∧ps.map (·.2)=(sel (ldr pa) (ldr pa n,ldr pa h) ds).map (rdO pa h n))=F
   have Fsame:∀ {G G':Hp} {ds},F G ds→Same G G'→F G' ds:=by
    intro G G' ds f s
    rw[← hF] at f ⊢
    obtain⟨ps,f1,f2,f3⟩:=f
    exact⟨ps,s _ _ f1,fun p hp=>⟨s _ _ (f2 p hp).1,(f2 p hp).2⟩,f3⟩
   refine for_list (xs:=rq) (fun i σ H'=>∃ (o7 o8 o9 o10:Option V),σ=[some (.ref d),some (.ref lb),some (.int h),some (.int n),some (.ref l1),some (.ref l3),some (.ref lf),o7,o8,o9,o10]∧F H' (dbl (sb.take i))∧Ext lf H5 H') ?_ ?_ ?_ ?_
   ·refine⟨none,none,none,none,rfl,?_,Ext.refl⟩
    rw[← hF]
    exact⟨[],h5f,(fun p hp=>(nomatch hp)),by simp[dbl,sel]⟩
   ·rintro i σ H' hi ⟨o7,o8,o9,o10,_,_,x⟩
    exact SqL.of (x _ _ hs5 nsf)
   ·rintro i v σ H6 hi ⟨o7,o8,o9,o10,rfl,f6,x6⟩
    obtain⟨⟨x,y⟩,q,hp,rfl,hq⟩:=(LX x6).get hi
    have hpm:=hin _ (hsm.mp (List.mem_of_getElem? hp))
    have hi66:i<66:=by
     have:=(List.getElem?_eq_some_iff.mp hp).1
     omega
    obtain⟨hx,hy⟩:=hpm
    dsimp only at hx hy hq
    have etk:sb.take (i+1)=sb.take i++[(x,y)]:=by rw[List.take_add_one,hp];rfl
    refine⟨q,_,rfl,SqT.of hq,rfl,_,_,rfl,_,_,rfl,rfl,?_⟩
    refine⟨_,rfl,_,rfl,(by show 2≤sizeLine;decide),fun t1 ht1=>?_⟩
    have m1:=Same.new (o:=HO.tup [V.int x,V.int y]) ht1
    have g1:=upd_same (H:=H6) (a:=t1) (o:=HO.tup [V.int x,V.int y])
    generalize upd H6 t1 (HO.tup [V.int x,V.int y])=H7 at *
    refine⟨_,rfl,_,rfl,(by show 2≤sizeLine;decide),fun t2 ht2=>?_⟩
    have m2:=Same.new (o:=HO.tup [V.int y,V.int x]) ht2
    have g2:=upd_same (H:=H7) (a:=t2) (o:=HO.tup [V.int y,V.int x])
    generalize upd H7 t2 (HO.tup [V.int y,V.int x])=H8 at *
    refine⟨(by show 2≤sizeLine;decide),fun li hli=>?_⟩
    have m3:=Same.new (o:=HO.lst [V.ref t1,V.ref t2]) hli
    have g3:=upd_same (H:=H8) (a:=li) (o:=HO.lst [V.ref t1,V.ref t2])
    generalize upd H8 li (HO.lst [V.ref t1,V.ref t2])=H9 at *
    have m13:=(m1.trans m2).trans m3
    have x9:=x6.trans (Ext.same m13)
    have f9:=Fsame f6 m13
    have L9:LnAt H9 [V.ref t1,V.ref t2] [(x,y),(y,x)]:=by
     have z0:LnAt H9 [] []:=⟨rfl,fun n r p a1=>by simp at a1⟩
     exact(z0.snoc (p:=(x,y)) (m3 _ _ (m2 _ _ g1))).snoc (p:=(y,x)) (m3 _ _ g2)
    have h9f:∃ zs,H9 lf=some (.lst zs):=by
     rw[← hF] at f9
     obtain⟨ps,f1,_⟩:=f9
     exact⟨_,f1⟩
    have nif:li≠lf:=fun z=>by
     rw[← hF] at f6
     obtain⟨ps,f1,_⟩:=f6
     rw[z,(m1.trans m2) _ _ f1] at hli
     cases hli
    refine⟨li,rfl,⟨_,SqL.of g3⟩,?_⟩
    refine for_list (xs:=[V.ref t1,V.ref t2]) (fun j σ H'=>∃ (o9 o10:Option V),σ=[some (.ref d),some (.ref lb),some (.int h),some (.int n),some (.ref l1),some (.ref l3),some (.ref lf),some (.int x),some (.int y),o9,o10]∧F H' (dbl (sb.take i)++[(x,y),(y,x)].take j)∧Ext lf H9 H') ?_ ?_ ?_ ?_
    ·exact⟨_,_,rfl,by simpa using f9,Ext.refl⟩
    ·rintro j σ H' hj ⟨o9,o10,_,_,xx⟩
     exact SqL.of (xx _ _ g3 nif)
    ·rintro j v σ G hj ⟨o9,o10,rfl,f,xG⟩
     obtain⟨⟨u,v⟩,q',hp',rfl,hq'⟩:=L9.get hj
     dsimp only at hq'
     have huv:u∈us∧v∈us:=by
      have:=List.mem_of_getElem? hp'
      rcases List.mem_cons.mp this with z | z
      ·cases z;exact⟨hx,hy⟩
      ·cases List.mem_singleton.mp z;exact⟨hy,hx⟩
     have etj:([(x,y),(y,x)]:LP).take (j+1)=([(x,y),(y,x)]:LP).take j++[(u,v)]:=by rw[List.take_add_one,hp'];rfl
     rw[etj,← List.append_assoc]
     generalize hds:dbl (sb.take i)++([(x,y),(y,x)]:LP).take j=ds at *
     have lds:ds.length≤140:=by
      rw[← hds,List.length_append,xR,List.length_take,List.length_take]
      simp
      omega
     have nqf:q'≠lf:=fun z=>by
      obtain⟨zs,h9f⟩:=h9f
      rw[z,h9f] at hq'
      cases hq'
     have xx:=x9.trans xG
     refine⟨q',_,rfl,SqT.of (xG _ _ hq' nqf),rfl,_,_,rfl,_,_,rfl,rfl,?_⟩
     have dG:=xx _ _ d5 ndf
     refine⟨_,rfl,_,rfl,d,pf,pa,us,u,rfl,dG,l12,U,huv.1,fun r1 hr1=>?_⟩
     have a1:=Same.new (o:=HO.lst ((pa u).map V.int)) hr1
     refine⟨_,rfl,r1,_,-1,_,rfl,rfl,SqL.of upd_same,lst huv.1,?_⟩
     generalize upd G r1 (HO.lst ((pa u).map V.int))=G1 at *
     refine⟨_,rfl,_,rfl,l1,_,-1,_,rfl,rfl,SqL.of (a1 _ _ (xx _ _ h51 n1f)),lst hn,rfl,_,rfl,?_⟩
     have skip:∀ {G':Hp} (o9 o10:Option V),Same G G'→(ldr pa u,ldr pa v)≠(ldr pa n,ldr pa h)→∃ (o9' o10':Option V),([some (.ref d),some (.ref lb),some (.int h),some (.int n),some (.ref l1),some (.ref l3),some (.ref lf),some (.int x),some (.int y),o9,o10]:St)=[some (.ref d),some (.ref lb),some (.int h),some (.int n),some (.ref l1),some (.ref l3),some (.ref lf),some (.int x),some (.int y),o9',o10']∧F G' (ds++[(u,v)])∧Ext lf H9 G':=fun {G'} o9 o10 sG hne=>by
      refine⟨o9,o10,rfl,?_,xG.trans (Ext.same sG)⟩
      have fs:=Fsame f sG
      rw[← hF] at fs ⊢
      obtain⟨ps,f1,f2,f3⟩:=fs
      refine⟨ps,f1,f2,?_⟩
      have:sel (ldr pa) (ldr pa n,ldr pa h) [(u,v)]=[]:=by
       unfold sel
       rw[List.filter_cons_of_neg (by simpa using hne),List.filter_nil]
      rw[Z8,this,List.append_nil]
      exact f3
     by_cases c1:ldr pa u=ldr pa n
     ·refine iteB (by rw[c1];simp) ?_
      refine⟨_,rfl,_,rfl,d,pf,pa,us,v,rfl,a1 _ _ dG,l12,U,huv.2,fun r2 hr2=>?_⟩
      have a2:=Same.new (o:=HO.lst ((pa v).map V.int)) hr2
      refine⟨_,rfl,r2,_,-1,_,rfl,rfl,SqL.of upd_same,lst huv.2,?_⟩
      generalize upd G1 r2 (HO.lst ((pa v).map V.int))=G2 at *
      have a12:=a1.trans a2
      refine⟨_,rfl,l3,_,0,_,rfl,rfl,SqL.of (a12 _ _ (xx _ _ h53 n3f)),fst hh,rfl,_,rfl,?_⟩
      by_cases c2:ldr pa v=ldr pa h
      ·refine iteB (by rw[c2];simp) ?_
       have f2':=Fsame f a12
       rw[← hF] at f2'
       obtain⟨ps,f1,f2,f3⟩:=f2'
       have lps:ps.length≤140:=by
        have e:=congrArg List.length f3
        rw[List.length_map,List.length_map] at e
        have:=List.length_filter_le (fun p:Int×Int=>decide ((ldr pa p.1,ldr pa p.2)=(ldr pa n,ldr pa h))) ds
        unfold sel at e
        omega
       have lu:=ln huv.1
       have lv:=ln huv.2
       refine⟨_,rfl,.inl ⟨rfl,_,SqL.of f1⟩,?_⟩
       refine⟨_,rfl,_,rfl,_,rfl,d,pf,pa,us,u,rfl,a12 _ _ dG,l12,U,huv.1,fun r3 hr3=>?_⟩
       have a3:=Same.new (o:=HO.lst ((pa u).map V.int)) hr3
       refine⟨_,rfl,rfl,r3,_,rfl,SqL.of upd_same,fun r4 hr4=>?_⟩
       have a4:=Same.new (o:=HO.lst ((pa u).map V.int).reverse) hr4
       refine⟨_,rfl,r4,_,rfl,SqL.of upd_same,fun r5 hr5=>?_⟩
       rw[UQ (by simp;omega)]
       have a5:=Same.new (o:=HO.lst (((pa u).map V.int).reverse.drop 1)) hr5
       have a35:=(a3.trans a4).trans a5
       have b5:=upd_same (H:=upd (upd G2 r3 (HO.lst ((pa u).map V.int))) r4 (HO.lst ((pa u).map V.int).reverse)) (a:=r5) (o:=HO.lst (((pa u).map V.int).reverse.drop 1))
       generalize upd (upd (upd G2 r3 (HO.lst ((pa u).map V.int))) r4 (HO.lst ((pa u).map V.int).reverse)) r5 (HO.lst (((pa u).map V.int).reverse.drop 1))=G5 at *
       have aG5:=a12.trans a35
       have hn1:G5 l1=some (.lst ((pa n).map V.int)):=aG5 _ _ (xx _ _ h51 n1f)
       have ldu:(((pa u).map V.int).reverse.drop 1).length≤12:=by rw[List.length_drop,List.length_reverse,List.length_map];omega
       have ldh:(((pa h).map V.int).reverse.drop 1).length≤12:=by rw[List.length_drop,List.length_reverse,List.length_map];omega
       refine⟨l1,r5,_,_,rfl,rfl,hn1,b5,Nat.le_of_lt (zl (by rw[List.length_map];omega)),fun r6 hr6=>?_⟩
       have a6:=Same.new (o:=HO.lst ((pa n).map V.int++((pa u).map V.int).reverse.drop 1)) hr6
       have b6:=upd_same (H:=G5) (a:=r6) (o:=HO.lst ((pa n).map V.int++((pa u).map V.int).reverse.drop 1))
       generalize upd G5 r6 (HO.lst ((pa n).map V.int++((pa u).map V.int).reverse.drop 1))=G6 at *
       have aG6:=aG5.trans a6
       refine⟨_,rfl,_,rfl,d,pf,pa,us,v,rfl,aG6 _ _ dG,l12,U,huv.2,fun r7 hr7=>?_⟩
       have a7:=Same.new (o:=HO.lst ((pa v).map V.int)) hr7
       refine⟨r6,r7,_,_,rfl,rfl,a7 _ _ b6,upd_same,Nat.le_of_lt (zl (by rw[List.length_append,List.length_map,List.length_map];omega)),fun r8 hr8=>?_⟩
       have a8:=a7.trans (Same.new (o:=HO.lst ((pa n).map V.int++((pa u).map V.int).reverse.drop 1++(pa v).map V.int)) hr8)
       have b8:=upd_same (H:=upd G6 r7 (HO.lst ((pa v).map V.int))) (a:=r8) (o:=HO.lst ((pa n).map V.int++((pa u).map V.int).reverse.drop 1++(pa v).map V.int))
       generalize upd (upd G6 r7 (HO.lst ((pa v).map V.int))) r8 (HO.lst ((pa n).map V.int++((pa u).map V.int).reverse.drop 1++(pa v).map V.int))=G8 at *
       have aG8:=aG6.trans a8
       refine⟨_,rfl,_,rfl,l3,_,rfl,SqL.of (aG8 _ _ (xx _ _ h53 n3f)),fun r9 hr9=>?_⟩
       rw[UQ (by simp;omega)]
       have a9:=Same.new (o:=HO.lst (((pa h).map V.int).reverse.drop 1)) hr9
       refine⟨r8,r9,_,_,rfl,rfl,a9 _ _ b8,upd_same,Nat.le_of_lt (zl (by rw[List.length_append,List.length_append,List.length_map,List.length_map];omega)),fun r10 hr10=>?_⟩
       have a10:=a9.trans (Same.new (o:=HO.lst ((pa n).map V.int++((pa u).map V.int).reverse.drop 1++(pa v).map V.int++((pa h).map V.int).reverse.drop 1)) hr10)
       have b10:=upd_same (H:=upd G8 r9 (HO.lst (((pa h).map V.int).reverse.drop 1))) (a:=r10) (o:=HO.lst ((pa n).map V.int++((pa u).map V.int).reverse.drop 1++(pa v).map V.int++((pa h).map V.int).reverse.drop 1))
       have er10:(pa n).map V.int++((pa u).map V.int).reverse.drop 1++(pa v).map V.int++((pa h).map V.int).reverse.drop 1=(rdO pa h n (u,v)).map V.int:=by
        unfold rdO rdW
        rw[List.map_append,List.map_append,List.map_append,List.map_drop,List.map_drop,List.map_reverse,List.map_reverse]
        simp only[List.append_assoc]
       have fr10:H r10=none:=by
        cases e:H r10 with
        |none=>rfl
        |some o =>
         have:=(aG8.trans a9) _ _ (xx _ _ (s5 _ _ e) (fun z=>by rw[z,flf] at e;cases e))
         rw[hr10] at this
         cases this
       rw[er10] at a10 b10 ⊢
       generalize upd (upd G8 r9 (HO.lst (((pa h).map V.int).reverse.drop 1))) r10 (HO.lst ((rdO pa h n (u,v)).map V.int))=G10 at *
       have aG10:=aG8.trans a10
       have a210:=((a35.trans a6).trans a8).trans a10
       have f10:=a210 _ _ f1
       refine⟨lf,_,_,rfl,rfl,f10,by rw[List.length_map];exact zl (by omega),?_⟩
       have nrf:r10≠lf:=fun z=>by
        rw[z,f10] at b10
        injection b10 with b10
        injection b10 with b10
        cases hc:ps with
        |nil =>
         rw[hc] at b10
         have hl:=congrArg List.length b10
         unfold rdO rdW at hl
         simp at hl
         omega
        |cons p0 ps0 =>
         rw[hc] at b10
         cases hr:rdO pa h n (u,v) with
         |nil=>rw[hr] at b10;cases b10
         |cons i0 r0=>rw[hr] at b10;cases b10
       refine⟨_,_,rfl,?_,?_⟩
       ·rw[← hF]
        refine⟨ps++[(r10,rdO pa h n (u,v))],?_,fun p hp=>?_,?_⟩
        ·rw[upd_same,List.map_append]
         rfl
        ·rcases List.mem_append.mp hp with z | z
         ·have:=f2 p z
          exact⟨by rw[upd_ne this.2.1];exact a210 _ _ this.1,this.2⟩
         ·rw[List.mem_singleton.mp z]
          exact⟨by rw[upd_ne nrf];exact b10,nrf,fr10⟩
        ·have:sel (ldr pa) (ldr pa n,ldr pa h) [(u,v)]=[(u,v)]:=by
          unfold sel
          rw[List.filter_cons_of_pos (by simp[c1,c2]),List.filter_nil]
         rw[Z8,this,List.map_append,f3,List.map_append]
         rfl
       ·exact(xG.trans (Ext.same aG10)).trans Ext.at
      ·refine iteN (by simp[c2]) ?_
       exact skip _ _ a12 fun z=>c2 (congrArg Prod.snd z)
     ·refine iteN (by simp[c1]) ?_
      exact skip _ _ a1 fun z=>c1 (congrArg Prod.fst z)
    ·rintro σ G ⟨o9,o10,rfl,f,xG⟩
     refine⟨_,_,_,_,rfl,?_,x9.trans xG⟩
     rw[etk,dbl_snoc]
     have e:dbl (sb.take i)++([(x,y),(y,x)]:LP).take ([V.ref t1,V.ref t2]:List V).length=dbl (sb.take i)++[(x,y)]++[((x,y).2,(x,y).1)]:=by simp
     rw[← e]
     exact f
   ·rintro σ H' ⟨o7,o8,o9,o10,rfl,f,x⟩
    rw[List.take_of_length_le (by omega)] at f
    rw[← hF] at f
    obtain⟨ps,f1,f2,f3⟩:=f
    refine⟨_,rfl,k lf H' flf ⟨ps,f1,fun p hp=>⟨(f2 p hp).1,(f2 p hp).2.2⟩,f3⟩ fun c o hc=>?_⟩
    exact x _ _ (s5 _ _ hc) fun z=>by rw[z,flf] at hc;cases hc
open L2.Sco (PT PsAt rkP)
def prL (hs:LI) (ls:LP) (xs:LI):LP:=xs.flatMap fun x=>(hs.filter (adB ls x)).map fun y=>(x,y)
theorem Za {hs:LI}{ls:LP}{xs:LI}{x:Int}:prL hs ls (xs++[x])=prL hs ls xs++(hs.filter (adB ls x)).map fun y=>(x,y):=by
 unfold prL
 rw[List.flatMap_append]
 simp
theorem mem_prL {hs:LI}{ls:LP}{xs:LI}{q:Int×Int}:q∈prL hs ls xs↔q.1∈xs∧q.2∈hs∧adB ls q.1 q.2=true:=by
 unfold prL
 rw[List.mem_flatMap]
 constructor
 ·rintro⟨x,hx,h⟩
  obtain⟨y,hy,rfl⟩:=List.mem_map.mp h
  exact⟨hx,List.mem_filter.mp hy⟩
 ·rintro⟨h1,h2⟩
  exact⟨q.1,h1,List.mem_map.mpr ⟨q.2,List.mem_filter.mpr h2,rfl⟩⟩
theorem fm_len {xs:LI}{f:Int→LP}{k:Nat}(h:∀ x∈xs,(f x).length≤k):(xs.flatMap f).length≤xs.length*k:=by
 induction xs with
 |nil=>simp
 |cons x xs ih =>
  rw[List.flatMap_cons,List.length_append,List.length_cons,Nat.succ_mul]
  have h1:=h x List.mem_cons_self
  have h2:=ih fun y hy=>h y (List.mem_cons_of_mem _ hy)
  omega
theorem prL_eq {hs:LI}{ls:LP}(wh:Hs hs) (wl:Ls hs ls):prL hs ls hs=srt (dbl (srt ls)):=by
 have bh:∀ y∈hs,0≤y∧y<1000:=fun y hy=>by
  have a1:=wh.lo y hy
  have a2:=wh.hi y hy
  omega
 have md:∀ q:Int×Int,q∈prL hs ls hs↔q∈dbl (srt ls):=fun q=>by
  rw[mem_prL,mem_ds,mem_dbl]
  unfold adB
  rw[Bool.or_eq_true,decide_eq_true_eq,decide_eq_true_eq]
  refine⟨fun h=>h.2.2,fun h=>⟨?_,?_,h⟩⟩
  ·rcases h with z | z
   ·exact(wl.ok _ z).1
   ·exact(wl.ok _ z).2.1
  ·rcases h with z | z
   ·exact(wl.ok _ z).2.1
   ·exact(wl.ok _ z).1
 have lt:(prL hs ls hs).Pairwise fun p q=>rkP p<rkP q:=by
  unfold prL
  rw[List.pairwise_flatMap]
  refine⟨fun x hx=>?_,wh.up.imp_of_mem fun {x1 x2} h1 h2 h p hp q hq=>?_⟩
  ·rw[List.pairwise_map]
   refine(wh.up.filter _).imp fun {u v} h=>?_
   unfold rkP
   show x*1000+u<x*1000+v
   omega
  ·obtain⟨y,hy,rfl⟩:=List.mem_map.mp hp
   obtain⟨z,hz,rfl⟩:=List.mem_map.mp hq
   have b1:=bh y (List.mem_filter.mp hy).1
   have b2:=bh z (List.mem_filter.mp hz).1
   unfold rkP
   show x1*1000+y<x2*1000+z
   omega
 have nd:(prL hs ls hs).Nodup:=List.nodup_iff_pairwise_ne.mpr (lt.imp fun {u v} h z=>by rw[z] at h;omega)
 refine Wc (fun q hq=>?_) ?_ (lt.imp fun h=>Int.le_of_lt h)
 ·exact bh _ (mem_prL.mp ((md q).mpr hq)).2.1
 ·rw[List.perm_iff_count]
  intro q
  rw[nd.count,wl.dnd.count]
  simp only[md q]
def zaY:Sp:=fun vs H Q _=>∃ (h q:Addr) (rs:List V) (hs:LI) (ls:LP),vs=[.ref h,.ref q]∧H h=some (.lst (hs.map V.int))∧H q=some (.lst rs)∧LnAt H rs ls∧Hs hs∧Ls hs ls ∧
 ∀ (l:Addr) (zs:List V) (H':Hp),H' l=some (.lst zs)→LnAt H' zs (srt (dbl (srt ls)))→Same H H'→Q (.ref l) H'
theorem zah (T:Txt w K mg a):FnOk P w K mg base CX0 2 405 (dK K 405) ["_law_hands_here", "_law_lines_here"] zaY:=by
 have c__law_near:Callee P w K mg base "_law_near" 374 (dK K 374) ["_law_lines_here", "_law_hand"] 1 U1:=⟨Ul T,(T.g 25 rfl),(T.fn 25 rfl).kp,(T.bi 25 rfl)⟩
 refine(T.fn 30 rfl).ok (scp 30 rfl) (fun vs H Q E h=>?_) (fun cdv A outer s H vs Q E hr h=>?_)
 ·obtain⟨h,q,rs,hs,ls,rfl,_⟩:=h
  rfl
 ·obtain⟨h,q,rs,hs,ls,rfl,hh,hq,L,wh,wl,k⟩:=h
  have hu:=xo hr
  have h12:=wh.l12
  have l66:=wl.le
  have cap:∀ i,(prL hs ls (hs.take i)).length≤144:=fun i=>by
   have h1:=fm_len (xs:=hs.take i) (f:=fun x=>(hs.filter (adB ls x)).map fun y=>(x,y)) (k:=12) fun x _=>by
    rw[List.length_map]
    exact Nat.le_trans (List.length_filter_le _ _) h12
   have h2:(hs.take i).length≤12:=by rw[List.length_take];omega
   unfold prL
   omega
  refine yd (zb (zm (i:=2) (scp 30 rfl).nd rfl (Or.inl rfl) (zA za))
   (zb (zR PassesOwn.never rfl (zE (zh 0)) (zn (i:=3) (scp 30 rfl).nd rfl (Or.inr rfl))
    (zg (zm (i:=2) (scp 30 rfl).nd rfl (Or.inl rfl) (zu yO (zh 2) (yo rfl (N':=["_law_other", "_law_hand"]) (t:=1) (caps:=[3]) ⟨rfl,rfl,rfl⟩ (zE (zr c__law_near hr.m (zd (zh 1) (zd (zh 3) za)))) (fun _=>(zn (i:=0) (show(["_law_other", "_law_hand"]:List Str).Nodup by decide +kernel) rfl (Or.inl rfl))) (fun _=>yF) (fun _=>(zJ (zd (zh 1) (zd (zh 0) za)))))))))
   (zg (zi (zh 2))))) ?_
  refine⟨(by show 0≤sizeLine;decide),fun f0 hf0=>?_⟩
  have s1:=Same.new (o:=HO.lst []) hf0
  have hh1:=s1 _ _ hh
  refine⟨_,rfl,h,rfl,⟨_,SqL.of hh1⟩,?_⟩
  refine for_list (K:=K) (a:=h) (xs:=hs.map V.int) (fun i σ G=>∃ (f:Addr) (zs:List V) (o3:Option V),σ=[some (.ref h),some (.ref q),some (.ref f),o3]∧G f=some (.lst zs)∧LnAt G zs (prL hs ls (hs.take i))∧Same H G) ?_ ?_ ?_ ?_
  ·exact⟨f0,[],none,rfl,upd_same,⟨by simp[prL],fun i r p h=>by simp at h⟩,s1⟩
  ·rintro i σ G _ ⟨f,zs,o3,_,_,_,sm⟩
   exact SqL.of (sm _ _ hh)
  ·rintro i v σ G hi ⟨f,zs,o3,rfl,gf,Lz,sm⟩
   rw[List.getElem?_map] at hi
   obtain⟨x,hx,rfl⟩:=Option.map_eq_some_iff.mp hi
   have etk:hs.take (i+1)=hs.take i++[x]:=by rw[List.take_add_one,hx];rfl
   refine⟨_,rfl,_,rfl,_,rfl,q,x,rs,hs,ls,rfl,sm _ _ hq,L.same sm,wh,wl,fun ln G2 hln s2 hln2=>?_⟩
   refine⟨ln,rfl,⟨_,SqL.of hln2⟩,fun D hD _=>?_⟩
   have gf2:=s2 _ _ gf
   refine comp_list (K:=K) (a:=ln) (xs:=(hs.filter (adB ls x)).map V.int) (fun i zs τ F=>∃ (o1:Option V) (ps:List (Addr×Int×Int)),τ=[o1,some (.int x)]∧zs=ps.map (fun p=>V.ref p.1)∧ps.map (·.2)=((hs.filter (adB ls x)).take i).map (fun y=>(x,y))∧(∀ p∈ps,F p.1=some (.tup [.int p.2.1,.int p.2.2])∧p.1≠D)∧F D=some (.lst zs)∧Same G2 F) ?_ ?_ ?_ ?_
   ·exact⟨none,[],rfl,rfl,by simp,fun p hp=>(nomatch hp),upd_same,Same.new hD⟩
   ·rintro i zs τ F ⟨o1,ps,_,_,_,_,_,s3⟩
    exact SqL.of (s3 _ _ hln2)
   ·rintro i v zs τ F hv ⟨o1,ps,rfl,rfl,e2,hps,hDF,s3⟩
    rw[List.getElem?_map] at hv
    obtain⟨y,hy,rfl⟩:=Option.map_eq_some_iff.mp hv
    have etk:(hs.filter (adB ls x)).take (i+1)=(hs.filter (adB ls x)).take i++[y]:=by rw[List.take_add_one,hy];rfl
    have lps:=congrArg List.length e2
    rw[List.length_map,List.length_map,List.length_take] at lps
    have hf12:(hs.filter (adB ls x)).length≤12:=Nat.le_trans (List.length_filter_le _ _) h12
    unfold xQ
    refine yes_if ?_
    refine⟨_,rfl,_,rfl,(by show 2≤sizeLine;decide),fun pt hpt=>?_⟩
    have n2:=Same.new (o:=HO.tup [V.int x,V.int y]) hpt
    have nD:pt≠D:=fun z=>by rw[z,hDF] at hpt;cases hpt
    refine⟨n2 _ _ hDF,by rw[List.length_map];exact zl (by omega),_,ps++[(pt,x,y)],rfl,by simp,by rw[etk,List.map_append,List.map_append,e2];rfl,fun p hp=>?_,upd_same,(s3.trans n2).updF hD⟩
    rcases List.mem_append.mp hp with z | z
    ·obtain⟨z1,z2⟩:=hps p z
     exact⟨by rw[upd_ne z2];exact n2 _ _ z1,z2⟩
    ·rw[List.mem_singleton.mp z]
     exact⟨by rw[upd_ne nD];exact upd_same,nD⟩
   rintro zs2 τ F ⟨o1,ps,rfl,rfl,e2,hps,hDF,s3⟩
   rw[List.length_map,List.take_length] at e2
   have gf3:=s3 _ _ gf2
   have c1:=cap i
   have c2:=cap (i+1)
   rw[etk,Za,List.length_append,← e2,List.length_map] at c2
   refine⟨f,D,_,_,rfl,rfl,gf3,hDF,by rw[Lz.1,List.length_map];exact Nat.le_trans c2 (by decide),fun f2 hf2=>?_⟩
   have n3:=Same.new (o:=HO.lst (zs++ps.map fun p=>V.ref p.1)) hf2
   refine⟨f2,_,_,rfl,upd_same,?_,sm.trans (s2.trans (s3.trans n3))⟩
   have La:=Lz.same (s2.trans (s3.trans n3))
   rw[etk,Za,← e2]
   refine⟨by rw[List.length_append,List.length_append,La.1,List.length_map,List.length_map],fun j r p h1 h2=>?_⟩
   by_cases hj:j<zs.length
   ·rw[List.getElem?_append_left hj] at h1
    rw[List.getElem?_append_left (by rw[← La.1];exact hj)] at h2
    exact La.2 j r p h1 h2
   ·rw[List.getElem?_append_right (by omega)] at h1
    rw[List.getElem?_append_right (by rw[← La.1];omega),← La.1] at h2
    rw[List.getElem?_map] at h1 h2
    obtain⟨p1,g1,rfl⟩:=Option.map_eq_some_iff.mp h1
    rw[g1] at h2
    cases h2
    exact⟨p1.1,rfl,n3 _ _ (hps p1 (List.mem_of_getElem? g1)).1⟩
  rintro σ G ⟨f,zs,o3,rfl,gf,Lz,sm⟩
  rw[List.length_map,List.take_length,prL_eq wh wl] at Lz
  exact⟨_,rfl,k f zs G gf Lz sm⟩
open L2.Sco (PT PsAt)
theorem zaG {K:PySem.W.Frag}{ψ:Hp→PT→V→Prop}{te:Blk→TE}{l:Addr}{ps:List PT}{cs:St}{H:Hp}{Q:VK}(hl:H l=some (.lst (ps.map fun p=>V.ref p.1))) (hz:ps.length≤1000)
  (hs:∀ (b:Blk) (D:Addr) (p:PT) (H1:Hp) (zs:List V),p∈ps→Same H H1→H1 D=some (.lst zs)→H D=none→∀ Q:VK,(∀ y H2,Same H1 H2→(∀ H3,Ext D H2 H3→ψ H3 p y)→Q y H2)→te b (some (.ref p.1)::cs) H1 Q)
  (k:∀ (D:Addr) (ys:List (PT×V)) (Hf:Hp),Same H Hf→H D=none→Hf D=some (.lst (ys.map (·.2)))→ys.map (·.1)=ps→(∀ y∈ys,ψ Hf y.1 y.2)→Q (.ref D) Hf) :
  ∀ D,H D=none→∀ b:Blk,uc (Itl K l) (xQ 0) UK (te b) Q D (none::cs) (upd H D (.lst [])):=by
 intro D hD b
 refine comp_list (K:=K) (a:=l) (xs:=ps.map fun p=>V.ref p.1) (fun i zs τ F=>∃ (o:Option V) (ys:List (PT×V)),τ=o::cs∧zs=ys.map (·.2)∧ys.map (·.1)=ps.take i∧(∀ y∈ys,∀ H3,Ext D F H3→ψ H3 y.1 y.2)∧F D=some (.lst zs)∧Same H F) ?_ ?_ ?_ ?_
 ·exact⟨none,[],rfl,rfl,rfl,(fun y hy=>nomatch hy),upd_same,Same.new hD⟩
 ·rintro i zs τ F ⟨o,ys,_,_,_,_,_,sm⟩
  exact SqL.of (sm _ _ hl)
 ·rintro i x zs τ F hi ⟨o,ys,rfl,rfl,ey,hy,hF,sm⟩
  rw[List.getElem?_map] at hi
  obtain⟨p,hp,rfl⟩:=Option.map_eq_some_iff.mp hi
  unfold xQ
  refine yes_if ?_
  refine hs b D p F _ (List.mem_of_getElem? hp) sm hF hD _ fun y H2 s2 h2=>?_
  have hlen:ys.length≤ps.length:=by
   have:=congrArg List.length ey
   rw[List.length_map,List.length_take] at this
   omega
  refine⟨s2 _ _ hF,by rw[List.length_map];exact zl (by omega),_,ys++[(p,y)],rfl,by rw[List.map_append];rfl,by rw[List.map_append,ey,List.take_add_one,hp];rfl,fun y' hy' H3 x3=>?_,upd_same,(sm.trans s2).updF hD⟩
  have x2:Ext D H2 H3:=(Ext.at).trans x3
  rcases List.mem_append.mp hy' with z | z
  ·exact hy y' z H3 ((Ext.same s2).trans x2)
  ·rw[List.mem_singleton.mp z]
   exact h2 H3 x2
 ·rintro zs τ F ⟨o,ys,rfl,rfl,ey,hy,hF,sm⟩
  rw[List.length_map,List.take_length] at ey
  exact k D ys F sm hD hF ey fun y h=>hy y h F Ext.refl
def hd1 (l:Addr) (H:Hp):Hp:=fun b=>if b=l then none else H b
theorem yR {l b:Addr}{H:Hp}{o:HO}(h:H b=some o) (n:b≠l):hd1 l H b=some o:=by unfold hd1;rw[if_neg n];exact h
theorem xp {l:Addr}{H H':Hp}(x:Ext l H H'):Same (hd1 l H) (hd1 l H'):=fun b o e=>by
 by_cases c:b=l
 ·unfold hd1 at e;rw[if_pos c] at e;cases e
 ·refine yR (x b o ?_ c) c
  unfold hd1 at e;rw[if_neg c] at e;exact e
theorem wB {l:Addr}{H:Hp}:Same (hd1 l H) H:=fun b o e=>by
 by_cases c:b=l
 ·unfold hd1 at e;rw[if_pos c] at e;cases e
 ·unfold hd1 at e;rw[if_neg c] at e;exact e
theorem nel {l p:Addr}{H:Hp}(hl:H l≠none) (hp:H p=none):p≠l:=fun z=>hl (by rw[← z];exact hp)
theorem V9 {l p:Addr}{H:Hp}{o:HO}(hl:H l≠none) (hp:H p=none):hd1 l (upd H p o) p=some o:=yR upd_same (nel hl hp)
theorem Vu {X:Cx}{rv:PT→Option (LI)}{x0 D:Addr}{ps:List PT}{ys:List (PT×V)}{Hf:Hp}{Q:VK}(hx:Hf x0≠none) (hDf:Hf D=some (.lst (ys.map (·.2)))) (ey:ys.map (·.1)=ps) (hy:∀ y∈ys,∃ q v,y.2=.ref q∧Hf q=some (.tup [.ref y.1.1,v])∧RvAt K (hd1 x0 Hf) v (rv y.1)) (psf:PsAt Hf ps) (hz:ps.length≤132) (hnd:(ps.map (·.2)).Nodup) (hun:X.A.units+5<cLine)
  (k:∀ (d:Addr) (js:List JG) (H':Hp),Same Hf H'→GPp K (hd1 x0 H') d js→jr js=ps.map (fun p=>(p.2,rv p))→Q (.ref d) H'):Wh X [.ref D] Hf Q:=by
 obtain⟨rs,er,hr⟩:∃ rs:List (Addr×PT×V),rs.map (fun r=>(r.2.1,V.ref r.1))=ys∧∀ r∈rs,Hf r.1=some (.tup [.ref r.2.1.1,r.2.2])∧RvAt K (hd1 x0 Hf) r.2.2 (rv r.2.1):=by
  clear ey hDf
  induction ys with
  |nil=>exact⟨[],rfl,fun r hr=>nomatch hr⟩
  |cons y ys ih =>
   obtain⟨rs,e1,e2⟩:=ih fun y h=>hy y (List.mem_cons_of_mem _ h)
   obtain⟨q,v,h1,h2,h3⟩:=hy y List.mem_cons_self
   refine⟨(q,y.1,v)::rs,by rw[List.map_cons,e1];congr 1;exact Prod.ext rfl h1.symm,fun r hr=>?_⟩
   rcases List.mem_cons.mp hr with z | z
   ·rw[z];exact⟨h2,h3⟩
   ·exact e2 r z
 have ep:rs.map (·.2.1)=ps:=by rw[← ey,← er,List.map_map];rfl
 have lrs:rs.length=ps.length:=by rw[← ep,List.length_map]
 refine⟨D,rs.map (·.1),rs.map (·.2.1.1),rs.map fun r=>(yb r.2.1.2,r.2.2),rfl,by rw[hDf,← er,List.map_map,List.map_map];rfl,by simp,by simp,by rw[List.length_map];omega,?_,hun,fun n q b kv a1 a2 a3=>?_,fun d hd=>?_⟩
 ·have:((rs.map fun r=>(yb r.2.1.2,r.2.2)).map (·.1))=(ps.map (·.2)).map yb:=by rw[← ep,List.map_map,List.map_map,List.map_map];rfl
  rw[this]
  exact List.pairwise_map.mpr (hnd.imp fun h e=>h (yn e))
 ·rw[List.getElem?_map] at a1 a2 a3
  obtain⟨r,hr1,rfl⟩:=Option.map_eq_some_iff.mp a1
  rw[hr1] at a2 a3
  cases a2;cases a3
  have hrm:=List.mem_of_getElem? hr1
  exact⟨(hr r hrm).1,(psf r.2.1 (by rw[← ep];exact List.mem_map.mpr ⟨r,hrm,rfl⟩)).1⟩
 ·refine k _ (rs.map fun r=>(r.2.1.2,r.2.2,rv r.2.1)) _ (Same.new hd) ⟨?_,?_,fun j hj=>?_,by rw[List.length_map];omega⟩ ?_
  ·rw[V9 hx hd];unfold kvG;rw[List.map_map];rfl
  ·have:(rs.map fun r=>(r.2.1.2,r.2.2,rv r.2.1)).map (·.1)=ps.map (·.2):=by rw[← ep,List.map_map,List.map_map];rfl
   rw[this]
   exact hnd
  ·obtain⟨r,h1,rfl⟩:=List.mem_map.mp hj
   exact(hr r h1).2.same (xp (Ext.same (Same.new hd)))
  ·unfold jr;rw[List.map_map,← ep,List.map_map];rfl
open L2.Sco (PT PsAt)
theorem RvAt.split {K:PySem.W.Frag}{H:Hp}{v:V}{rv:Option (LI)}(h:RvAt K H v rv):(∃ t,TyOf K H v t∧PySem.W.kitOne K t (.type "list")=some false∧rv.isSome=false)∨∃ ad xs bs,v=.ref ad∧H ad=some (.lst xs)∧WhL K H xs bs∧rv.isSome=bs.all id∧xs.length≤1000:=by
 cases h with
 |itl e z=>exact .inr ⟨_,_,_,rfl,e,WhL.itl _,by rw[show(List.map (fun _=>true) _).all id=true from List.all_eq_true.mpr fun b hb=>by obtain⟨_,_,rfl⟩:=List.mem_map.mp hb;rfl];rfl,by rw[List.length_map];exact z⟩
 |no ty kk=>exact .inl ⟨_,ty,kk,rfl⟩
 |odd e h f z=>exact .inr ⟨_,_,_,rfl,e,h,by rw[List.all_eq_false.mpr ⟨false,f,by simp⟩];rfl,z⟩
def za4 (K:PySem.W.Frag):Sp:=fun vs H Q _=>∃ (v:V) (rv:Option (LI)),vs=[v]∧RvAt K H v rv∧∀ H',Same H H'→Q (.bl rv.isSome) H'
theorem zan (T:Txt w K mg a):FnOk P w K mg base CX0 1 415 (dK K 415) ["_law_thing"] (za4 K):=by
 refine(T.fn 32 rfl).ok (scp 32 rfl) (fun vs H Q E h=>?_) (fun cdv A outer s H vs Q E hr h=>?_)
 ·obtain⟨v,rv,rfl,_⟩:=h
  rfl
 ·obtain⟨v,rv,rfl,hv,k⟩:=h
  have un:∀ n:Nat,n≤3→(A.deeper (PyProof.Rows.envOfC "_law_is_list" (defScope (top 45)) s.heap.objs.size 415 cdv)).units+n+2<cLine:=fun n hn=>by
   have:=hr.units
   omega
  refine yd (zb (zB (zO (zG (zj zM (by rfl) (T.n 3 rfl) zq (zd (zh 0) (zd (zZ (T.n 4 rfl) bt_list) za)))))
    (zg (zi zI))
    zp)
   (zg (zi (yg (wq Yr Ys) (yo rfl (N':=["_law_one"]) (t:=1) (caps:=[]) ⟨rfl,rfl,rfl⟩ (zE (zh 0)) (fun _=>(zn (i:=0) (show(["_law_one"]:List Str).Nodup by decide +kernel) rfl (Or.inl rfl))) (fun _=>(xi (wJ (yt (zO (zG (zj zM (by rfl) (T.n 3 rfl) zq (zd (zh 0) (zd (zZ (T.n 1 rfl) Zr) za))))) (yq (zG (zj zM (by rfl) (T.n 3 rfl) zq (zd (zh 0) (zd (zZ (T.n 8 rfl) wD) za))))))))) (fun _=>(zh 0))) (zA za) (zC _))))) ?_
  rcases hv.split with⟨t,ty,kk,e0⟩ | ⟨ad,xs,bs,rfl,e,hw,ers,z1000⟩
  ·rw[e0] at k
   exact⟨_,rfl,_,_,_,_,_,rfl,rfl,ty,kk,_,rfl,iteB rfl (k H (Same.refl H))⟩
  rw[ers] at k
  have hlen:=Paired.length hw
  refine⟨_,rfl,_,_,_,_,_,rfl,rfl,.lst e,(T.k 2 rfl),_,rfl,iteN rfl ?_⟩
  refine⟨_,rfl,ad,rfl,⟨_,SqL.of e⟩,fun D hD _=>?_⟩
  refine comp_list (K:=K) (a:=ad) (xs:=xs) (fun i zs τ F=>∃ o:Option V,τ=[o]∧zs.length≤i∧(zs=[]↔(bs.take i).all id=true)∧F D=some (.lst zs)∧Same H F∧i≤xs.length) ?_ ?_ ?_ ?_
  ·exact⟨none,rfl,Nat.le_refl _,by simp,upd_same,Same.new hD,Nat.zero_le _⟩
  ·rintro i zs τ F ⟨_,_,_,_,_,sm,_⟩
   exact SqL.of (sm _ _ e)
  ·rintro i x zs τ F hi ⟨o,rfl,lz,hz,hDF,sm,hil⟩
   have hil':i<xs.length:=(List.getElem?_eq_some_iff.mp hi).1
   obtain⟨b,hb,hx⟩:=(hw.same sm).get hi
   have etk:(bs.take (i+1)).all id=((bs.take i).all id&&b):=by rw[List.take_add_one,hb,List.all_append];simp
   unfold xQ
   cases hx with
   |int m =>
    refine⟨_,rfl,_,_,_,_,_,rfl,rfl,.int m,(T.k 0 rfl),_,rfl,iteN rfl ?_⟩
    refine⟨_,rfl,_,_,_,_,_,rfl,rfl,.int m,(T.k 1 rfl),_,rfl,iteN rfl ?_⟩
    exact⟨_,rfl,by omega,by rw[etk,Bool.and_true];exact hz,hDF,sm,hil'⟩
   |bl b =>
    refine⟨_,rfl,_,_,_,_,_,rfl,rfl,.bl b,(T.k 25 rfl),_,rfl,iteN rfl ?_⟩
    refine⟨_,rfl,_,_,_,_,_,rfl,rfl,.bl b,(T.k 17 rfl),_,rfl,xn ?_⟩
    exact⟨_,rfl,hDF,zl (by omega),_,rfl,by rw[List.length_append];simp;omega,by rw[etk,Bool.and_false];simp,upd_same,sm.updF hD,hil'⟩
   |no ty kk =>
    refine⟨_,rfl,_,_,_,_,_,rfl,rfl,ty,kk,_,rfl,xn (xn ?_)⟩
    exact⟨_,rfl,hDF,zl (by omega),_,rfl,by rw[List.length_append];simp;omega,by rw[etk,Bool.and_false];simp,upd_same,sm.updF hD,hil'⟩
  ·rintro zs τ F ⟨o,rfl,lz,hz,hDF,sm,_⟩
   rw[hlen,List.take_length] at hz
   refine⟨(by show 0≤sizeLine;decide),fun e2 he2=>?_⟩
   have se:=Same.new (o:=HO.lst []) he2
   have hk:=k _ (sm.trans se)
   by_cases c:zs=[]
   ·rw[hz.mp c] at hk
    exact .inl ⟨D,e2,[],[],fun _=>true,0,rfl,rfl,.inl ⟨SqL.of (by have:=se _ _ hDF;rw[c] at this;exact this),SqL.of upd_same⟩,rfl,un 0 (by omega),(fun j x y h=>by simp at h),hk⟩
   ·have:bs.all id=false:=by
     cases hh:bs.all id with
     |false=>rfl
     |true=>exact absurd (hz.mpr hh) c
    rw[this] at hk
    exact .inr ⟨D,e2,zs,[],rfl,rfl,SqL.of (se _ _ hDF),SqL.of upd_same,(fun z=>c (List.length_eq_zero_iff.mp z)),Nat.lt_of_le_of_lt (Nat.le_add_right _ 2) (un 0 (by omega)),hk⟩
def DuB (qs:LP) (pf:Int→Option Int) (bs:LP) (js:List JR):Prop:=(∀ j∈js,j.1∈qs)∧js.length=qs.length∧∀ j∈js,∃ l,j.2=some l∧l∈rfs (paO pf) (dbl (srt bs)) j.1.1 j.1.2
def za9 (K:PySem.W.Frag) (n:Nat):Sp:=fun vs H Q _=>∃ (lp d lb:Addr) (v:V) (o:Option (List JR)) (rs rb:List V) (qs bs:LP) (us:LI) (pf:Int→Option Int),vs=[.ref lp,v,.ref d,.ref lb]∧DcG K n H v o∧H lp=some (.lst rs)∧LnAt H rs qs∧qs.Nodup∧qs.length=n∧n≤132∧H d=some (.dK (tabV (fun x=>opV (pf x)) us))∧us.length≤12∧UpP us pf (paO pf)∧H lb=some (.lst rb)∧LnAt H rb bs∧Bd bs∧bs.length≤63∧(∀ q∈bs,q.1∈us∧q.2∈us)∧(∀ q∈qs,q.1∈us∧q.2∈us) ∧
 ∀ (b:Bool) (H':Hp),(b=true↔∃ js,o=some js∧DuB qs pf bs js)→Same H H'→Q (.bl b) H'
theorem zat {n:Nat}(T:Txt w K mg a):FnOk P w K mg base CX0 3 420 (dK K 420) ["_law_pairs_here", "_law_paper", "_law_parents", "_law_bridges"] (za9 K n):=by
 have c__law_is_list:Callee P w K mg base "_law_is_list" 415 (dK K 415) ["_law_thing"] 1 (za4 K):=⟨zan T,(T.g 32 rfl),(T.fn 32 rfl).kp,(T.bi 32 rfl)⟩
 have c__law_roads:Callee P w K mg base "_law_roads" 400 (dK K 400) ["_law_parents", "_law_bridges", "_law_hand", "_law_other"] 2 VW:=⟨Vh T,(T.g 29 rfl),(T.fn 29 rfl).kp,(T.bi 29 rfl)⟩
 refine(T.fn 33 rfl).ok (scp 33 rfl) (fun vs H Q E h=>?_) (fun cdv A outer s H vs Q E hr h=>?_)
 ·obtain⟨lp,d,lb,v,o,rs,rb,qs,bs,us,pf,rfl,_⟩:=h
  rfl
 ·obtain⟨lp,d,lb,v,o,rs,rb,qs,bs,us,pf,rfl,dc,hlp,L,qnd,qn,n132,hd,l12,U,hlb,Lb,Bb,b63,bin,qin,k⟩:=h
  have hu:=xo hr
  have un:∀ n:Nat,n≤3→(A.deeper (PyProof.Rows.envOfC "_law_due" (defScope (top 46)) s.heap.objs.size 420 cdv)).units+n+2<cLine:=fun n hn=>by
   have:=hr.units
   omega
  have no:∀ {H'},Same H H'→(∀ js,o=some js→¬DuB qs pf bs js)→Q (.bl false) H':=fun s h=>k false _ ⟨fun z=>(nomatch z),fun⟨js,h1,h2⟩=>absurd h2 (h js h1)⟩ s
  have lr:=L.1
  obtain⟨ps,e1,e2,e3⟩:=L.prs
  refine yd (zb (zB (wJ (yt (zo uv (zj (UG wV Y5) (by rfl) (T.n 0 rfl) yh (zd (zh 1) za)) (zj zw (by rfl) (T.n 0 rfl) yh (zd (zh 0) za)) (zC _)) (yq (zo (wq Yp Yq) (yo rfl (N':=["_law_pair", "_law_paper"]) (t:=1) (caps:=[1]) ⟨rfl,rfl,rfl⟩ (zE (zh 0)) (fun _=>(zn (i:=0) (show(["_law_pair", "_law_paper"]:List Str).Nodup by decide +kernel) rfl (Or.inl rfl))) (fun _=>(xi (xY (wg hu (zh 0) (zh 1))))) (fun _=>(zh 0))) (zA za) (zC _)))))
    (zg (zi zI))
    zp)
   (zb (zR PassesOwn.never rfl (zE (zh 0)) (yk rfl (zy (zn (i:=4) (scp 33 rfl).nd rfl (Or.inl rfl)) (zy (zn (i:=5) (scp 33 rfl).nd rfl (Or.inl rfl)) zY)))
    (zb (zm (i:=6) (scp 33 rfl).nd rfl (Or.inl rfl) (yL hu (zh 1) (zJ (zd (zh 4) (zd (zh 5) za))) (fun _ _=>rfl)))
    (zg (zB (wJ (yt (zO (zG (zr c__law_is_list hr.m (zd (zh 6) za)))) (yq (zo vR (zh 6) (zr c__law_roads hr.m (zd (zh 2) (zd (zh 3) (zd (zh 4) (zd (zh 5) za))))) (by with_unfolding_all rfl)))))
     (zg (zi zI))
     zp))))
   (zg (zi zI)))) ?_
  refine⟨_,rfl,?_⟩
  have sub:∀ {js:List JG},(js.map (·.1)).Nodup→DuB qs pf bs (jr js)→∀ q∈qs,q∈js.map (·.1):=fun {js} nd h=>Z3 nd qnd (fun x hx=>by obtain⟨j,hj,rfl⟩:=List.mem_map.mp hx;exact h.1 _ (List.mem_map.mpr ⟨j,hj,rfl⟩)) (by have:=h.2.1;unfold jr at this;rw[List.length_map] at this;rw[List.length_map];exact this)
  have com:∀ {f:Addr}{kvs:List (List Key×V)}{H0:Hp}{R:Bool→Hp→Prop},H0 f=some (.dT kvs)→H0=H→(∀ H',Same H H'→(¬∀ q∈qs,(yM kvs (yb q)).isSome=true)→R true H')→(∀ H',Same H H'→(∀ q∈qs,(yM kvs (yb q)).isSome=true)→R false H') →
    Xm (tOp (fun x y H Q=>U6 K (A.deeper (PyProof.Rows.envOfC "_law_due" (defScope (top 46)) s.heap.objs.size 420 cdv)) true x y H Q∨zbj K (A.deeper (PyProof.Rows.envOfC "_law_due" (defScope (top 46)) s.heap.objs.size 420 cdv)) x y H Q) (WM (Vp K (ya 0)) (fun _=>xQ 0) (fun _=>tB (Z2 (ya 0) (ya 1))) (fun _=>ya 0) 1 [1]) (ud yQ)) [some (.ref lp),some (.ref f),some (.ref d),some (.ref lb),none,none,none] H0 R:=by
   intro f kvs H0 R e eH k1 k2
   subst eH
   refine⟨_,rfl,lp,rfl,⟨_,SqL.of hlp⟩,fun D hD _=>?_⟩
   refine comp_list (K:=K) (a:=lp) (xs:=rs) (fun i zs τ F=>∃ o:Option V,τ=[o,some (.ref f)]∧zs.length≤i∧(zs=[]↔∀ q∈qs.take i,(yM kvs (yb q)).isSome=true)∧F D=some (.lst zs)∧Same H0 F∧i≤rs.length) ?_ ?_ ?_ ?_
   ·exact⟨none,rfl,Nat.le_refl _,by simp,upd_same,Same.new hD,Nat.zero_le _⟩
   ·rintro i zs τ F ⟨_,_,_,_,_,sm,_⟩
    exact SqL.of (sm _ _ hlp)
   ·rintro i x zs τ F hi ⟨o,rfl,lz,hz,hDF,sm,hil⟩
    have hil':i<rs.length:=(List.getElem?_eq_some_iff.mp hi).1
    obtain⟨q,t,hp,rfl,ht⟩:=(L.same sm).get hi
    have etk:qs.take (i+1)=qs.take i++[q]:=by rw[List.take_add_one,hp];rfl
    unfold xQ
    refine⟨_,rfl,_,rfl,f,_,rfl,DGet.t (k:=yb q) (sm _ _ e) ht,_,rfl,?_⟩
    cases hv:(yM kvs (yb q)).isSome with
    |true =>
     refine iteN rfl ⟨_,rfl,by omega,?_,hDF,sm,hil'⟩
     rw[etk,hz]
     constructor
     ·intro h q' hq'
      rcases List.mem_append.mp hq' with z | z
      ·exact h q' z
      ·rw[List.mem_singleton.mp z];exact hv
     ·exact fun h q' hq'=>h q' (List.mem_append.mpr (.inl hq'))
    |false =>
     refine xn ⟨_,rfl,hDF,zl (by omega),_,rfl,by rw[List.length_append];simp;omega,?_,upd_same,sm.updF hD,hil'⟩
     rw[etk]
     constructor
     ·intro h;simp at h
     ·intro h
      have:=h q (List.mem_append.mpr (.inr (List.mem_singleton.mpr rfl)))
      rw[hv] at this
      cases this
   ·rintro zs τ F ⟨o,rfl,lz,hz,hDF,sm,_⟩
    rw[lr,List.take_length] at hz
    refine⟨(by show 0≤sizeLine;decide),fun e2 he2=>?_⟩
    have se:=Same.new (o:=HO.lst []) he2
    by_cases c:zs=[]
    ·exact .inl ⟨D,e2,[],[],fun _=>true,0,rfl,rfl,.inl ⟨SqL.of (by have:=se _ _ hDF;rw[c] at this;exact this),SqL.of upd_same⟩,rfl,un 0 (by omega),(fun j x y h=>by simp at h),_,rfl,k2 _ (sm.trans se) (hz.mp c)⟩
    ·exact .inr ⟨D,e2,zs,[],rfl,rfl,SqL.of (se _ _ hDF),SqL.of upd_same,(fun z=>c (List.length_eq_zero_iff.mp z)),Nat.lt_of_le_of_lt (Nat.le_add_right _ 2) (un 0 (by omega)),_,rfl,k1 _ (sm.trans se) fun h=>c (hz.mpr h)⟩
  cases dc with
  |odd hm e o hp hn ty kk =>
   rename_i f od ps0 y t
   refine .inr ⟨f,od,_,rfl,hm,e,o,by rw[List.length_append,List.length_map,hn];show n+1<1000;omega,_,rfl,lp,rs,rfl,.inl (SqL.of hlp),rfl,_,rfl,iteB ?_ (no (Same.refl _) fun js e=>by cases e)⟩
   rw[List.length_append,List.length_map,hn,lr,qn]
   simp
   omega
  |bad e hb nd =>
   rename_i f js kb vb
   have hlk:(kvG js++[(kb,vb)]).length=js.length+1:=by rw[List.length_append];unfold kvG;rw[List.length_map];rfl
   refine .inl ⟨f,_,rfl,e,_,rfl,lp,rs,rfl,.inl (SqL.of hlp),rfl,_,rfl,?_⟩
   by_cases c:js.length+1=n
   ·refine iteN (by rw[hlk,lr,qn,c];simp) ?_
    refine com e rfl (fun H' s' _=>xn (no s' fun js e=>by cases e)) fun H' s' hall=>?_
    exfalso
    have hsub:∀ q∈qs,q∈js.map (·.1):=fun q hq=>by
     have h1:=hall q hq
     rw[← yD] at h1
     obtain⟨kv,hm,hk⟩:=List.any_eq_true.mp h1
     have hk:=of_decide_eq_true hk
     rcases List.mem_append.mp hm with z | z
     ·obtain⟨j,hj,rfl⟩:=List.mem_map.mp z
      exact List.mem_map.mpr ⟨j,hj,yn hk⟩
     ·rw[List.mem_singleton.mp z] at hk
      exact absurd hk (hb q)
    have:=vV qnd hsub
    rw[List.length_map] at this
    omega
   ·refine iteB ?_ (no (Same.refl _) fun js e=>by cases e)
    rw[hlk,lr,qn]
    simp
    omega
  |pap pp =>
   rename_i f js
   have hlk:(kvG js).length=js.length:=by unfold kvG;rw[List.length_map]
   refine .inl ⟨f,_,rfl,pp.dd,_,rfl,lp,rs,rfl,.inl (SqL.of hlp),rfl,_,rfl,?_⟩
   by_cases c:js.length=n
   case neg =>
    refine iteB ?_ (no (Same.refl _) fun js' e h=>?_)
    ·rw[hlk,lr,qn]
     simp
     omega
    ·cases e
     have:=h.2.1
     unfold jr at this
     rw[List.length_map,qn] at this
     exact c this
   refine iteN (by rw[hlk,lr,qn,c];simp) ?_
   refine com pp.dd rfl (fun H' s' hne=>xn (no s' fun js' e h=>?_)) fun H' s' hall=>iteN rfl ?_
   ·cases e
    refine hne fun q hq=>?_
    obtain⟨j,hj,rfl⟩:=List.mem_map.mp (sub pp.nd h q hq)
    rw[uE pp.nd hj]
    rfl
   have qk:∀ q∈qs,∃ j∈js,j.1=q:=fun q hq=>by
    have h1:=hall q hq
    rw[← yD] at h1
    obtain⟨kv,hm,hk⟩:=List.any_eq_true.mp h1
    have hk:=of_decide_eq_true hk
    obtain⟨j,hj,rfl⟩:=List.mem_map.mp hm
    exact⟨j,hj,yn hk⟩
   have kq:∀ j∈js,j.1∈qs:=fun j hj=>Z3 qnd pp.nd (fun x hx=>by obtain⟨j,hj,rfl⟩:=qk x hx;exact List.mem_map.mpr ⟨j,hj,rfl⟩) (by rw[List.length_map,qn,c]) _ (List.mem_map.mpr ⟨j,hj,rfl⟩)
   have hlp':=s' _ _ hlp
   refine⟨_,rfl,lp,rfl,⟨_,SqL.of hlp'⟩,?_⟩
   refine for_list (xs:=rs) (fun i σ G=>∃ (o4 o5 o6:Option V),σ=[some (.ref lp),some (.ref f),some (.ref d),some (.ref lb),o4,o5,o6]∧Same H G∧∀ j∈js,j.1∈qs.take i→∃ l,j.2.2=some l∧l∈rfs (paO pf) (dbl (srt bs)) j.1.1 j.1.2) ?_ ?_ ?_ ?_
   ·exact⟨none,none,none,rfl,s',fun j _ hj=>by simp at hj⟩
   ·rintro i σ G hi ⟨o4,o5,o6,_,sm,_⟩
    exact SqL.of (sm _ _ hlp)
   ·rintro i u σ G hi ⟨o4,o5,o6,rfl,sm,gd⟩
    obtain⟨⟨x,y⟩,t,hp,rfl,ht⟩:=(L.same sm).get hi
    have hxy:=List.mem_of_getElem? hp
    obtain⟨hx,hy⟩:=qin _ hxy
    dsimp only at ht hx hy
    have etk:qs.take (i+1)=qs.take i++[(x,y)]:=by rw[List.take_add_one,hp];rfl
    obtain⟨j,hj,ej⟩:=qk _ hxy
    refine⟨t,_,rfl,SqT.of ht,rfl,_,_,rfl,_,_,rfl,rfl,?_⟩
    refine⟨_,rfl,_,rfl,_,rfl,(by show 2≤sizeLine;decide),fun kt hkt=>?_⟩
    have s6:=Same.new (o:=HO.tup [V.int x,V.int y]) hkt
    have hk6:=upd_same (H:=G) (a:=kt) (o:=HO.tup [V.int x,V.int y])
    generalize upd G kt (HO.tup [V.int x,V.int y])=G6 at *
    have s06:=sm.trans s6
    have pp6:=pp.same s06
    have hval:some j.2.1=yM (kvG js) (yb (x,y)):=by rw[← ej];exact(uE pp.nd hj).symm
    refine⟨f,j.2.1,rfl,by rw[hval];exact DGet.t (k:=yb (x,y)) pp6.dd hk6,?_⟩
    refine⟨_,rfl,j.2.1,j.2.2,rfl,pp6.row j hj,fun G7 s7=>⟨_,rfl,?_⟩⟩
    have s07:=s06.trans s7
    have hjr:(j.1,j.2.2)∈jr js:=List.mem_map.mpr ⟨j,hj,rfl⟩
    have hrow:=pp.row j hj
    cases hrv:j.2.2 with
    |none =>
     refine iteB rfl (no s07 fun js' e' h=>?_)
     cases e'
     obtain⟨l,h1,_⟩:=h.2.2 _ hjr
     rw[hrv] at h1
     cases h1
    |some lt =>
     rw[hrv] at hrow
     obtain⟨ad,ead,hrow⟩:∃ ad,j.2.1=.ref ad∧H ad=some (.lst (lt.map V.int)):=by
      generalize j.2.1=vv at hrow ⊢
      cases hrow with
      |itl e _=>exact⟨_,rfl,e⟩
     refine iteN rfl ?_
     refine⟨_,rfl,_,rfl,_,rfl,_,rfl,_,rfl,d,lb,pf,paO pf,us,rb,bs,x,y,rfl,s07 _ _ hd,l12,U,s07 _ _ hlb,Lb.same s07,Bb,b63,bin,hx,hy,fun lr2 G8 hlr ll8 s8=>?_⟩
     obtain⟨ps8,a1,a2,a3⟩:=ll8
     have s08:=s07.trans s8
     rw[ead]
     refine⟨lr2,ad,ps8,lt,rfl,rfl,SqL.of a1,(fun p hp=>(a2 p hp).1),s08 _ _ hrow,zaN hr,_,rfl,?_⟩
     rw[a3]
     by_cases c2:lt∈rfs (paO pf) (dbl (srt bs)) x y
     ·refine iteN (by rw[decide_eq_true c2];rfl) ⟨_,_,_,rfl,s08,fun j' hj' hm'=>?_⟩
      rw[etk] at hm'
      rcases List.mem_append.mp hm' with z | z
      ·exact gd j' hj' z
      ·have z:=List.mem_singleton.mp z
       have:=wT pp.nd hj' hj (z.trans ej.symm)
       rw[this,ej]
       exact⟨lt,hrv,c2⟩
     ·refine iteB (by rw[decide_eq_false c2];rfl) (no s08 fun js' e' h=>?_)
      cases e'
      obtain⟨l',h1,h2⟩:=h.2.2 _ hjr
      rw[hrv] at h1
      cases h1
      rw[ej] at h2
      exact c2 h2
   ·rintro σ G ⟨o4,o5,o6,rfl,sm,gd⟩
    refine k true _ ⟨fun _=>⟨_,rfl,fun j hj=>?_,by unfold jr;rw[List.length_map,c,qn],fun j hj=>?_⟩,fun _=>rfl⟩ sm
    ·obtain⟨j',hj',rfl⟩:=List.mem_map.mp hj
     exact kq j' hj'
    ·obtain⟨j',hj',rfl⟩:=List.mem_map.mp hj
     exact gd j' hj' (by rw[List.take_of_length_le (by omega)];exact kq j' hj')
open L2.Sco (PT PsAt)
abbrev Phi:=Hp→V→Prop
structure Stb (φ:Phi):Prop where
 to:∀ {H H':Hp}{v:V},Same H H'→φ H v→φ H' v
section
variable {σ:St}{H:Hp}{φ:Phi}
def Gv (σ:St) (H:Hp) (φ:Phi) (te:TE):Prop:=∀ H1,Same H H1→∀ Q:VK,(∀ v H2,Same H1 H2→φ H2 v→Q v H2)→te σ H1 Q
def GvA (σ:St) (H:Hp) (φ:Phi) (n:Nat) (t:TA):Prop:=∀ H1,Same H H1→∀ Q:List V→Hp→Prop,(∀ rs H2,Same H1 H2→rs.length=n→(∀ v∈rs,φ H2 v)→Q rs H2)→t σ H1 Q
theorem Zk:GvA σ H φ 0 yQ:=fun H1 _ Q k=>k [] H1 (Same.refl _) rfl fun v hv=>nomatch hv
theorem zN {n:Nat}{te:TE}{t:TA}(st:Stb φ) (h:Gv σ H φ te) (ht:GvA σ H φ n t):GvA σ H φ (n+1) (zD te t):=fun H1 s Q k=>h H1 s _ fun v H2 s2 hv=>ht H2 (s.trans s2) _ fun rs H3 s3 hl hr=>k _ _ (s2.trans s3) (by rw[List.length_cons,hl]) fun u hu=>by
 rcases List.mem_cons.mp hu with z | z
 ·rw[z];exact st.to s3 hv
 ·exact hr u z
theorem Wy {x:V}(h:∀ H,φ H x):Gv σ H φ (tC x):=fun H1 _ Q k=>k _ _ (Same.refl _) (h _)
theorem vY {i:Nat}{v:V}(e:σ[i]?=some (some v)) (st:Stb φ) (h:φ H v):Gv σ H φ (ya i):=fun H1 s Q k=>⟨v,e,k v H1 (Same.refl _) (st.to s h)⟩
end
theorem WhL.all {K:PySem.W.Frag}{H:Hp}:∀ {xs:List V}{bs:List Bool},WhL K H xs bs→bs.all id=true→∃ l:LI,xs=l.map V.int
 |_,_,.nil,_=>⟨[],rfl⟩
 |_,_,.cons (b:=b) h t,e=>by
  rw[List.all_cons,Bool.and_eq_true] at e
  obtain⟨l,rfl⟩:=WhL.all t e.2
  have e1:b=true:=e.1
  subst e1
  cases h with
  |int i=>exact⟨i::l,rfl⟩
theorem rvL {K:PySem.W.Frag}{H:Hp}{ad:Addr}{xs:List V}{bs:List Bool}(e:H ad=some (.lst xs)) (h:WhL K H xs bs) (z:xs.length≤1000):∃ rv,RvAt K H (.ref ad) rv:=by
 cases hb:bs.all id with
 |true =>
  obtain⟨l,rfl⟩:=h.all hb
  rw[List.length_map] at z
  exact⟨_,.itl e z⟩
 |false =>
  obtain⟨b,h1,h2⟩:=List.all_eq_false.mp hb
  have:b=false:=by cases b<;>simp at h2 ⊢
  subst this
  exact⟨_,.odd e h h1 z⟩
theorem TyOf.updL {K:PySem.W.Frag}{G:Hp}{v:V}{t:Value}{r:Addr}{xs ys:List V}(h:TyOf K G v t) (hr:G r=some (.lst xs)):TyOf K (upd G r (.lst ys)) v t:=by
 have ne:∀ {b:Addr}{o:HO},G b=some o→(∀ zs,o≠.lst zs)→upd G r (.lst ys) b=some o:=fun {b o} e n=>by
  rw[upd_ne fun z=>by rw[z,hr] at e;injection e with e;exact n _ e.symm]
  exact e
 cases h with
 |non=>exact .non
 |bl x=>exact .bl x
 |int i=>exact .int i
 |str x=>exact .str x
 |flt x=>exact .flt x
 | @lst a zs e =>
  by_cases c:a=r
  ·rw[c];exact .lst upd_same
  ·exact .lst (by rw[upd_ne c];exact e)
 |frz e=>exact .frz (ne e fun _ z=>by cases z)
 |tup e=>exact .tup (ne e fun _ z=>by cases z)
 |dK e=>exact .dK (ne e fun _ z=>by cases z)
 |dT e=>exact .dT (ne e fun _ z=>by cases z)
 |ins e a b c d f=>exact .ins (ne e fun _ z=>by cases z) a b c d f
 |odd e x=>exact .odd (ne e fun _ z=>by cases z) x
theorem WhL.updL {K:PySem.W.Frag}{G:Hp}{zs:List V}{bs:List Bool}{r:Addr}{xs ys:List V}(h:WhL K G zs bs) (hr:G r=some (.lst xs)):WhL K (upd G r (.lst ys)) zs bs:=Paired.mapP h fun a b h=>by
 cases h with
 |int i=>exact .int i
 |bl b=>exact .bl b
 |no ty kk=>exact .no (TyOf.updL ty hr) kk
abbrev JP:=(Int×Int)×Addr×List Int
structure Ot (H G:Hp) (l f:Addr) (qs:LP) (ms:List JP):Prop where
 dd:G f=some (.dT (kvP ms))
 row:∀ m∈ms,G m.2.1=some (.lst (m.2.2.map V.int))
 nda:(ms.map (·.2.1)).Nodup
 ks:ms.map (·.1)=qs
 qnd:qs.Nodup
 q1:qs.length≤100
 len:∀ m∈ms,1≤m.2.2.length∧m.2.2.length≤100
 x:XsAt G l
 y:Ext l H G
 ff:H f=none
 fr:∀ m∈ms,H m.2.1=none
 fl:f≠l
 rl:∀ m∈ms,m.2.1≠l
theorem Ot.rf {H G:Hp}{l f:Addr}{qs:LP}{ms:List JP}(o:Ot H G l f qs ms){m:JP}(hm:m∈ms):m.2.1≠f:=fun z=>by
 have:=o.row m hm
 rw[z,o.dd] at this
 cases this
theorem Ot.ext {H G G':Hp}{l f:Addr}{qs:LP}{ms:List JP}(o:Ot H G l f qs ms) (e:Ext l G G') (x:XsAt G' l):Ot H G' l f qs ms :=
 { o with dd:=e _ _ o.dd o.fl,row:=fun m hm=>e _ _ (o.row m hm) (o.rl m hm),x:=x,y:=o.y.trans e }
theorem Ot.same {H G G':Hp}{l f:Addr}{qs:LP}{ms:List JP}(o:Ot H G l f qs ms) (s:Same G G'):Ot H G' l f qs ms:=o.ext (Ext.same s) (o.x.same s)
def Rs (K:PySem.W.Frag) (n:Nat) (H:Hp) (l f:Addr):Hp→Prop:=fun G=>(∃ o,DcG K n G (.ref f) o)∧Ext l H G
theorem uD {ms:List JP}:kvP ms=kvG (ms.map fun m=>(m.1,.ref m.2.1,some m.2.2)):=by unfold kvP kvG;rw[List.map_map];rfl
theorem Ot.put {K:PySem.W.Frag}{n:Nat}{H G G':Hp}{l f:Addr}{qs:LP}{ms:List JP}(o:Ot H G l f qs ms){m:JP}(hm:m∈ms){v:V}{rv:Option (LI)}(d:G' f=some (.dT (putK (kvP ms) (yb m.1) v))) (hv:RvAt K G' v rv) (ho:∀ m'∈ms,m'.1≠m.1→G' m'.2.1=G m'.2.1) (y:Ext l H G'):Rs K n H l f G':=by
 refine⟨⟨_,.pap (js:=ms.map fun m'=>if m'.1=m.1 then(m'.1,v,rv) else(m'.1,.ref m'.2.1,some m'.2.2)) ⟨?_,?_,fun j hj=>?_,?_⟩⟩,y⟩
 ·rw[d]
  congr 2
  unfold putK
  have hany:((kvP ms).any fun kv=>decide (kv.1=yb m.1))=true:=List.any_eq_true.mpr ⟨(yb m.1,.ref m.2.1),List.mem_map.mpr ⟨m,hm,rfl⟩,decide_eq_true rfl⟩
  rw[if_pos hany]
  unfold kvP kvG
  rw[List.map_map,List.map_map]
  refine List.map_congr_left fun m' _=>?_
  show(if yb m'.1=yb m.1 then _ else _)=_
  by_cases c:m'.1=m.1
  ·rw[if_pos (by rw[c])]
   show _=(yb (ite (m'.1=m.1) _ _:JG).1,(ite (m'.1=m.1) _ _:JG).2.1)
   rw[if_pos c]
  ·rw[if_neg fun z=>c (yn z)]
   show _=(yb (ite (m'.1=m.1) _ _:JG).1,(ite (m'.1=m.1) _ _:JG).2.1)
   rw[if_neg c]
 ·rw[List.map_map]
  have:((fun j:JG=>j.1)∘fun m':JP=>(if m'.1=m.1 then(m'.1,v,rv) else(m'.1,.ref m'.2.1,some m'.2.2):JG))=fun m'=>m'.1:=by
   funext m'
   show(ite (m'.1=m.1) _ _:JG).1=_
   by_cases c:m'.1=m.1
   ·rw[if_pos c]
   ·rw[if_neg c]
  rw[this,o.ks]
  exact o.qnd
 ·obtain⟨m',hm',rfl⟩:=List.mem_map.mp hj
  by_cases c:m'.1=m.1
  ·rw[if_pos c];exact hv
  ·rw[if_neg c]
   exact .itl (by rw[ho m' hm' c];exact o.row m' hm') (Nat.le_trans (o.len m' hm').2 (by decide))
 ·rw[List.length_map,← List.length_map (f:=(·.1)),o.ks]
  exact Nat.le_trans o.q1 (by decide)
theorem Ot.nd {H G:Hp}{l f:Addr}{qs:LP}{ms:List JP}(o:Ot H G l f qs ms):(ms.map (·.1)).Nodup:=by rw[o.ks];exact o.qnd
theorem Ot.putF {H G:Hp}{l f:Addr}{qs:LP}{ms:List JP}(o:Ot H G l f qs ms){u:HO}:Ext l H (upd G f u):=fun b p e n=>by
 rw[upd_ne (ne_of_none e o.ff)]
 exact o.y b p e n
theorem Ot.mut {K:PySem.W.Frag}{n:Nat}{H G:Hp}{l f:Addr}{qs:LP}{ms:List JP}(o:Ot H G l f qs ms){m:JP}(hm:m∈ms){xs:List V}{bs:List Bool}(hw:WhL K G xs bs) (hz:xs.length≤1000):Rs K n H l f (upd G m.2.1 (.lst xs)):=by
 obtain⟨rv,hv⟩:=rvL (K:=K) (H:=upd G m.2.1 (.lst xs)) upd_same (hw.updL (o.row m hm)) hz
 refine o.put hm (v:=.ref m.2.1) (rv:=rv) ?_ hv (fun m' hm' c=>upd_ne fun z=>c ?_) fun b p e n=>by rw[upd_ne (ne_of_none e (o.fr m hm))];exact o.y b p e n
 ·rw[upd_ne (o.rf hm).symm,o.dd]
  congr 2
  unfold putK
  have hany:((kvP ms).any fun kv=>decide (kv.1=yb m.1))=true:=List.any_eq_true.mpr ⟨(yb m.1,.ref m.2.1),List.mem_map.mpr ⟨m,hm,rfl⟩,decide_eq_true rfl⟩
  rw[if_pos hany]
  unfold kvP
  rw[List.map_map]
  refine List.map_congr_left fun m' hm'=>?_
  show _=(if yb m'.1=yb m.1 then _ else _)
  by_cases c:m'.1=m.1
  ·rw[if_pos (by rw[c]),wT o.nd hm' hm c]
  ·rw[if_neg fun z=>c (yn z)]
 ·exact congrArg Prod.fst (wT (f:=(·.2.1)) o.nda hm' hm z)
theorem Ot.putQ {K:PySem.W.Frag}{n:Nat}{H G:Hp}{l f:Addr}{qs:LP}{ms:List JP}(o:Ot H G l f qs ms){q:Int×Int}{v:V}{rv:Option (LI)}(hv:RvAt K (upd G f (.dT (putK (kvP ms) (yb q) v))) v rv):Rs K n H l f (upd G f (.dT (putK (kvP ms) (yb q) v))):=by
 by_cases c:q∈ms.map (·.1)
 ·obtain⟨m,hm,rfl⟩:=List.mem_map.mp c
  exact o.put hm upd_same hv (fun m' hm' _=>upd_ne (o.rf hm')) o.putF
 ·have hnew:yb q∉(kvP ms).map (·.1):=by
   rw[wc]
   intro z
   obtain⟨q',h1,h2⟩:=List.mem_map.mp z
   rw[yn h2] at h1
   exact c h1
  refine⟨⟨_,.pap (js:=(ms.map fun m=>(m.1,.ref m.2.1,some m.2.2))++[(q,v,rv)]) ⟨?_,?_,fun j hj=>?_,?_⟩⟩,o.putF⟩
  ·rw[upd_same,putK_new hnew,uD]
   unfold kvG
   rw[List.map_append]
   rfl
  ·rw[List.map_append,List.map_map,List.nodup_append]
   refine⟨o.nd,by simp,fun x hx y hy e=>c ?_⟩
   have hy:y=q:=List.mem_singleton.mp hy
   have hx:x∈ms.map (·.1):=hx
   rw[← hy,← e]
   exact hx
  ·rcases List.mem_append.mp hj with z | z
   ·obtain⟨m',hm',rfl⟩:=List.mem_map.mp z
    exact .itl (by rw[upd_ne (o.rf hm')];exact o.row m' hm') (Nat.le_trans (o.len m' hm').2 (by decide))
   ·rw[List.mem_singleton.mp z]
    exact hv
  ·rw[List.length_append,List.length_map,← List.length_map (f:=(·.1)),o.ks]
   exact Nat.add_le_add (Nat.le_trans o.q1 (by decide:100≤131)) (Nat.le_refl 1)
theorem Ot.drop {H G:Hp}{l f:Addr}{qs:LP}{ms:List JP}(o:Ot H G l f qs ms){i:Nat}:Ot H (upd G f (.dT ((kvP ms).eraseIdx i))) l f (qs.eraseIdx i) (ms.eraseIdx i):=by
 have sb:=List.eraseIdx_sublist ms i
 refine⟨by rw[upd_same];unfold kvP;rw[Zo],fun m hm=>by rw[upd_ne (o.rf (sb.subset hm))];exact o.row m (sb.subset hm),o.nda.sublist (sb.map _),by rw[← Zo,o.ks],o.qnd.sublist (List.eraseIdx_sublist ..),Nat.le_trans (List.length_eraseIdx_le ..) o.q1,fun m hm=>o.len m (sb.subset hm),o.x.upd o.fl,o.putF,o.ff,fun m hm=>o.fr m (sb.subset hm),o.fl,fun m hm=>o.rl m (sb.subset hm)⟩
theorem Ot.rs {K:PySem.W.Frag}{n:Nat}{H G:Hp}{l f:Addr}{qs:LP}{ms:List JP}(o:Ot H G l f qs ms):Rs K n H l f G:=by
 refine⟨⟨_,.pap (js:=ms.map fun m=>(m.1,.ref m.2.1,some m.2.2)) ⟨by rw[o.dd,uD],by rw[List.map_map];exact o.nd,fun j hj=>?_,by rw[List.length_map,← List.length_map (f:=(·.1)),o.ks];exact Nat.le_trans o.q1 (by decide)⟩⟩,o.y⟩
 obtain⟨m',hm',rfl⟩:=List.mem_map.mp hj
 exact .itl (o.row m' hm') (Nat.le_trans (o.len m' hm').2 (by decide))
theorem Ot.bad {K:PySem.W.Frag}{n:Nat}{H G:Hp}{l f:Addr}{qs:LP}{ms:List JP}(o:Ot H G l f qs ms){kb:List Key}{v:V}(hb:∀ q,kb≠yb q):Rs K n H l f (upd G f (.dT (putK (kvP ms) kb v))):=by
 have hnew:kb∉(kvP ms).map (·.1):=by
  rw[wc]
  intro z
  obtain⟨q',h1,h2⟩:=List.mem_map.mp z
  exact hb q' h2.symm
 refine⟨⟨_,.bad (js:=ms.map fun m=>(m.1,.ref m.2.1,some m.2.2)) (kb:=kb) (v:=v) ?_ hb (by rw[List.map_map];exact o.nd)⟩,o.putF⟩
 rw[upd_same,putK_new hnew,uD]
theorem Ot.odd {K:PySem.W.Frag}{H G:Hp}{l f:Addr}{qs:LP}{ms:List JP}(o:Ot H G l f qs ms){y:V}{t:Value}{od:Obj}{bs:List Addr}(hp:Paired (fun(p:List Key×V) (b:Addr)=>G b=some (.tup (p.1.map kV))) (kvP ms) bs) (ko:OdD od (bs.map V.ref++[y])) (hm:(f == sysModules)=false) (ty:TyOf K (upd G f (hOd f od)) y t) (kk:PySem.W.kitOne K t (.type "tuple")=some false):Rs K qs.length H l f (upd G f (hOd f od)):=by
 obtain⟨ps,e1,e2,e3⟩:∃ ps:List PT,ps.map (fun p=>V.ref p.1)=bs.map V.ref∧ps.length=ms.length∧∀ p∈ps,G p.1=some (.tup [.int p.2.1,.int p.2.2]):=by
  have go:∀ {ms:List JP}{bs:List Addr},Paired (fun(p:List Key×V) (b:Addr)=>G b=some (.tup (p.1.map kV))) (kvP ms) bs→∃ ps:List PT,ps.map (fun p=>V.ref p.1)=bs.map V.ref∧ps.length=ms.length∧∀ p∈ps,G p.1=some (.tup [.int p.2.1,.int p.2.2]):=by
   intro ms
   induction ms with
   |nil=>intro bs h;cases h;exact⟨[],rfl,rfl,fun p hp=>nomatch hp⟩
   |cons m ms ih =>
    intro bs h
    cases h with
    | @cons _ b _ bs' h t =>
     obtain⟨ps,a1,a2,a3⟩:=ih t
     refine⟨(b,m.1)::ps,by rw[List.map_cons,List.map_cons,a1],by rw[List.length_cons,List.length_cons,a2],fun p hp=>?_⟩
     rcases List.mem_cons.mp hp with z | z
     ·rw[z];exact h
     ·exact a3 p z
  exact go hp
 refine⟨⟨_,.odd (ps:=ps) hm upd_same (by rw[e1];exact ko) (fun p hp=>?_) (by rw[e2,← List.length_map (f:=(·.1)),o.ks]) ty kk⟩,o.putF⟩
 rw[upd_ne fun z=>?_]
 ·exact e3 p hp
 ·have:=e3 p hp
  rw[z,o.dd] at this
  cases this
open L2.Sco (PT PsAt)
structure Bo (σ:St) (H G:Hp) (l f t:Addr) (qs:LP) (ms:List JP) (m:JP) (hd:Int) (n:Nat):Prop where
 o:Ot H G l f qs ms
 hm:m∈ms
 s0:σ[0]?=some (some (.ref l))
 s6:σ[6]?=some (some (.ref f))
 s8:σ[8]?=some (some (.ref t))
 s9:σ[9]?=some (some (.ref m.2.1))
 s10:σ[10]?=some (some (.int hd))
 s11:σ[11]?=some (some (.int n))
 hn:n<m.2.2.length
 ht:G t=some (.tup [.int m.1.1,.int m.1.2])
 b2:m.1.2.natAbs.log2<1920
 bm:∀ x∈m.2.2,x.natAbs.log2<1920
theorem WG {G:Hp}{l t:Addr}{xs:List V}(x:XsAt G l) (h:G t=some (.tup xs)):t≠l:=fun z=>by
 obtain⟨ns,e,_⟩:=x
 rw[z,e] at h
 cases h
theorem XsAt.hl {G:Hp}{l:Addr}(x:XsAt G l):G l≠none:=fun z=>by
 obtain⟨ns,e,_⟩:=x
 rw[e] at z
 cases z
section
variable {K:PySem.W.Frag}{σ:St}{H G:Hp}{l f t:Addr}{qs:LP}{ms:List JP}{m:JP}{hd:Int}{n:Nat}{D:Ends}
theorem Bo.row (b:Bo σ H G l f t qs ms m hd n):G m.2.1=some (.lst (m.2.2.map V.int)):=b.o.row m b.hm
theorem Bo.tl (b:Bo σ H G l f t qs ms m hd n):t≠l:=WG b.o.x b.ht
theorem Bo.el (b:Bo σ H G l f t qs ms m hd n):atI (m.2.2.map V.int) (n:Int)=some (.int (m.2.2[n]'b.hn)):=zW (by rw[List.getElem?_map,List.getElem?_eq_getElem b.hn];rfl)
theorem zab {φ:Phi}{k:Nat}{z:Int}{t:TA}(h:GvA σ G φ k t) (s0:σ[0]?=some (some (.ref l))) (x:XsAt G l) (hz:z=(k:Int)) (h0:0<k) (h1:k≤1000) (fx:∀ {H H':Hp}{v:V},XsAt H l→Ext l H H'→φ H v→φ H' v){Q:VK}
  (q:∀ v H',Ext l G H'→XsAt H' l→φ H' v→Q v H'):tOp (u6 K) (ud t) (wG xf [] E0 (zD (ya 0) (zD (tC (.int z)) yQ))) σ G Q:=by
 refine h G (Same.refl _) _ fun rs H2 s2 hl hr=>⟨by rw[hl];exact Nat.le_of_lt (zl h1),fun p hp=>?_⟩
 have x2:=x.same s2
 refine⟨_,s0,l,z,rfl,x2.new hp,by omega,fun d H' d0 d1 x' y'=>?_⟩
 obtain⟨i,rfl⟩:∃ i:Nat,d=(i:Int):=⟨d.toNat,by omega⟩
 have hi:i<rs.length:=by omega
 refine⟨p,rs,_,rs[i],rfl,rfl,SqL.of (y' _ _ upd_same (x2.ne hp)),zW (List.getElem?_eq_getElem hi),q _ _ ?_ x' ?_⟩
 ·exact(Ext.same (s2.trans (Same.new hp))).trans y'
 ·exact fx (x2.new hp) y' (fx x2 (Ext.same (Same.new hp)) (hr _ (List.getElem_mem hi)))
theorem bo0 (b:Bo σ H G l f t qs ms m hd n) (k:∀ G',Rs K qs.length H l f G'→D.nx σ G'):ZC (Z1 (ya 6) (ya 8)) D σ G:=by
 obtain⟨i,hi⟩:=List.getElem?_of_mem b.hm
 exact⟨_,b.s6,f,rfl,.inr ⟨_,.inl b.o.dd⟩,_,b.s8,_,t,yb m.1,.ref m.2.1,i,b.o.dd,rfl,b.ht,by unfold kvP;rw[List.getElem?_map,hi];rfl,k _ b.o.drop.rs⟩
theorem bo2 (b:Bo σ H G l f t qs ms m hd n) (k:∀ G',Rs K qs.length H l f G'→D.nx σ G'):VM (ZC (Z1 (ya 6) (ya 8))) (vH (ya 6) (Xl (zD (tOp (WZ K) (ya 8) (tC (V.int 0))) (zD (tCB (fun xs H Q=>∃ i,xs=[V.int i]∧i.natAbs.log2<1920∧Q (V.str (Str.ofString (toString i))) H) (zD (tOp (WZ K) (ya 8) (tC (V.int 1))) yQ)) yQ))) (ya 9)) D σ G:=by
 obtain⟨i,hi⟩:=List.getElem?_of_mem b.hm
 refine⟨_,b.s6,f,rfl,.inr ⟨_,.inl b.o.dd⟩,_,b.s8,_,t,yb m.1,.ref m.2.1,i,b.o.dd,rfl,b.ht,by unfold kvP;rw[List.getElem?_map,hi];rfl,?_⟩
 have o':=b.o.drop (i:=i)
 have ht:=b.ht
 have tf:t≠f:=fun z=>by rw[z,b.o.dd] at ht;cases ht
 have h1:upd G f (.dT ((kvP ms).eraseIdx i)) t=some (.tup [.int m.1.1,.int m.1.2]):=by rw[upd_ne tf];exact ht
 refine⟨_,b.s9,_,b.s6,_,b.s8,t,_,0,_,rfl,rfl,SqT.of h1,rfl,_,b.s8,t,_,1,_,rfl,rfl,SqT.of h1,rfl,_,rfl,b.b2,by show 2≤sizeLine;decide,fun p hp=>?_⟩
 have o2:=o'.same (Same.new hp (o:=.tup [.int m.1.1,.str (Str.ofString (toString m.1.2))]))
 exact⟨f,_,rfl,DPut.t (k:=[.inl m.1.1,.inr (Str.ofString (toString m.1.2))]) o2.dd upd_same (by unfold kvP;rw[List.length_map,← List.length_map (f:=(·.1)),o2.ks];exact zl (Nat.le_trans o2.q1 (by decide))),k _ (o2.bad fun q e=>by injection e with _ e;injection e with e;cases e)⟩
theorem WhL.set {K:PySem.W.Frag}{H:Hp}{v:V}{b:Bool}(hv:WhH K H v b):∀ {xs:List V}{bs:List Bool}(j:Nat),WhL K H xs bs→∃ bs',WhL K H (xs.set j v) bs'
 |_,_,_,.nil=>⟨_,.nil⟩
 |_,_,0,.cons _ t=>⟨_,.cons hv t⟩
 |_,_,j+1,.cons h t=>by
  obtain⟨bs',h'⟩:=WhL.set hv j t
  exact⟨_,.cons h h'⟩
theorem Bo.it (b:Bo σ H G l f t qs ms m hd n){xs:LI}(hz:xs.length≤1000):Rs K qs.length H l f (upd G m.2.1 (.lst (xs.map V.int))):=b.o.mut b.hm (WhL.itl xs) (by rw[List.length_map];exact hz)
theorem Bo.l100 (b:Bo σ H G l f t qs ms m hd n):m.2.2.length≤100:=(b.o.len m b.hm).2
theorem bo4 (b:Bo σ H G l f t qs ms m hd n) (k:∀ G',Rs K qs.length H l f G'→D.nx σ G'):ZC (tBM K "list" Yd (ya 9) (zD (ya 11) (zD (tOp (u6 K) (ya 9) (ya 11)) yQ))) D σ G:=by
 have l1:=b.l100
 have l2:=b.hn
 refine⟨_,b.s9,.inl ⟨rfl,_,SqL.of b.row⟩,_,b.s11,_,b.s9,_,b.s11,_,_,_,_,rfl,rfl,SqL.of b.row,b.el,_,_,_,n,rfl,rfl,b.row,by rw[List.length_map];omega,by rw[List.length_map];omega,k _ ?_⟩
 have e:(m.2.2.map V.int).take n++V.int m.2.2[n]::(m.2.2.map V.int).drop n=(m.2.2.take n++m.2.2[n]::m.2.2.drop n).map V.int:=by rw[List.map_append,List.map_cons,List.map_take,List.map_drop]
 rw[e]
 exact b.it (by rw[List.length_append,List.length_cons,List.length_take,List.length_drop];omega)
theorem bo8 (b:Bo σ H G l f t qs ms m hd n) (k:∀ G',Rs K qs.length H l f G'→D.nx σ G'):ZC (zaU K "list" u4 (ya 9)) D σ G:=by
 refine⟨_,b.s9,.inl ⟨rfl,_,SqL.of b.row⟩,_,_,rfl,rfl,b.row,k _ ?_⟩
 rw[← List.map_reverse]
 exact b.it (by rw[List.length_reverse];exact Nat.le_trans b.l100 (by decide))
theorem Bo.st (b:Bo σ H G l f t qs ms m hd n){v:V}{c:Bool}(hv:WhH K G v c):Rs K qs.length H l f (upd G m.2.1 (.lst ((m.2.2.map V.int).set n v))):=by
 obtain⟨bs,h⟩:=WhL.set hv n (WhL.itl (K:=K) (H:=G) m.2.2)
 exact b.o.mut b.hm h (by rw[List.length_set,List.length_map];exact Nat.le_trans b.l100 (by decide))
theorem Bo.ix (b:Bo σ H G l f t qs ms m hd n):ixN (m.2.2.map V.int).length (n:Int)=some n:=by
 have:=b.hn
 unfold ixN
 rw[if_pos (by omega),if_pos (by rw[List.length_map];omega)]
 rfl
theorem bo5 (b:Bo σ H G l f t qs ms m hd n) (k:∀ G',Rs K qs.length H l f G'→D.nx σ G'):WN (ya 10) (UO (ya 9) (ya 11) WX) D σ G := 
 ⟨_,b.s10,_,b.s9,_,b.s11,_,_,_,n,rfl,rfl,b.row,b.ix,k _ (b.st (.int hd))⟩
end
open L2.Sco (PT PsAt)
section
variable {K:PySem.W.Frag}{σ:St}{H G:Hp}{l f t:Addr}{qs:LP}{ms:List JP}{m:JP}{hd:Int}{n:Nat}{D:Ends}
theorem Bo.ext {G':Hp}(b:Bo σ H G l f t qs ms m hd n) (y:Ext l G G') (x:XsAt G' l):Bo σ H G' l f t qs ms m hd n:={ b with o:=b.o.ext y x,ht:=y _ _ b.ht b.tl }
theorem Bo.same {G':Hp}(b:Bo σ H G l f t qs ms m hd n) (s:Same G G'):Bo σ H G' l f t qs ms m hd n:=b.ext (Ext.same s) (b.o.x.same s)
def Kz (K:PySem.W.Frag):Phi:=fun H v=>(OdV v∧∃ t,(∀ H,TyOf K H v t)∧PySem.W.kitOne K t (.type "tuple")=some false)∨∃ (b:Addr) (kb:List Key),v=.ref b∧H b=some (.tup (kb.map kV))
theorem Kz.stb:Stb (Kz K):=⟨fun s h=>by
 rcases h with h | ⟨b,kb,e,h⟩
 ·exact .inl h
 ·exact .inr ⟨b,kb,e,s _ _ h⟩⟩
theorem Kz.fx {H H':Hp}{v:V}(x:XsAt H l) (y:Ext l H H') (h:Kz K H v):Kz K H' v:=by
 rcases h with h | ⟨b,kb,e,h⟩
 ·exact .inl h
 ·exact .inr ⟨b,kb,e,y _ _ h (WG x h)⟩
theorem zbO {te:TE}{i:Int}(h:∀ H1,Same G H1→∀ Q:VK,Q (.int i) H1→te σ H1 Q):Gv σ G (Kz K) (Xl (zD te yQ)):=fun H1 s Q k=>h H1 s _ ⟨(by show 1≤sizeLine;decide),fun p hp=>k _ _ (Same.new hp) (.inr ⟨p,[.inl i],rfl,upd_same⟩)⟩
theorem zbq {te tf:TE}{i j:Int}(h:∀ H1,Same G H1→∀ Q:VK,Q (.int i) H1→te σ H1 Q) (h':∀ H1,Same G H1→∀ Q:VK,Q (.int j) H1→tf σ H1 Q):Gv σ G (Kz K) (Xl (zD te (zD tf yQ))):=fun H1 s Q k=>h H1 s _ (h' H1 s _ ⟨(by show 2≤sizeLine;decide),fun p hp=>k _ _ (Same.new hp) (.inr ⟨p,[.inl i,.inl j],rfl,upd_same⟩)⟩)
theorem bo1 (b:Bo σ H G l f t qs ms m hd n) (ki:PySem.W.kitOne K (.type "int") (.type "tuple")=some false) (kn:PySem.W.kitOne K (.type "NoneType") (.type "tuple")=some false) (ks:PySem.W.kitOne K (.type "str") (.type "tuple")=some false) (k:∀ G',Rs K qs.length H l f G'→D.nx σ G'):Wg (ya 6) (tOp (u6 K) (ud (zD (Xl (zD (ya 10) (zD (ya 10) yQ))) (zD (Xl (zD (ya 10) (zD (tC (V.int 100)) yQ))) (zD (ya 10) (zD (tC V.non) (zD (tC (V.str "pair")) (zD (Xl (zD (ya 10) yQ)) (zD (tOp (V8 K) (ya 8) (Xl (zD (tC (V.int 0)) yQ))) yQ)))))))) (wG xf [] E0 (zD (ya 0) (zD (tC (V.int 7)) yQ)))) (tCB (fun xs H_1 Q=>∃ p ys,xs=[V.ref p]∧(SqL K H_1 p ys∨SqT K H_1 p ys)∧∀ (l:Addr),H_1 l=none→Q (V.ref l) (upd H_1 l (HO.lst ys))) (zD (ya 9) yQ)) D σ G:=by
 refine⟨_,b.s9,_,_,rfl,.inl (SqL.of b.row),fun r hr=>⟨_,b.s6,?_⟩⟩
 have b1:=b.same (Same.new hr (o:=.lst (m.2.2.map V.int)))
 have v10:∀ H1,Same (upd G r (.lst (m.2.2.map V.int))) H1→∀ Q:VK,Q (.int hd) H1→ya 10 σ H1 Q:=fun H1 _ Q q=>⟨_,b.s10,q⟩
 have S:Stb (Kz K):=Kz.stb
 have rl:=b.o.x.ne hr
 refine zab (φ:=Kz K) (k:=7) (zN S (zbq v10 v10) (zN S (zbq v10 fun H1 _ Q q=>q) (zN S (vY b.s10 S (.inl ⟨.int hd,_,fun H=>.int hd,ki⟩)) (zN S (Wy fun H=>.inl ⟨.non,_,fun H=>.non,kn⟩) (zN S (Wy fun H=>.inl ⟨.str _,_,fun H=>.str _,ks⟩) (zN S (zbO v10) (zN S ?_ Zk))))))) b.s0 b1.o.x rfl (by decide) (by decide) Kz.fx fun v H' y' x' hv=>⟨f,rfl,?_⟩
 ·exact fun H1 s Q k=>⟨_,b.s8,(by show 1≤sizeLine;decide),fun p hp=>⟨t,p,_,_,rfl,rfl,SqT.of (Same.new hp _ _ (s _ _ b1.ht)),SqT.of upd_same,(fun z=>nomatch z),(by show 3≤sizeLine;decide),(fun z=>nomatch z),fun _ r hr=>k _ _ ((Same.new hp).trans (Same.new hr)) (.inr ⟨r,[.inl m.1.1,.inl m.1.2,.inl 0],rfl,upd_same⟩)⟩⟩
 ·have b2:=b1.ext y' x'
  have hr':H' r=some (.lst (m.2.2.map V.int)):=y' _ _ upd_same rl
  have lz:(kvP ms).length<sizeLine:=by unfold kvP;rw[List.length_map,← List.length_map (f:=(·.1)),b.o.ks];exact zl (Nat.le_trans b.o.q1 (by decide))
  rcases hv with⟨ov,ty,ht,kk⟩ | ⟨c,kb,rfl,hc⟩
  ·exact .inr ⟨_,b2.o.dd,(fun z=>by have:=b.hm;unfold kvP at z;rw[List.map_eq_nil_iff.mp z] at this;cases this),lz,ov,fun od bs hp ko hs=>k _ (b2.o.odd hp ko hs (ht _) kk)⟩
  ·refine .inl ⟨_,DPut.t b2.o.dd hc lz,k _ ?_⟩
   by_cases hq:∃ q,kb=yb q
   ·obtain⟨q,rfl⟩:=hq
    refine b2.o.putQ (.itl (l:=m.2.2) ?_ (Nat.le_trans b.l100 (by decide)))
    rw[upd_ne fun z=>?_]
    ·exact hr'
    ·rw[z,b2.o.dd] at hr';cases hr'
   ·exact b2.o.bad fun q e=>hq ⟨q,e⟩
def Rz (K:PySem.W.Frag) (l:Addr):Phi:=fun H v=>∃ rv,RvAt K (hd1 l H) v rv
theorem Rz.fx {H H':Hp}{v:V}(x:XsAt H l) (y:Ext l H H') (h:Rz K l H v):Rz K l H' v:=by
 obtain⟨rv,h⟩:=h
 exact⟨rv,h.same (xp y)⟩
theorem Rz.stb:Stb (Rz K l):=⟨fun s h=>by
 obtain⟨rv,h⟩:=h
 exact⟨rv,h.same (xp (Ext.same s))⟩⟩
theorem Rz.li {H:Hp}{p:Addr}{xs:LI}(e:H p=some (.lst (xs.map V.int))) (np:p≠l) (hz:xs.length≤1000):Rz K l H (.ref p):=⟨_,.itl (yR e np) hz⟩
theorem TyOf.updD {v:V}{t:Value}{r:Addr}{xs ys:List (List Key×V)}(h:TyOf K G v t) (hr:G r=some (.dT xs)):TyOf K (upd G r (.dT ys)) v t:=by
 have ne:∀ {b:Addr}{o:HO},G b=some o→(∀ zs,o≠.dT zs)→upd G r (.dT ys) b=some o:=fun {b o} e n=>by
  rw[upd_ne fun z=>by rw[z,hr] at e;injection e with e;exact n _ e.symm]
  exact e
 cases h with
 |non=>exact .non
 |bl x=>exact .bl x
 |int i=>exact .int i
 |str x=>exact .str x
 |flt x=>exact .flt x
 | @dT a zs e =>
  by_cases c:a=r
  ·rw[c];exact .dT upd_same
  ·exact .dT (by rw[upd_ne c];exact e)
 |frz e=>exact .frz (ne e fun _ z=>by cases z)
 |tup e=>exact .tup (ne e fun _ z=>by cases z)
 |dK e=>exact .dK (ne e fun _ z=>by cases z)
 |lst e=>exact .lst (ne e fun _ z=>by cases z)
 |ins e a b c d f=>exact .ins (ne e fun _ z=>by cases z) a b c d f
 |odd e x=>exact .odd (ne e fun _ z=>by cases z) x
theorem RvAt.updD {v:V}{rv:Option (LI)}{r:Addr}{xs ys:List (List Key×V)}(h:RvAt K G v rv) (hr:G r=some (.dT xs)):RvAt K (upd G r (.dT ys)) v rv:=by
 have ne:∀ {b:Addr}{o:HO},G b=some o→(∀ zs,o≠.dT zs)→upd G r (.dT ys) b=some o:=fun {b o} e n=>by
  rw[upd_ne fun z=>by rw[z,hr] at e;injection e with e;exact n _ e.symm]
  exact e
 cases h with
 |itl e z=>exact .itl (ne e fun _ z=>by cases z) z
 |no ty kk=>exact .no (TyOf.updD ty hr) kk
 |odd e h f z=>exact .odd (ne e fun _ z=>by cases z) (Paired.mapP h fun a b h=>by
   cases h with
   |int i=>exact .int i
   |bl b=>exact .bl b
   |no ty kk=>exact .no (TyOf.updD ty hr) kk) f z
theorem Bo.putR (b:Bo σ H G l f t qs ms m hd n){v:V}(hv:Rz K l G v):∃ G',DPut G f (.ref t) v G'∧Rs K qs.length H l f G':=by
 obtain⟨rv,h⟩:=hv
 refine⟨_,DPut.t (k:=yb m.1) b.o.dd b.ht (by unfold kvP;rw[List.length_map,← List.length_map (f:=(·.1)),b.o.ks];exact zl (Nat.le_trans b.o.q1 (by decide))),b.o.put b.hm upd_same ((h.same wB).updD b.o.dd) (fun m' hm' _=>upd_ne (b.o.rf hm')) b.o.putF⟩
theorem uI {xs:LI}{lo hi:Option Int}:∃ ys:LI,cutV (xs.map V.int) lo hi=ys.map V.int∧ys.length≤xs.length:=by
 refine⟨(xs.drop (HT.sIx xs.length 0 lo)).take (HT.sIx xs.length xs.length hi-HT.sIx xs.length 0 lo),?_,?_⟩
 ·unfold cutV
  rw[List.length_map,List.map_take,List.map_drop]
 ·rw[List.length_take,List.length_drop]
  omega
theorem bo3 (b:Bo σ H G l f t qs ms m hd n) (kt:PySem.W.kitOne K (.type "tuple") (.type "list")=some false) (kn:PySem.W.kitOne K (.type "NoneType") (.type "list")=some false) (kd:PySem.W.kitOne K (.type "dict") (.type "list")=some false) (ks:PySem.W.kitOne K (.type "str") (.type "list")=some false) (ki:PySem.W.kitOne K (.type "int") (.type "list")=some false) (k:∀ G',Rs K qs.length H l f G'→D.nx σ G'):vH (ya 6) (ya 8) (tOp (u6 K) (ud (zD (tCB (fun xs H_1 Q=>∃ p ys,xs=[V.ref p]∧((SqL K H_1 p ys∧∀ (l:Addr),H_1 l=none→Q (V.ref l) (upd H_1 l (HO.tup ys)))∨SqT K H_1 p ys∧Q (V.ref p) H_1)) (zD (ya 9) yQ)) (zD (ud yQ) (zD (tC V.non) (zD (tSl (Vz K) (ya 9) (Z0 (tC (V.int 1))) wk) (zD (tSl (Vz K) (ya 9) wk (Z0 (tUn (rU fun i=>V.int (-i)) (tC (V.int 1))))) (zD uW (zD (tC (V.str "road")) (zD (tC (V.int 7)) yQ))))))))) (wG xf [] E0 (zD (ya 0) (zD (tC (V.int 8)) yQ)))) D σ G:=by
 have S:Stb (Rz K l):=Rz.stb
 have nl:∀ {H1:Hp}{p:Addr},Same G H1→H1 p=none→p≠l:=fun s hp=>(b.o.x.same s).ne hp
 have sl:∀ {lo hi:Option Int}{H1:Hp}{Q:VK},Same G H1→(∀ v H2,Same H1 H2→Rz K l H2 v→Q v H2)→Vz K (.ref m.2.1) lo hi H1 Q:=fun {lo hi H1 Q} s k=>⟨_,_,rfl,SqL.of (s _ _ b.row),fun p hp=>by
  obtain⟨ys,e,hy⟩:=uI (xs:=m.2.2) (lo:=lo) (hi:=hi)
  have:=b.l100
  exact k _ _ (Same.new hp) (Rz.li (xs:=ys) (by rw[upd_same,e]) (nl s hp) (by omega))⟩
 refine zab (φ:=Rz K l) (k:=8) ?_ b.s0 b.o.x rfl (by decide) (by decide) Rz.fx fun v H' y' x' hv=>?_
 ·exact zN S (fun H1 s Q k=>⟨_,b.s9,_,_,rfl,.inl ⟨SqL.of (s _ _ b.row),fun p hp=>k _ _ (Same.new hp) ⟨_,.no (.tup (yR upd_same (nl s hp))) kt⟩⟩⟩) (zN S (fun H1 s Q k=>⟨(by show 0≤sizeLine;decide),fun p hp=>k _ _ (Same.new hp) (Rz.li (xs:=[]) upd_same (nl s hp) (by decide))⟩) (zN S (Wy fun H=>⟨_,.no .non kn⟩) (zN S (fun H1 s Q k=>⟨_,b.s9,_,rfl,sl s k⟩) (zN S (fun H1 s Q k=>⟨_,b.s9,_,rfl,_,rfl,sl s k⟩)
  (zN S (fun H1 s Q k p hp=>k _ _ (Same.new hp) ⟨_,.no (.dK (yR upd_same (nl s hp))) kd⟩) (zN S (Wy fun H=>⟨_,.no (.str _) ks⟩) (zN S (Wy fun H=>⟨_,.no (.int 7) ki⟩) Zk)))))))
 obtain⟨G',h1,h2⟩:=(b.ext y' x').putR hv
 exact⟨_,b.s6,_,b.s8,f,G',rfl,h1,k _ h2⟩
def Wz (K:PySem.W.Frag) (l:Addr):Phi:=fun H v=>∃ c,WhH K (hd1 l H) v c
theorem WhH.same {H':Hp}{v:V}{c:Bool}(s:Same H H') (h:WhH K H v c):WhH K H' v c:=by
 cases h with
 |int i=>exact .int i
 |bl b=>exact .bl b
 |no ty kk=>exact .no (TyOf.same s ty) kk
theorem Wz.fx {H H':Hp}{v:V}(x:XsAt H l) (y:Ext l H H') (h:Wz K l H v):Wz K l H' v:=by
 obtain⟨c,h⟩:=h
 exact⟨c,h.same (xp y)⟩
theorem Wz.stb:Stb (Wz K l):=⟨fun s h=>by
 obtain⟨c,h⟩:=h
 exact⟨c,h.same (xp (Ext.same s))⟩⟩
theorem bo6 (b:Bo σ H G l f t qs ms m hd n) (kt:PySem.W.kitOne K (.type "tuple") (.type "int")=some false) (kn:PySem.W.kitOne K (.type "NoneType") (.type "int")=some false) (kd:PySem.W.kitOne K (.type "dict") (.type "int")=some false) (ks:PySem.W.kitOne K (.type "str") (.type "int")=some false) (kl:PySem.W.kitOne K (.type "list") (.type "int")=some false) (k:∀ G',Rs K qs.length H l f G'→D.nx σ G'):WN (tOp (u6 K) (ud (zD (tC (V.bl true)) (zD (tC (V.bl false)) (zD (tC V.non) (zD (tCB (fun xs H Q=>∃ i,xs=[V.int i]∧i.natAbs.log2<1920∧Q (V.str (Str.ofString (toString i))) H) (zD (tOp (u6 K) (ya 9) (ya 11)) yQ)) (zD (Xl (zD (tOp (u6 K) (ya 9) (ya 11)) yQ)) (zD (tUn (rU fun i=>V.int (-i)) (tC (V.int 1))) (zD (ud (zD (tOp (u6 K) (ya 9) (ya 11)) yQ)) (zD uW yQ))))))))) (wG xf [] E0 (zD (ya 0) (zD (tC (V.int 8)) yQ)))) (UO (ya 9) (ya 11) WX) D σ G:=by
 have S:Stb (Wz K l):=Wz.stb
 have nl:∀ {H1:Hp}{p:Addr},Same G H1→H1 p=none→p≠l:=fun s hp=>(b.o.x.same s).ne hp
 refine zab (φ:=Wz K l) (k:=8) ?_ b.s0 b.o.x rfl (by decide) (by decide) Wz.fx fun v H' y' x' hv=>?_
 ·exact zN S (Wy fun H=>⟨_,.bl true⟩) (zN S (Wy fun H=>⟨_,.bl false⟩) (zN S (Wy fun H=>⟨_,.no .non kn⟩) (zN S (fun H1 s Q k=>⟨_,b.s9,_,b.s11,_,_,_,_,rfl,rfl,SqL.of (s _ _ b.row),b.el,_,rfl,b.bm _ (List.getElem_mem b.hn),k _ _ (Same.refl _) ⟨_,.no (.str _) ks⟩⟩) (zN S (fun H1 s Q k=>⟨_,b.s9,_,b.s11,_,_,_,_,rfl,rfl,SqL.of (s _ _ b.row),b.el,(by show 1≤sizeLine;decide),fun p hp=>k _ _ (Same.new hp) ⟨_,.no (.tup (yR upd_same (nl s hp))) kt⟩⟩)
  (zN S (fun H1 s Q k=>⟨_,rfl,k _ _ (Same.refl _) ⟨_,.int _⟩⟩) (zN S (fun H1 s Q k=>⟨_,b.s9,_,b.s11,_,_,_,_,rfl,rfl,SqL.of (s _ _ b.row),b.el,(by show 1≤sizeLine;decide),fun p hp=>k _ _ (Same.new hp) ⟨_,.no (.lst (yR upd_same (nl s hp))) kl⟩⟩) (zN S (fun H1 s Q k p hp=>k _ _ (Same.new hp) ⟨_,.no (.dK (yR upd_same (nl s hp))) kd⟩) Zk)))))))
 obtain⟨c,hv⟩:=hv
 have b':=b.ext y' x'
 exact⟨_,b.s9,_,b.s11,_,_,_,n,rfl,rfl,b'.row,b'.ix,k _ (b'.st (hv.same wB))⟩
end
open L2.Sco (PT PsAt)
structure Oq (H:Hp) (l lp pd d lb:Addr) (ps:List PT) (js:List JP) (rb:List V) (bs:LP) (us:LI) (pf:Int→Option Int) (pa:Int→LI):Prop where
 x:XsAt H l
 hp:H lp=some (.lst (ps.map fun p=>V.ref p.1))
 pl:lp≠l
 p0:0<ps.length
 p1:ps.length≤100
 pt:∀ p∈ps,H p.1=some (.tup [.int p.2.1,.int p.2.2])∧p.2.2.natAbs.log2<1920∧p.2.1∈us∧p.2.2∈us
 dd:H pd=some (.dT (kvP js))
 row:∀ j∈js,H j.2.1=some (.lst (j.2.2.map V.int))∧j.2.1≠l∧1≤j.2.2.length∧j.2.2.length≤100∧∀ x∈j.2.2,x.natAbs.log2<1920
 ks:js.map (·.1)=ps.map (·.2)
 nd:(js.map (·.1)).Nodup
 hd:H d=some (.dK (tabV (fun x=>opV (pf x)) us))
 u12:us.length≤12
 U:UpP us pf pa
 hlb:H lb=some (.lst rb)
 bl:lb≠l
 L:LnAt H rb bs
 B:Bd bs
 b63:bs.length≤63
 bin:∀ q∈bs,q.1∈us∧q.2∈us
 rne:∀ p∈ps,rfs pa (dbl (srt bs)) p.2.1 p.2.2≠[]
 rl:∀ p∈ps,∀ r∈rfs pa (dbl (srt bs)) p.2.1 p.2.2,r.length≤100
section
variable {K:PySem.W.Frag}{σ:St}{H G:Hp}{l f t lp pd d lb:Addr}{qs:LP}{ms js:List JP}{m:JP}{hd:Int}{n:Nat}{D:Ends}{ps:List PT}{rb:List V}{bs:LP}{us:LI}{pf:Int→Option Int}{pa:Int→LI}
theorem Oq.tl (h:Oq H l lp pd d lb ps js rb bs us pf pa){b:Addr}{xs:List V}(e:H b=some (.tup xs)):b≠l:=WG h.x e
theorem Oq.ext (h:Oq H l lp pd d lb ps js rb bs us pf pa) (y:Ext l H G) (x:XsAt G l):Oq G l lp pd d lb ps js rb bs us pf pa:=by
 have nl:∀ {b o},H b=some o→(∀ zs,o≠.lst zs)→b≠l:=fun {b o} e n z=>by
  obtain⟨ns,e',_⟩:=h.x
  rw[z,e'] at e
  injection e with e
  exact n _ e.symm
 refine { h with x:=x,hp:=y _ _ h.hp h.pl,pt:=fun p hp=>⟨y _ _ (h.pt p hp).1 (h.tl (h.pt p hp).1),(h.pt p hp).2⟩,dd:=y _ _ h.dd (nl h.dd fun _ z=>by cases z),row:=fun j hj=>⟨y _ _ (h.row j hj).1 (h.row j hj).2.1,(h.row j hj).2⟩,hd:=y _ _ h.hd (nl h.hd fun _ z=>by cases z),hlb:=y _ _ h.hlb h.bl,L:=⟨h.L.1,fun i r p h1 h2=>?_⟩ }
 obtain⟨q,e,e2⟩:=h.L.2 i r p h1 h2
 exact⟨q,e,y _ _ e2 (h.tl e2)⟩
theorem Oq.len (h:Oq H l lp pd d lb ps js rb bs us pf pa){i:Nat}(hi:i<ps.length):(ps.map fun p=>V.ref p.1)[i]?=some (.ref ps[i].1):=by rw[List.getElem?_map,List.getElem?_eq_getElem hi];rfl
theorem Oq.at (h:Oq H l lp pd d lb ps js rb bs us pf pa){p:PT}(hp:p∈ps):∃ j∈js,j.1=p.2∧DGet H pd (.ref p.1) (some (.ref j.2.1)):=by
 have:p.2∈js.map (·.1):=by rw[h.ks];exact List.mem_map.mpr ⟨p,hp,rfl⟩
 obtain⟨j,hj,e⟩:=List.mem_map.mp this
 refine⟨j,hj,e,?_⟩
 rw[← YG h.nd hj,e]
 exact DGet.t (k:=yb p.2) h.dd (h.pt p hp).1
theorem bo7 (b:Bo σ H G l f t qs ms m hd n) (h:Oq G l lp pd d lb ps js rb bs us pf pa) (s2:σ[2]?=some (some (.ref lp))) (s3:σ[3]?=some (some (.ref pd))) (k:∀ G',Rs K qs.length H l f G'→D.nx σ G'):vH (ya 6) (ya 8) (tCB (fun xs H_1 Q=>∃ p ys,xs=[V.ref p]∧(SqL K H_1 p ys∨SqT K H_1 p ys)∧∀ (l:Addr),H_1 l=none→Q (V.ref l) (upd H_1 l (HO.lst ys))) (zD (WL (ya 3) (tOp (u6 K) (ya 2) (wG xf [] E0 (zD (ya 0) (zD (tCB (fun xs H_1 Q=>∃ p ys,xs=[V.ref p]∧(SqL K H_1 p ys∨SqT K H_1 p ys)∧Q (V.int ↑ys.length) H_1) (zD (ya 2) yQ)) yQ))))) yQ)) D σ G:=by
 have p0:=h.p0
 refine⟨_,s3,_,s2,_,b.s0,_,s2,lp,_,rfl,.inl (SqL.of h.hp),l,_,rfl,h.x,by rw[List.length_map];omega,fun dr G' d0 d1 x' y'=>?_⟩
 rw[List.length_map] at d1
 obtain⟨i,rfl⟩:∃ i:Nat,dr=(i:Int):=⟨dr.toNat,by omega⟩
 have hi:i<ps.length:=by omega
 have h':=h.ext y' x'
 have b':=b.ext y' x'
 obtain⟨j,hj,e,dg⟩:=h'.at (List.getElem_mem hi)
 refine⟨lp,_,_,_,rfl,rfl,SqL.of h'.hp,zW (h.len hi),pd,_,rfl,dg,_,_,rfl,.inl (SqL.of (h'.row j hj).1),fun r hr=>?_⟩
 have b2:=b'.same (Same.new hr (o:=.lst (j.2.2.map V.int)))
 obtain⟨G2,h1,h2⟩:=b2.putR (K:=K) (Rz.li (xs:=j.2.2) upd_same (x'.ne hr) (Nat.le_trans (h'.row j hj).2.2.2.1 (by decide)))
 exact⟨_,b.s6,_,b.s8,f,G2,rfl,h1,k _ h2⟩
theorem bo9 (b:Bo σ H G l f t qs ms m hd n) (h:Oq G l lp pd d lb ps js rb bs us pf pa){p:PT}(hp:p∈ps) (ep:p.2=m.1) (s4:σ[4]?=some (some (.ref d))) (s5:σ[5]?=some (some (.ref lb))) (sz:σ.length=15) (k:∀ v G',Rs K qs.length H l f G'→D.nx (σ.set 12 v) G'):VM (WN (wG VW [] E0 (zD (ya 4) (zD (ya 5) (zD (tOp (WZ K) (ya 8) (tC (V.int 0))) (zD (tOp (WZ K) (ya 8) (tC (V.int 1))) yQ))))) (xQ 12)) (vH (ya 6) (ya 8) (tOp (u6 K) (ya 12) (wG xf [] E0 (zD (ya 0) (zD (tCB (fun xs H_1 Q=>∃ p ys,xs=[V.ref p]∧(SqL K H_1 p ys∨SqT K H_1 p ys)∧Q (V.int ↑ys.length) H_1) (zD (ya 12) yQ)) yQ))))) D σ G:=by
 refine⟨_,s4,_,s5,_,b.s8,t,_,0,_,rfl,rfl,SqT.of b.ht,rfl,_,b.s8,t,_,1,_,rfl,rfl,SqT.of b.ht,rfl,d,lb,pf,pa,us,rb,bs,_,_,rfl,h.hd,h.u12,h.U,h.hlb,h.L,h.B,h.b63,h.bin,by rw[← ep];exact(h.pt p hp).2.2.1,by rw[← ep];exact(h.pt p hp).2.2.2,fun r G1 hr ⟨rs,e1,e2,e3⟩ s1=>?_⟩
 have b1:=b.same s1
 have g:∀ i,i≠12→(σ.set 12 (some (.ref r)))[i]?=σ[i]?:=fun i hi=>by rw[List.getElem?_set_ne fun z=>hi z.symm]
 have g12:(σ.set 12 (some (.ref r)))[12]?=some (some (.ref r)):=List.getElem?_set_self (by omega)
 have r0:0<rs.length:=by
  have:=h.rne p hp
  rw[ep] at this
  rw[← e3] at this
  cases rs with
  |nil=>exact absurd rfl this
  |cons r rs=>exact Nat.succ_pos _
 refine⟨_,g12,_,by rw[g 0 (by decide)];exact b.s0,_,g12,r,_,rfl,.inl (SqL.of e1),l,_,rfl,b1.o.x,by rw[List.length_map];omega,fun dr G' d0 d1 x' y'=>?_⟩
 rw[List.length_map] at d1
 obtain⟨i,rfl⟩:∃ i:Nat,dr=(i:Int):=⟨dr.toNat,by omega⟩
 have hi:i<rs.length:=by omega
 have b':=b1.ext y' x'
 have rl:r≠l:=b.o.x.ne hr
 have ri:=e2 _ (List.getElem_mem hi)
 refine⟨r,_,_,_,rfl,rfl,SqL.of (y' _ _ e1 rl),zW (by rw[List.getElem?_map,List.getElem?_eq_getElem hi];rfl),?_⟩
 obtain⟨G2,h1,h2⟩:=b'.putR (K:=K) (Rz.li (xs:=rs[i].2) (y' _ _ ri.1 (b.o.x.ne ri.2)) (b.o.x.ne ri.2) (Nat.le_trans (h.rl p hp _ (by rw[ep,← e3];exact List.mem_map.mpr ⟨_,List.getElem_mem hi,rfl⟩)) (by decide)))
 exact⟨_,by rw[g 6 (by decide)];exact b.s6,_,by rw[g 8 (by decide)];exact b.s8,f,G2,rfl,h1,k _ _ h2⟩
end
open L2.Sco (PT PsAt)
section
variable {K:PySem.W.Frag}{σ:St}{H G:Hp}{l f t:Addr}{qs:LP}{ms:List JP}{m:JP}{hd:Int}{n:Nat}{D:Ends}
theorem WhL.app {xs ys:List V}{bs cs:List Bool}(h:WhL K H xs bs) (h':WhL K H ys cs):WhL K H (xs++ys) (bs++cs):=by
 induction h with
 |nil=>exact h'
 |cons a _ ih=>exact .cons a ih
def Ly (K:PySem.W.Frag) (l:Addr) (k:Nat):Phi:=fun H v=>∃ p xs bs,v=.ref p∧H p=some (.lst xs)∧p≠l∧WhL K (hd1 l H) xs bs∧xs.length≤k
theorem Ly.stb {k:Nat}:Stb (Ly K l k):=⟨fun s h=>by
 obtain⟨p,xs,bs,e,h1,h2,h3,h4⟩:=h
 exact⟨p,xs,bs,e,s _ _ h1,h2,h3.same (xp (Ext.same s)),h4⟩⟩
theorem Ly.rz {k:Nat}{v:V}(h:Ly K l k H v) (hk:k≤1000):Rz K l H v:=by
 obtain⟨p,xs,bs,rfl,h1,h2,h3,h4⟩:=h
 exact rvL (yR h1 h2) h3 (by omega)
theorem XO {k:Nat}{te:TE}(h:Gv σ G (Ly K l k) te) (hk:k≤1000):Gv σ G (Rz K l) te:=fun H1 s Q q=>h H1 s Q fun v H2 s2 hv=>q v H2 s2 (hv.rz hk)
theorem Zj {j k:Nat}{ta tb:TE}(ha:Gv σ G (Ly K l j) ta) (hb:Gv σ G (Ly K l k) tb) (x:XsAt G l) (hz:j+k≤1000):Gv σ G (Ly K l (j+k)) (tOp VA ta tb):=fun H1 s Q q=>by
 refine ha H1 s _ fun v H2 s2 hv=>hb H2 (s.trans s2) _ fun u H3 s3 hu=>?_
 obtain⟨p,xs,bs,rfl,h1,h2,h3,h4⟩:=Ly.stb.to s3 hv
 obtain⟨r,ys,cs,rfl,g1,g2,g3,g4⟩:=hu
 refine⟨p,r,xs,ys,rfl,rfl,h1,g1,Nat.le_trans (Nat.add_le_add h4 g4) (Nat.le_of_lt (zl hz)),fun z hz=>q _ _ ((s2.trans s3).trans (Same.new hz)) ⟨z,_,_,rfl,upd_same,(x.same (s.trans (s2.trans s3))).ne hz,(h3.app g3).same (xp (Ext.same (Same.new hz))),by rw[List.length_append];omega⟩⟩
theorem Wx {te:TE}(h:Gv σ G (Wz K l) te) (x:XsAt G l):Gv σ G (Ly K l 1) (ud (zD te yQ)):=fun H1 s Q q=>h H1 s _ fun v H2 s2 hv=>⟨(by show 1≤sizeLine;decide),fun p hp=>by
 obtain⟨c,hv⟩:=hv
 exact q _ _ (s2.trans (Same.new hp)) ⟨p,_,[c],rfl,upd_same,(x.same (s.trans s2)).ne hp,.cons (hv.same (xp (Ext.same (Same.new hp)))) .nil,Nat.le_refl _⟩⟩
theorem UA {ta tb:TE}{i j:Int}(ha:∀ H1,Same G H1→∀ Q:VK,Q (.int i) H1→ta σ H1 Q) (hb:∀ H1,Same G H1→∀ Q:VK,Q (.int j) H1→tb σ H1 Q) (x:XsAt G l):Gv σ G (Ly K l 2) (ud (zD ta (zD tb yQ))):=fun H1 s Q q=>ha H1 s _ (hb H1 s _ ⟨(by show 2≤sizeLine;decide),fun p hp=>q _ _ (Same.new hp) ⟨p,_,_,rfl,upd_same,(x.same s).ne hp,WhL.itl [i,j],Nat.le_refl _⟩⟩)
theorem Ly.int {p:Addr}{xs:LI}{k:Nat}(e:H p=some (.lst (xs.map V.int))) (np:p≠l) (hz:xs.length≤k):Ly K l k H (.ref p):=⟨p,_,_,rfl,e,np,WhL.itl xs,by rw[List.length_map];exact hz⟩
theorem U9 {φ:Phi}{k i:Nat}{t:TA}{te:TE}{Q:VK}(h:GvA σ G φ k t) (st:Stb φ) (hi:i<k) (h1:k≤1000) (ht:∀ H1,Same G H1→∀ Q:VK,Q (.int (i:Int)) H1→te σ H1 Q) (q:∀ v H',Same G H'→φ H' v→Q v H'):tOp (u6 K) (ud t) te σ G Q:=by
 refine h G (Same.refl _) _ fun rs H2 s2 hl hr=>⟨by rw[hl];exact Nat.le_of_lt (zl h1),fun p hp=>?_⟩
 have hi:i<rs.length:=by omega
 exact ht _ (s2.trans (Same.new hp)) _ ⟨p,rs,_,rs[i],rfl,rfl,SqL.of upd_same,zW (List.getElem?_eq_getElem hi),q _ _ (s2.trans (Same.new hp)) (st.to (Same.new hp) (hr _ (List.getElem_mem hi)))⟩
theorem Bo.set {i:Nat}{v:Option V}(b:Bo σ H G l f t qs ms m hd n) (hi:12≤i):Bo (σ.set i v) H G l f t qs ms m hd n:=by
 have g:∀ j,j<12→(σ.set i v)[j]?=σ[j]?:=fun j hj=>List.getElem?_set_ne (by omega)
 exact { b with s0:=(g 0 (by decide)).trans b.s0,s6:=(g 6 (by decide)).trans b.s6,s8:=(g 8 (by decide)).trans b.s8,s9:=(g 9 (by decide)).trans b.s9,s10:=(g 10 (by decide)).trans b.s10,s11:=(g 11 (by decide)).trans b.s11 }
theorem zbR (b:Bo σ H G l f t qs ms m hd n){i:Nat}{wy:Int}(s7:σ[7]?=some (some (.int wy))) (ew:wy=(i:Int)+10) (hi:i<4) (sz:σ.length=15) (k:∀ u v G',Rs K qs.length H l f G'→D.nx ((σ.set 13 u).set 14 v) G'):VM (zaQ 13 14 (zD (tSl (Vz K) (ya 9) wk (Z0 (ya 11))) (zD (tSl (Vz K) (ya 9) (Z0 (tOp (rI0 fun i j=>.int (i+j)) (ya 11) (tC (.int 1)))) wk) yQ))) (vH (ya 6) (ya 8) (tOp (u6 K) (ud (zD (tOp VA (ya 13) (ya 14)) (zD (ud (zD (tOp (WZ K) (ya 8) (tC (.int 1))) (zD (tOp (WZ K) (ya 8) (tC (.int 0))) yQ))) (zD (tOp VA (ya 9) (ud (zD (ya 10) yQ))) (zD (tOp VA (tOp VA (ya 13) (ud (zD (tOp rEq (tOp (u6 K) (ya 9) (ya 11)) (tC (.int 1))) yQ))) (ya 14)) yQ))))) (tOp (rI0 fun i j=>.int (i-j)) (ya 7) (tC (.int 10))))) D σ G:=by
 have l1:=b.l100
 obtain⟨y1,e1,z1⟩:=uI (xs:=m.2.2) (lo:=none) (hi:=some (n:Int))
 obtain⟨y2,e2,z2⟩:=uI (xs:=m.2.2) (lo:=some ((n:Int)+1)) (hi:=none)
 refine⟨_,b.s9,_,b.s11,_,rfl,_,_,rfl,SqL.of b.row,fun p hp=>?_⟩
 rw[e1]
 have n1:=Same.new (o:=HO.lst (y1.map V.int)) hp
 refine⟨_,b.s9,_,b.s11,_,_,rfl,rfl,_,rfl,_,_,rfl,SqL.of (n1 _ _ b.row),fun r hr=>?_⟩
 rw[e2]
 have n2:=n1.trans (Same.new (o:=HO.lst (y2.map V.int)) hr)
 have hp2:=Same.new (o:=HO.lst (y2.map V.int)) hr _ _ (upd_same (H:=G) (a:=p) (o:=HO.lst (y1.map V.int)))
 have hr2:=upd_same (H:=upd G p (.lst (y1.map V.int))) (a:=r) (o:=HO.lst (y2.map V.int))
 have npl:=b.o.x.ne hp
 have nrl:=(b.o.x.same n1).ne hr
 generalize upd (upd G p (.lst (y1.map V.int))) r (.lst (y2.map V.int))=G2 at *
 refine⟨_,_,rfl,?_⟩
 have b2:=((b.same n2).set (i:=13) (v:=some (.ref p)) (by decide)).set (i:=14) (v:=some (.ref r)) (by decide)
 have g13:((σ.set 13 (some (.ref p))).set 14 (some (.ref r)))[13]?=some (some (.ref p)):=by rw[List.getElem?_set_ne (by decide)];exact List.getElem?_set_self (by omega)
 have g14:((σ.set 13 (some (.ref p))).set 14 (some (.ref r)))[14]?=some (some (.ref r)):=List.getElem?_set_self (by rw[List.length_set];omega)
 have g7:((σ.set 13 (some (.ref p))).set 14 (some (.ref r)))[7]?=some (some (.int wy)):=by rw[List.getElem?_set_ne (by decide),List.getElem?_set_ne (by decide)];exact s7
 have k2:=k (some (.ref p)) (some (.ref r))
 generalize (σ.set 13 (some (.ref p))).set 14 (some (.ref r))=σ2 at *
 have S:Stb (Rz K l):=Rz.stb
 have x2:=b2.o.x
 have v13:Gv σ2 G2 (Ly K l 100) (ya 13):=vY g13 Ly.stb (Ly.int hp2 npl (by omega))
 have v14:Gv σ2 G2 (Ly K l 100) (ya 14):=vY g14 Ly.stb (Ly.int hr2 nrl (by omega))
 have v9:Gv σ2 G2 (Ly K l 100) (ya 9):=vY b2.s9 Ly.stb (Ly.int b2.row (b2.o.rl m b2.hm) l1)
 dsimp only
 unfold vH
 refine U9 (φ:=Rz K l) (k:=4) (i:=i) ?_ S hi (by decide) (fun H1 _ Q q=>⟨_,g7,_,_,rfl,rfl,by show Q (.int (wy-10)) H1;rw[ew,Int.add_sub_cancel];exact q⟩) fun v H' s' hv=>?_
 ·refine zN S (XO (Zj v13 v14 x2 (by decide)) (by decide)) (zN S (XO (UA (fun H1 s Q q=>⟨_,b2.s8,t,_,1,_,rfl,rfl,SqT.of (s _ _ b2.ht),rfl,q⟩) (fun H1 s Q q=>⟨_,b2.s8,t,_,0,_,rfl,rfl,SqT.of (s _ _ b2.ht),rfl,q⟩) x2) (by decide)) (zN S (XO (Zj v9 (Wx (vY b2.s10 Wz.stb ⟨_,.int hd⟩) x2) x2 (by decide)) (by decide)) (zN S (XO (Zj (Zj v13 (Wx (fun H1 s Q q=>⟨_,b2.s9,_,b2.s11,_,_,_,_,rfl,rfl,SqL.of (s _ _ b2.row),b2.el,rfl,q _ _ (Same.refl _) ⟨_,.bl _⟩⟩) x2) x2 (by decide)) v14 x2 (by decide)) (by decide)) Zk)))
 ·obtain⟨G',h1,h2⟩:=(b2.same s').putR hv
  exact⟨_,b2.s6,_,b2.s8,f,G',rfl,h1,k2 _ h2⟩
end
open L2.Sco (PT PsAt)
section
variable {K:PySem.W.Frag}{H G G0:Hp}{l f:Addr}{N:Nat}{wy:Int}{σ0 σ:St}{D:Ends}
def Iv (K:PySem.W.Frag) (N:Nat) (H:Hp) (l f:Addr) (σ0:St) (G0:Hp) (wy i:Int) (σ:St) (G:Hp):Prop:=(σ=σ0∧G=G0∧i≤wy)∨(σ[6]?=some (some (.ref f))∧σ[7]?=some (some (.int wy))∧wy<i∧Rs K N H l f G)
theorem ivS {i:Int}{A u:TS}(s6:σ0[6]?=some (some (.ref f))) (s7:σ0[7]?=some (some (.int wy))) (I:Iv K N H l f σ0 G0 wy i σ G) (hA:wy=i→∀ D':Ends,(∀ G',Rs K N H l f G'→D'.nx σ0 G')→A D' σ0 G0) (hu:∀ σ' G',Iv K N H l f σ0 G0 wy (i+1) σ' G'→u D σ' G'):VL (UL (Xm (tOp rEq (ya 7) (tC (.int i)))) A WK) u D σ G:=by
 refine⟨Iv K N H l f σ0 G0 wy (i+1),?_,hu⟩
 rcases I with⟨rfl,rfl,h⟩ | ⟨h6,h7,h,r⟩
 ·refine⟨_,s7,rfl,_,rfl,?_⟩
  by_cases c:wy=i
  ·exact iteB (by rw[c];exact decide_eq_true rfl) (hA c _ fun G' r=>.inr ⟨s6,s7,by omega,r⟩)
  ·exact iteN (decide_eq_false fun z=>c (by injection z)) (.inl ⟨rfl,rfl,by omega⟩)
 ·exact⟨_,h7,rfl,_,rfl,iteN (decide_eq_false fun z=>by injection z with z;omega) (.inr ⟨h6,h7,by omega,r⟩)⟩
end
def za0 (K:PySem.W.Frag):Sp:=fun vs H Q _=>∃ (l h lp pd d lb:Addr) (ps:List PT) (js:List JP) (rb:List V) (bs:LP) (us hs:LI) (pf:Int→Option Int) (pa:Int→LI),vs=[.ref l,.ref h,.ref lp,.ref pd,.ref d,.ref lb]∧Oq H l lp pd d lb ps js rb bs us pf pa∧H h=some (.lst (hs.map V.int))∧h≠l∧0<hs.length∧∀ (f:Addr) (G:Hp),Rs K ps.length H l f G→Q (.ref f) G
theorem zak (T:Txt w K mg a):FnOk P w K mg base CX0 3 410 (dK K 410) ["_law_xs", "_law_hands_here", "_law_pairs_here", "_law_paper", "_law_parents", "_law_bridges"] (za0 K):=by
 have c__law_take:Callee P w K mg base "_law_take" 350 (dK K 350) ["_law_xs", "_law_size"] 1 xf:=⟨wt T,(T.g 21 rfl),(T.fn 21 rfl).kp,(T.bi 21 rfl)⟩
 have c__law_roads:Callee P w K mg base "_law_roads" 400 (dK K 400) ["_law_parents", "_law_bridges", "_law_hand", "_law_other"] 2 VW:=⟨Vh T,(T.g 29 rfl),(T.fn 29 rfl).kp,(T.bi 29 rfl)⟩
 refine(T.fn 31 rfl).ok (scp 31 rfl) (fun vs H Q E h=>?_) (fun cdv A outer s H vs Q E hr h=>?_)
 ·obtain⟨l,h,lp,pd,d,lb,ps,js,rb,bs,us,hs,pf,pa,rfl,_⟩:=h
  rfl
 ·obtain⟨l,h,lp,pd,d,lb,ps,js,rb,bs,us,hs,pf,pa,rfl,O,hh,nhl,h0,k⟩:=h
  have hu:=xo hr
  refine yd (zb (zm (i:=6) (scp 31 rfl).nd rfl (Or.inl rfl) (zL (wW rfl) (by rfl) (T.n 5 rfl) xT (zk (Zw (yo rfl (N':=["_law_pair", "_law_road"]) (t:=2) (caps:=[]) ⟨rfl,rfl,rfl⟩ (uf (zh 3)) (fun _=>(yk rfl (zy (zn (i:=0) (show(["_law_pair", "_law_road"]:List Str).Nodup by decide +kernel) rfl (Or.inl rfl)) (zy (zn (i:=1) (show(["_law_pair", "_law_road"]:List Str).Nodup by decide +kernel) rfl (Or.inl rfl)) zY)))) (fun _=>yF) (fun _=>(zJ (zd (zh 0) (zT (zL yp (by rfl) (T.n 4 rfl) bt_list (zd (zh 1) za)) za)))))) za)))
   (zb (zm (i:=7) (scp 31 rfl).nd rfl (Or.inl rfl) (zr c__law_take hr.m (zd (zh 0) (zK ze za))))
   (zb (zm (i:=8) (scp 31 rfl).nd rfl (Or.inl rfl) (zv zF (zh 2) (zr c__law_take hr.m (zd (zh 0) (zT (zj zw (by rfl) (T.n 0 rfl) yh (zd (zh 2) za)) za))) (fun _ _=>rfl)))
   (zb (zm (i:=9) (scp 31 rfl).nd rfl (Or.inl rfl) (yL hu (zh 6) (zh 8) (fun _ _=>rfl)))
   (zb (zm (i:=10) (scp 31 rfl).nd rfl (Or.inl rfl) (zv zF (zh 1) (zr c__law_take hr.m (zd (zh 0) (zT (zj zw (by rfl) (T.n 0 rfl) yh (zd (zh 1) za)) za))) (fun _ _=>rfl)))
   (zb (zm (i:=11) (scp 31 rfl).nd rfl (Or.inl rfl) (zr c__law_take hr.m (zd (zh 0) (zT (zj zw (by rfl) (T.n 0 rfl) yh (zd (zh 9) za)) za))))
   (zX (zB (zo yG (zh 7) ze (zC _))
    (zg (zQ (wK hu (zh 6) (zh 8) ⟨rfl,rfl,rfl,rfl⟩)))
    zp)
   (zX (zB (zo yG (zh 7) ze (zC _))
    (zg (Zu hu (zh 6) (zv zF (zA (xc (zJ (zd (zh 10) (zd (zh 10) za))) (xc (zJ (zd (zh 10) (zK ze za))) (zd (zh 10) (zK yC (zK uQ (xc (zJ (zd (zh 10) za)) (yS (zu Vf (zh 8) (zJ (zK ze za))) za)))))))) (zr c__law_take hr.m (zd (zh 0) (zK ze za))) (fun _ _=>rfl)) (zL yp (by rfl) (T.n 4 rfl) bt_list (zd (zh 9) za)) rfl))
    zp)
   (zX (zB (zo yG (zh 7) ze (zC _))
    (zb (zQ (wK hu (zh 6) (zh 8) ⟨rfl,rfl,rfl,rfl⟩))
    (zg (yw hu (zh 6) (zJ (zk (zv yc (zh 8) ze (fun _ _=>rfl)) (zT (zL xX (by rfl) (T.n 7 rfl) WD (zk (zv yc (zh 8) ze (fun _ _=>rfl)) za)) za))) (zh 9) rfl)))
    zp)
   (zX (zB (zo yG (zh 7) ze (zC _))
    (zg (yw hu (zh 6) (zh 8) (zv zF (zA (zT (zL yZ (by rfl) (T.n 9 rfl) xa (zd (zh 9) za)) (zk (zA za) (zK yC (zk (zP yz (zh 9) (w_po_some ze) yf) (zk (zP yz (zh 9) yf (w_po_some (yx yN ze))) (zk xK (zK uQ (zK ze za))))))))) (zr c__law_take hr.m (zd (zh 0) (zK ze za))) (fun _ _=>rfl)) rfl))
    zp)
   (zX (zB (zo yG (zh 7) ze (zC _))
    (zg (zQ (yu PySem.F.plainAttrs_list PySem.F.slot_list_insert PySem.F.type_list_insert YC (zh 9) (zd (zh 11) (zk (zv zF (zh 9) (zh 11) (fun _ _=>rfl)) za)))))
    zp)
   (zX (zB (zo yG (zh 7) ze (zC _))
    (zg (xZ (zh 10) (uP (zh 9) (zh 11) u0)))
    zp)
   (zX (zB (zo yG (zh 7) ze (zC _))
    (zg (xZ (zv zF (zA (zK zI (zK zI (zK yC (zT (zL xX (by rfl) (T.n 7 rfl) WD (zk (zv zF (zh 9) (zh 11) (fun _ _=>rfl)) za)) (xc (zJ (zk (zv zF (zh 9) (zh 11) (fun _ _=>rfl)) za)) (VD (yx yN ze) (zk (zA (zk (zv zF (zh 9) (zh 11) (fun _ _=>rfl)) za)) (zk xK za))))))))) (zr c__law_take hr.m (zd (zh 0) (zK ze za))) (fun _ _=>rfl)) (uP (zh 9) (zh 11) u0)))
    zp)
   (zX (zB (zo yG (zh 7) ze (zC _))
    (zg (yw hu (zh 6) (zh 8) (zL yp (by rfl) (T.n 4 rfl) bt_list (zk (yL hu (zh 3) (zv zF (zh 2) (zr c__law_take hr.m (zd (zh 0) (zT (zj zw (by rfl) (T.n 0 rfl) yh (zd (zh 2) za)) za))) (fun _ _=>rfl)) (fun _ _=>rfl)) za)) rfl))
    zp)
   (zX (zB (zo yG (zh 7) ze (zC _))
    (zg (zQ (Xf PySem.F.plainAttrs_list PySem.F.slot_list_reverse PySem.F.type_list_reverse ZF (zh 9))))
    zp)
   (zX (zB (zo yG (zh 7) ze (zC _))
    (zb (zm (i:=12) (scp 31 rfl).nd rfl (Or.inl rfl) (zr c__law_roads hr.m (zd (zh 4) (zd (zh 5) (zk (zv yc (zh 8) ze (fun _ _=>rfl)) (zk (zv yc (zh 8) ze (fun _ _=>rfl)) za))))))
    (zg (yw hu (zh 6) (zh 8) (zv zF (zh 12) (zr c__law_take hr.m (zd (zh 0) (zT (zj zw (by rfl) (T.n 0 rfl) yh (zd (zh 12) za)) za))) (fun _ _=>rfl)) rfl)))
    zp)
   (zX (zB (zo uy (zh 7) ze (zC _))
    (zb (Xc (i:=13) (j:=14) rfl (scp 31 rfl).nd rfl rfl (by decide) rfl rfl (zk (zP yz (zh 9) yf (w_po_some (zh 11))) (zk (zP yz (zh 9) (w_po_some (zu xk (zh 11) ze)) yf) za)) rfl)
    (zg (yw hu (zh 6) (zh 8) (zv zF (zA (yS (zu yO (zh 13) (zh 14)) (zk (zA (zk (zv yc (zh 8) ze (fun _ _=>rfl)) (zk (zv yc (zh 8) ze (fun _ _=>rfl)) za))) (yS (zu yO (zh 9) (zA (zd (zh 10) za))) (yS (zu yO (zu yO (zh 13) (zA (zk (yg yG (zv zF (zh 9) (zh 11) (fun _ _=>rfl)) ze (zC _)) za))) (zh 14)) za))))) (zu wo (zh 7) ze) (fun _ _=>rfl)) rfl)))
    zp)
   (zg (zi (zh 6)))))))))))))))))))) ?_
  have ljs:js.length=ps.length:=by rw[← List.length_map (f:=(·.1)),O.ks,List.length_map]
  have lp1:=O.p1
  have pdl:pd≠l:=fun z=>by
   obtain⟨zs,e,_⟩:=O.x
   have:=O.dd
   rw[z,e] at this
   cases this
  refine⟨_,rfl,pd,kvP js,rfl,O.dd,fun od S Dd hDd _=>?_⟩
  have nDd:Dd≠pd:=fun z=>by rw[z,upd_same] at hDd;cases hDd
  generalize hG2:upd H pd (HO.frz od (HO.dT (kvP js)))=G2 at *
  have hz2:G2 pd=some (.frz od (.dT (kvP js))):=by rw[← hG2];exact upd_same
  have x2:Ext pd H G2:=by rw[← hG2];exact Ext.at
  have back:∀ {G':Hp},Same G2 G'→Same H (upd G' pd (.dT (kvP js))):=fun {G'} sm b o e=>by
   by_cases z:b=pd
   ·rw[z,O.dd] at e;cases e;rw[z];exact upd_same
   ·rw[upd_ne z];exact sm _ _ (x2 _ _ e z)
  have rowx:∀ j∈js,G2 j.2.1=some (.lst (j.2.2.map V.int)):=fun j hj=>x2 _ _ (O.row j hj).1 fun z=>by have:=(O.row j hj).1;rw[z,O.dd] at this;cases this
  refine ZN (d:=pd) (od:=od) (kvs:=kvP js) (fun i zs τ G'=>∃ (o1 o2:Option V) (ms:List (Addr×Addr×JP)),τ=[o1,o2]∧zs=(ms.map (·.1)).map V.ref∧G' Dd=some (.lst zs)∧ms.map (fun m=>(m.2.2.1,m.2.2.2.2))=(js.take i).map (fun j=>(j.1,j.2.2))∧(∀ m∈ms,G' m.1=some (.tup [.ref m.2.1,.ref m.2.2.2.1])∧G' m.2.1=some (.tup ((yb m.2.2.1).map kV))∧G' m.2.2.2.1=some (.lst (m.2.2.2.2.map V.int))∧m.2.2.2.1≠Dd∧H m.2.2.2.1=none)∧(ms.map (·.2.2.2.1)).Nodup∧Same G2 G') ?_ ?_ ?_ ?_
  ·exact⟨none,none,[],rfl,rfl,upd_same,by simp,(fun m hm=>(nomatch hm)),List.Pairwise.nil,Same.new hDd⟩
  ·rintro i zs τ G' ⟨o1,o2,ms,_,_,_,_,_,_,sm⟩
   exact sm _ _ hz2
  ·rintro i kv b p zs τ G' hkv hb hp ⟨o1,o2,ms,rfl,rfl,hD',em,hms,hnd,sm⟩
   unfold kvP at hkv
   rw[List.getElem?_map] at hkv
   obtain⟨j,hj,e⟩:=Option.map_eq_some_iff.mp hkv
   subst e
   have hjm:=List.mem_of_getElem? hj
   have lms:ms.length≤132:=by
    have e:=congrArg List.length em
    rw[List.length_map,List.length_map,List.length_take] at e
    omega
   have n1:=Same.new (o:=HO.tup [V.ref b,V.ref j.2.1]) hp
   have e1:=upd_same (H:=G') (a:=p) (o:=HO.tup [V.ref b,V.ref j.2.1])
   dsimp only
   generalize upd G' p (HO.tup [V.ref b,V.ref j.2.1])=G3 at *
   refine⟨p,_,rfl,SqT.of e1,rfl,_,_,rfl,_,_,rfl,rfl,yes_if ?_⟩
   refine⟨_,rfl,_,rfl,j.2.1,_,rfl,.inl (SqL.of (n1 _ _ (sm _ _ (rowx j hjm)))),fun lc hlc=>?_⟩
   have n2:=Same.new (o:=HO.lst (j.2.2.map V.int)) hlc
   have e2:=upd_same (H:=G3) (a:=lc) (o:=HO.lst (j.2.2.map V.int))
   have ncD:lc≠Dd:=fun z=>by rw[z,n1 _ _ hD'] at hlc;cases hlc
   have hlH:H lc=none:=x2.free (fun z=>by rw[z,n1 _ _ (sm _ _ hz2)] at hlc;cases hlc) (sm.free (n1.free hlc))
   have hlm:∀ m∈ms,m.2.2.2.1≠lc:=fun m hm z=>by
    have:=n1 _ _ (hms m hm).2.2.1
    rw[z,hlc] at this
    cases this
   generalize upd G3 lc (HO.lst (j.2.2.map V.int))=G4 at *
   refine⟨(by show 2≤sizeLine;decide),fun pt hpt=>?_⟩
   have n3:=Same.new (o:=HO.tup [V.ref b,V.ref lc]) hpt
   have e3:=upd_same (H:=G4) (a:=pt) (o:=HO.tup [V.ref b,V.ref lc])
   generalize upd G4 pt (HO.tup [V.ref b,V.ref lc])=G5 at *
   have n13:=(n1.trans n2).trans n3
   have hD5:=n13 _ _ hD'
   have tne:∀ {b:Addr}{xs:List V},G5 b=some (.tup xs)→b≠Dd:=fun {b xs} e z=>by rw[z,hD5] at e;cases e
   refine⟨hD5,by rw[List.length_map,List.length_map];exact zl (by omega),_,_,ms++[(pt,b,j.1,lc,j.2.2)],rfl,by simp,upd_same,?_,fun m hm=>?_,?_,Same.updF (sm.trans n13) hDd⟩
   ·rw[List.map_append,em,List.take_add_one,hj,List.map_append]
    rfl
   ·rcases List.mem_append.mp hm with z | z
    ·obtain⟨q1,q2,q3,q4,q5⟩:=hms m z
     have q1:=n13 _ _ q1
     have q2:=n13 _ _ q2
     exact⟨by rw[upd_ne (tne q1)];exact q1,by rw[upd_ne (tne q2)];exact q2,by rw[upd_ne q4];exact n13 _ _ q3,q4,q5⟩
    ·rw[List.mem_singleton.mp z]
     have hb5:=n13 _ _ hb
     exact⟨by rw[upd_ne (tne e3)];exact e3,by rw[upd_ne (tne hb5)];exact hb5,by rw[upd_ne ncD];exact n3 _ _ e2,ncD,hlH⟩
   ·rw[List.map_append,List.nodup_append]
    refine⟨hnd,by simp,fun x hx y hy e=>?_⟩
    obtain⟨m,hm,rfl⟩:=List.mem_map.mp hx
    rw[List.map_singleton] at hy
    exact hlm m hm (e.trans (List.mem_singleton.mp hy))
  rintro zs τ G3 ⟨o1,o2,ms,rfl,rfl,hD3,em,hms,hnd,sm⟩
  have hlk:(kvP js).length=js.length:=by unfold kvP;rw[List.length_map]
  rw[hlk,List.take_length] at em
  refine .inr ⟨pd,od,_,S,sm _ _ hz2,?_⟩
  have s14:=back sm
  have ne4:∀ {b:Addr}{o:HO},G3 b=some o→(∀ od u,o≠.frz od u)→(upd G3 pd (.dT (kvP js))) b=some o:=fun {b o} e n=>by
   rw[upd_ne (fun z=>by rw[z,sm _ _ hz2] at e;injection e with e;exact n _ _ e.symm)]
   exact e
  have hD4:=ne4 hD3 (fun _ _ z=>by cases z)
  have hms4:∀ m∈ms,(upd G3 pd (.dT (kvP js))) m.1=some (.tup [.ref m.2.1,.ref m.2.2.2.1])∧(upd G3 pd (.dT (kvP js))) m.2.1=some (.tup ((yb m.2.2.1).map kV))∧(upd G3 pd (.dT (kvP js))) m.2.2.2.1=some (.lst (m.2.2.2.2.map V.int))∧H m.2.2.2.1=none:=fun m hm=>by
   obtain⟨q1,q2,q3,_,q5⟩:=hms m hm
   exact⟨ne4 q1 (fun _ _ z=>by cases z),ne4 q2 (fun _ _ z=>by cases z),ne4 q3 (fun _ _ z=>by cases z),q5⟩
  clear hms ne4 hD3 sm x2 back rowx hz2 hG2 S hDd nDd
  generalize upd G3 pd (.dT (kvP js))=G4 at *
  have kml:ms.length=js.length:=by
   have e:=congrArg List.length em
   rw[List.length_map,List.length_map] at e
   exact e
  have e1:(ms.map (·.2.2)).map (·.1)=js.map (·.1):=by
   have e:=congrArg (List.map (·.1)) em
   rw[List.map_map,List.map_map] at e
   rw[List.map_map]
   exact e
  refine⟨Dd,ms.map (·.1),ms.map (·.2.1),kvP (ms.map (·.2.2)),rfl,hD4,?_,?_,?_,?_,Nat.lt_of_le_of_lt (Nat.add_le_add_left (by decide:5≤64) _) hr.units,fun i q' b' kv' a1 a2 a3=>?_,fun f hf=>?_⟩
  ·unfold kvP
   rw[List.length_map,List.length_map,List.length_map]
  ·unfold kvP
   rw[List.length_map,List.length_map,List.length_map]
  ·unfold kvP
   rw[List.length_map,List.length_map]
   omega
  ·rw[wc,e1]
   exact List.pairwise_map.mpr (O.nd.imp fun h e=>h (yn e))
  ·unfold kvP at a3
   rw[List.map_map] at a3
   rw[List.getElem?_map] at a1 a2 a3
   obtain⟨m,hm,rfl⟩:=Option.map_eq_some_iff.mp a1
   rw[hm] at a2 a3
   cases a2
   cases a3
   have:=hms4 m (List.mem_of_getElem? hm)
   exact⟨this.1,this.2.1⟩
  have n5:=Same.new (o:=HO.dT (kvP (ms.map (·.2.2)))) hf
  have hk5:=upd_same (H:=G4) (a:=f) (o:=HO.dT (kvP (ms.map (·.2.2))))
  have fH:=s14.free hf
  generalize upd G4 f (HO.dT (kvP (ms.map (·.2.2))))=G5 at *
  have s15:=s14.trans n5
  have hrow:∀ m∈ms.map (·.2.2),G5 m.2.1=some (.lst (m.2.2.map V.int))∧H m.2.1=none∧∃ j∈js,j.1=m.1∧j.2.2=m.2.2:=fun m hm=>by
   obtain⟨u,hu,rfl⟩:=List.mem_map.mp hm
   have hj:(u.2.2.1,u.2.2.2.2)∈js.map (fun j=>(j.1,j.2.2)):=by rw[← em];exact List.mem_map.mpr ⟨u,hu,rfl⟩
   obtain⟨j,hj,e⟩:=List.mem_map.mp hj
   injection e with e1 e2
   exact⟨n5 _ _ (hms4 u hu).2.2.1,(hms4 u hu).2.2.2,j,hj,e1,e2⟩
  have nda:((ms.map (·.2.2)).map (·.2.1)).Nodup:=by rw[List.map_map];exact hnd
  clear hms4 em hD4 hnd s14 n5 kml
  generalize ms.map (·.2.2)=ms' at *
  have ot:Ot H G5 l f (ps.map (·.2)) ms':=⟨hk5,fun m hm=>(hrow m hm).1,nda,e1.trans O.ks,by rw[← O.ks];exact O.nd,by rw[List.length_map];exact O.p1,fun m hm=>by obtain⟨_,_,j,hj,_,e⟩:=hrow m hm;rw[← e];exact⟨(O.row j hj).2.2.1,(O.row j hj).2.2.2.1⟩,O.x.same s15,Ext.same s15,fH,fun m hm=>(hrow m hm).2.1,O.x.ne fH,fun m hm=>O.x.ne (hrow m hm).2.1⟩
  have O5:=O.ext (Ext.same s15) ot.x
  have hh5:=s15 _ _ hh
  refine⟨_,rfl,l,14,rfl,ot.x,by decide,fun wy G6 w0 w1 x6 y6=>?_⟩
  have ot6:=ot.ext y6 x6
  have O6:=O5.ext y6 x6
  have p0:=O.p0
  refine⟨_,rfl,_,rfl,_,rfl,lp,_,rfl,.inl (SqL.of O6.hp),l,_,rfl,x6,by rw[List.length_map];omega,fun dr G7 d0 d1 x7 y7=>?_⟩
  rw[List.length_map] at d1
  obtain⟨i,rfl⟩:∃ i:Nat,dr=(i:Int):=⟨dr.toNat,by omega⟩
  have hi:i<ps.length:=by omega
  have ot7:=ot6.ext y7 x7
  have O7:=O6.ext y7 x7
  have hpm:=List.getElem_mem hi
  refine⟨lp,_,_,_,rfl,rfl,SqL.of O7.hp,zW (O7.len hi),?_⟩
  have hpt:=O7.pt _ hpm
  generalize hpp:ps[i]=p at *
  obtain⟨m,hm,em⟩:∃ m∈ms',m.1=p.2:=by
   have:p.2∈ms'.map (·.1):=by rw[e1,O.ks];exact List.mem_map.mpr ⟨p,hpm,rfl⟩
   obtain⟨m,hm,e⟩:=List.mem_map.mp this
   exact⟨m,hm,e⟩
  have dg:DGet G7 f (.ref p.1) (some (.ref m.2.1)):=by
   rw[← YG (by rw[e1];exact O.nd) hm,em]
   exact DGet.t (k:=yb p.2) ot7.dd hpt.1
  refine⟨_,rfl,_,rfl,f,_,rfl,dg,?_⟩
  have hh7:=y7 _ _ (y6 _ _ hh5 nhl) nhl
  refine⟨_,rfl,_,rfl,_,rfl,h,_,rfl,.inl (SqL.of hh7),l,_,rfl,x7,by rw[List.length_map];omega,fun dr G8 d0 d1 x8 y8=>?_⟩
  rw[List.length_map] at d1
  obtain⟨i2,rfl⟩:∃ i:Nat,dr=(i:Int):=⟨dr.toNat,by omega⟩
  have hi2:i2<hs.length:=by omega
  refine⟨h,_,_,_,rfl,rfl,SqL.of (y8 _ _ hh7 nhl),zW (by rw[List.getElem?_map,List.getElem?_eq_getElem hi2];rfl),?_⟩
  have ot8:=ot7.ext y8 x8
  have O8:=O7.ext y8 x8
  have ml:=ot8.len m hm
  refine⟨_,rfl,_,rfl,_,_,rfl,.inl (SqL.of (ot8.row m hm)),l,_,rfl,x8,by rw[List.length_map];omega,fun dr G9 d0 d1 x9 y9=>?_⟩
  rw[List.length_map] at d1
  obtain⟨n,rfl⟩:∃ i:Nat,dr=(i:Int):=⟨dr.toNat,by omega⟩
  have hn:n<m.2.2.length:=by omega
  have ot9:=ot8.ext y9 x9
  have O9:=O8.ext y9 x9
  have hpt9:=O9.pt _ hpm
  generalize hs[i2]=hd at *
  obtain⟨_,_,j,hj,_,ej⟩:=hrow m hm
  have b:Bo [some (.ref l),some (.ref h),some (.ref lp),some (.ref pd),some (.ref d),some (.ref lb),some (.ref f),some (.int wy),some (.ref p.1),some (.ref m.2.1),some (.int hd),some (.int n),none,none,none] H G9 l f p.1 (ps.map (·.2)) ms' m hd n:=⟨ot9,hm,rfl,rfl,rfl,rfl,rfl,rfl,hn,by rw[em];exact hpt9.1,by rw[em];exact hpt9.2.1,by rw[← ej];exact(O.row j hj).2.2.2.2⟩
  have lq:(ps.map (·.2)).length=ps.length:=List.length_map ..
  clear hrow
  generalize hσ:([some (.ref l),some (.ref h),some (.ref lp),some (.ref pd),some (.ref d),some (.ref lb),some (.ref f),some (.int wy),some (.ref p.1),some (.ref m.2.1),some (.int hd),some (.int n),none,none,none]:St)=σ0 at *
  have s7:σ0[7]?=some (some (.int wy)):=by rw[← hσ];rfl
  refine ivS (K:=K) b.s6 s7 (.inl ⟨hσ,rfl,w0⟩) (fun _ D' q=>bo0 b q) fun σ1 H1 I=>?_
  refine ivS (K:=K) b.s6 s7 I (fun _ D' q=>bo1 b (T.k 9 rfl) (T.k 12 rfl) (T.k 22 rfl) q) fun σ2 H2 I=>?_
  refine ivS (K:=K) b.s6 s7 I (fun _ D' q=>bo2 b q) fun σ3 H3 I=>?_
  refine ivS (K:=K) b.s6 s7 I (fun _ D' q=>bo3 b (T.k 4 rfl) (T.k 11 rfl) (T.k 5 rfl) (T.k 26 rfl) (T.k 8 rfl) q) fun σ4 H4 I=>?_
  refine ivS (K:=K) b.s6 s7 I (fun _ D' q=>bo4 b q) fun σ5 H5 I=>?_
  refine ivS (K:=K) b.s6 s7 I (fun _ D' q=>bo5 b q) fun σ6 H6 I=>?_
  refine ivS (K:=K) b.s6 s7 I (fun _ D' q=>bo6 b (T.k 23 rfl) (T.k 14 rfl) (T.k 27 rfl) (T.k 15 rfl) (T.k 28 rfl) q) fun σ7 H7 I=>?_
  refine ivS (K:=K) b.s6 s7 I (fun _ D' q=>bo7 b O9 (by rw[← hσ];rfl) (by rw[← hσ];rfl) q) fun σ8 H8 I=>?_
  refine ivS (K:=K) b.s6 s7 I (fun _ D' q=>bo8 b q) fun σ9 H9 I=>?_
  have sz:σ0.length=15:=by rw[← hσ];rfl
  refine⟨Iv K (ps.map (·.2)).length H l f σ0 G9 wy 10,?_,fun σ10 H10 I=>⟨Iv K (ps.map (·.2)).length H l f σ0 G9 wy 14,?_,fun σ11 H11 I=>?_⟩⟩
  ·rcases I with⟨rfl,rfl,h⟩ | ⟨h6,h7,h,r⟩
   ·refine⟨_,s7,rfl,_,rfl,?_⟩
    by_cases c:wy=9
    ·exact iteB (by rw[c];exact decide_eq_true rfl) (bo9 b O9 hpm em.symm (by rw[← hσ];rfl) (by rw[← hσ];rfl) sz fun v G' r=>.inr ⟨by rw[List.getElem?_set_ne (by decide)];exact b.s6,by rw[List.getElem?_set_ne (by decide)];exact s7,by omega,r⟩)
    ·exact iteN (decide_eq_false fun z=>c (by injection z)) (.inl ⟨rfl,rfl,by omega⟩)
   ·exact⟨_,h7,rfl,_,rfl,iteN (decide_eq_false fun z=>by injection z with z;omega) (.inr ⟨h6,h7,by omega,r⟩)⟩
  ·rcases I with⟨rfl,rfl,h⟩ | ⟨h6,h7,h,r⟩
   ·refine⟨_,s7,_,_,rfl,rfl,_,rfl,iteB (decide_eq_true (by omega)) ?_⟩
    exact zbR b (i:=(wy-10).toNat) s7 (by omega) (by omega) sz fun u v G' r=>.inr ⟨by rw[List.getElem?_set_ne (by decide),List.getElem?_set_ne (by decide)];exact b.s6,by rw[List.getElem?_set_ne (by decide),List.getElem?_set_ne (by decide)];exact s7,by omega,r⟩
   ·exact⟨_,h7,_,_,rfl,rfl,_,rfl,iteN (decide_eq_false (by omega)) (.inr ⟨h6,h7,by omega,r⟩)⟩
  ·rcases I with⟨_,_,h⟩ | ⟨h6,h7,h,r⟩
   ·omega
   ·rw[lq] at r
    exact⟨_,h6,k _ _ r⟩
end
end K04
namespace L2
open PySem
section
variable {X:Cx}
theorem Ud:OpR X (compareOp .Is) (fun x y H Q=>∃ b,x=.bl b∧y=.bl true∧Q (.bl b) H):=by
 intro pins s σ H x y v u Q I rx ry h
 obtain⟨b,rfl,rfl,q⟩:=h
 cases rx
 cases ry
 have e:compareOp .Is (.bool b) (.bool true)=pure (.bool b):=by cases b<;>rfl
 rw[e]
 exact wpAny_pure ⟨.bl b,H,I,rfl,q⟩
end
theorem FnOk.ex {P:Program}{w:World}{K:PySem.W.Frag}{mg:Str→Option Value}{base:Heap}{CX:CXT}{k:Nat}{f:Addr}{fd:FuncData}{ps:List Str}{sp:Nat→Sp}(F:∀ n,FnOk P w K mg base CX k f fd ps (sp n)):FnOk P w K mg base CX k f fd ps (fun vs H Q E=>∃ n,sp n vs H Q E) :=
 ⟨fun vs H Q E ⟨n,q⟩=>(F n).len vs H Q E q,fun A outer s H args us vs Q E hr he hb hv ⟨n,hs⟩=>(F n).run A outer s H args us vs Q E hr he hb hv hs⟩
end L2
namespace K04
open PySem L2
open L2.Sco (PT PsAt)
theorem sqX {K:PySem.W.Frag}{H H':Hp}{a l:Addr}{xs:List V}(h:SqL K H a xs) (hn:H l=none) (y:Ext l H H'):SqL K H' a xs:=by
 rcases h with(h | ⟨o,h⟩) | h
 ·exact .inl (.inl (y _ _ h (ne_of_none h hn)))
 ·exact .inl (.inr ⟨o,y _ _ h (ne_of_none h hn)⟩)
 ·exact .inr h
theorem Near.extX {H H':Hp}{l d:Addr}{hs:LI}{ls:LP}{ad:Int→Addr}(n:Near H d hs ls ad) (y:Ext l H H') (n1:d≠l) (n2:∀ x∈hs,ad x≠l):Near H' d hs ls ad:=⟨y _ _ n.d n1,fun h m=>y _ _ (n.nb h m) (n2 h m)⟩
theorem WebAt.extX {a:Ad}{H H':Hp}{l p dx oh ol d:Addr}{hs:LI}{ls:LP}{ad:Int→Addr}(w:WebAt a H p hs ls dx oh ol d ad) (x:XsAt H l) (y:Ext l H H') (n1:oh≠l) (n2:ol≠l) (n4:∀ x∈hs,ad x≠l):WebAt a H' p hs ls dx oh ol d ad:=by
 obtain⟨ms,e',_⟩:=x
 refine⟨y _ _ w.p fun z=>?_,y _ _ w.oh n1,w.nr.extX y (fun z=>?_) n4,by obtain⟨zs,e1,e2⟩:=w.ol;exact⟨zs,y _ _ e1 n2,e2.extX ⟨ms,e',by assumption⟩ y⟩⟩
 ·have:=w.p;rw[z,e'] at this;cases this
 ·have:=w.nr.d;rw[z,e'] at this;cases this
theorem Gd.pa {hs:LI}{ls:LP}{pf:Int→Option Int}{pa:Int→LI}{us:LI}{bs:LP}(D:Gd hs ls pf pa us bs){x:Int}(hx:x∈us):paO pf x=pa x:=wR (D.U.en hx)
theorem Us {pa pb:Int→LI}{x:Int}(h:pa x=pb x):ldr pa x=ldr pb x:=by unfold ldr;rw[h]
theorem Gd.gg {hs:LI}{ls:LP}{pf:Int→Option Int}{pa:Int→LI}{us:LI}{bs:LP}(D:Gd hs ls pf pa us bs) (wl:Ls hs ls):GG us ls pf bs:=by
 have el:∀ {x},x∈us→ldr (paO pf) x=ldr pa x:=fun {x} hx=>Us (D.pa hx)
 have bu:∀ {b},b∈bs→b.1∈us∧b.2∈us:=fun {b} hb=>⟨(D.m _).mpr (D.B.ok b hb).1,(D.m _).mpr (D.B.ok b hb).2.1⟩
 refine⟨⟨D.ad,fun x hx=>⟨_,D.U.en hx⟩,fun b hb=>⟨by unfold adB;rw[Bool.or_eq_true];exact .inl (decide_eq_true (D.inl b hb)),Int.le_of_lt (D.B.ok b hb).2.2,?_⟩,D.B.nd⟩,fun p hp hne=>?_⟩
 ·rw[el (bu hb).1,el (bu hb).2]
  exact D.df b hb
 ·have hpu:p.1∈us∧p.2∈us:=⟨(D.m _).mpr (wl.ok p hp).1,(D.m _).mpr (wl.ok p hp).2.1⟩
  rw[el hpu.1,el hpu.2] at hne
  obtain⟨b,hb,e⟩:=D.cov p hp hne
  refine⟨b,hb,?_⟩
  unfold jk at e ⊢
  rw[el hpu.1,el hpu.2,el (bu hb).1,el (bu hb).2]
  exact e
theorem Yc {us:LI}{pf:Int→Option Int}{pa:Int→LI}(U:UpP us pf pa){h n:Int}(hh:h∈us) (hn:n∈us):1≤(rdW pa h n).length∧∀ v∈rdW pa h n,v∈us:=by
 have h1:=(U.len hn).1
 unfold rdW
 refine⟨by rw[List.length_append];omega,fun v hv=>?_⟩
 rcases List.mem_append.mp hv with z | z
 ·exact(U.ld hn).2.2.2.2 v z
 ·exact(U.ld hh).2.2.2.2 v (List.mem_reverse.mp (List.mem_of_mem_drop z))
theorem Ya {us:LI}{pf:Int→Option Int}{pa:Int→LI}(U:UpP us pf pa) (u12:us.length≤12){ds:LP}(hd:∀ q∈ds,q.1∈us∧q.2∈us){h n:Int}(hh:h∈us) (hn:n∈us){r:LI}(hr:r∈rfs pa ds h n):1≤r.length∧r.length≤100∧∀ v∈r,v∈us:=by
 unfold rfs at hr
 by_cases c:ldr pa n=ldr pa h
 ·rw[if_pos c] at hr
  rw[List.mem_singleton.mp hr]
  have:=wm U hh hn
  have:=Yc U hh hn
  exact⟨this.1,by omega,this.2⟩
 ·rw[if_neg c] at hr
  obtain⟨q,hq,rfl⟩:=List.mem_map.mp hr
  have hq':=hd q (List.mem_filter.mp hq).1
  have a1:=wm U hq'.1 hn
  have a2:=wm U hh hq'.2
  have a3:=Yc U hq'.1 hn
  have a4:=Yc U hh hq'.2
  unfold rdO
  refine⟨by rw[List.length_append];omega,by rw[List.length_append];omega,fun v hv=>?_⟩
  rcases List.mem_append.mp hv with z | z
  ·exact a3.2 v z
  ·exact a4.2 v z
theorem Ur {x:Int}(h0:0≤x) (h1:x≤99):x.natAbs.log2<1920:=by
 have h:x.natAbs<2 ^ 7:=by show x.natAbs<128;omega
 by_cases z:x.natAbs=0
 ·rw[z];decide
 ·have:=(Nat.log2_lt z).mpr h
  omega
theorem Uy {K:PySem.W.Frag}{G:Hp}:∀ {js:List JG},(∀ j∈js,RvAt K G j.2.1 j.2.2)→(∀ j∈js,∃ r,j.2.2=some r)→∃ ms:List JP,kvP ms=kvG js∧ms.map (fun m=>(m.1,some m.2.2))=jr js∧∀ m∈ms,G m.2.1=some (.lst (m.2.2.map V.int))
 |[],_,_=>⟨[],rfl,rfl,fun m hm=>nomatch hm⟩
 |(q,v,o)::js,h,h'=>by
  obtain⟨ms,e1,e2,e3⟩:=Uy (js:=js) (fun j hj=>h j (List.mem_cons_of_mem _ hj)) fun j hj=>h' j (List.mem_cons_of_mem _ hj)
  have h1:=h _ List.mem_cons_self
  obtain⟨r,er⟩:=h' _ List.mem_cons_self
  dsimp only at h1 er
  subst er
  cases h1 with
  | @itl ad _ e _ =>
   refine⟨(q,ad,r)::ms,?_,?_,fun m hm=>?_⟩
   ·show(yb q,V.ref ad)::kvP ms=(yb q,V.ref ad)::kvG js
    rw[e1]
   ·show(q,some r)::ms.map (fun m=>(m.1,some m.2.2))=(q,some r)::jr js
    rw[e2]
   ·rcases List.mem_cons.mp hm with z | z
    ·rw[z];exact e
    ·exact e3 m z
theorem ho_du {us:LI}{ls bs:LP}{pf:Int→Option Int}{js:List JR}(g:GrB us ls pf bs):HoG us ls pf bs js↔DuB (srt (dbl (srt ls))) pf bs js:=by
 have pm:=ym (dbl (srt ls))
 constructor
 ·intro h
  exact⟨fun j hj=>pm.mem_iff.mpr (h.kk j hj),by rw[pm.length_eq];exact h.ln,h.rd⟩
 ·intro h
  exact⟨g,fun j hj=>pm.mem_iff.mp (h.1 j hj),by rw[← pm.length_eq];exact h.2.1,h.2.2⟩
open L2.Sco (PT PsAt)
theorem zbN:Hs [1,2]:=⟨by decide,by decide,by decide,by decide,by decide⟩
theorem zbI:Ls [1,2] [(1,2)]:=⟨by decide,by decide,by decide⟩
section
variable {P:Program}{w:World}{K:PySem.W.Frag}{mg:Str→Option Value}{base:Heap}{a:Ad}
def VY (K:PySem.W.Frag) (a:Ad):Sp:=fun vs H Q E=>∃ n,za7 K a n vs H Q E
def U4 (K:PySem.W.Frag):Sp:=fun vs H Q E=>∃ n,za9 K n vs H Q E
def spLaw (K:PySem.W.Frag):Sp:=fun vs H Q _=>∃ (a:Addr) (ns:LI),vs=[.ref a]∧SqL K H a (ns.map V.int)∧ns.length≤63∧∀ H',Q (.bl true) H'
theorem sp_law_of {K:PySem.W.Frag}{H:Hp}{a:Addr}{ns:LI}(hl:ns.length≤63) (hO:UJ H) (hS:SqL K H a (ns.map V.int)):spLaw K [.ref a] H (fun v _=>v=.bl true) fun _ _ _=>False:=⟨a,ns,rfl,hS,hl,fun _=>rfl⟩
theorem ok_law (T:Txt w K mg a):FnOk P w K mg base CX0 26 425 (dK K 425) ["_law_script"] (spLaw K):=by
 have c__law_cell_at:Callee P w K mg base "_law_cell_at" 336 (dK K 336) ["_law_script", "_law_k"] 1 (We K):=⟨Vj T,(T.g 19 rfl),(T.fn 19 rfl).kp,(T.bi 19 rfl)⟩
 have c__law_draws:Callee P w K mg base "_law_draws" 343 (dK K 343) ["_law_cell", "_law_many"] 1 Z6:=⟨Xy T,(T.g 20 rfl),(T.fn 20 rfl).kp,(T.bi 20 rfl)⟩
 have c__law_web_drawn:Callee P w K mg base "_law_web_drawn" 369 (dK K 369) ["_law_xs"] 3 zaV:=⟨zae T,(T.g 24 rfl),(T.fn 24 rfl).kp,(T.bi 24 rfl)⟩
 have c__law_drawn_way:Callee P w K mg base "_law_drawn_way" 393 (dK K 393) ["_law_xs", "_law_hands_here", "_law_lines_here"] 3 za8:=⟨zas T,(T.g 28 rfl),(T.fn 28 rfl).kp,(T.bi 28 rfl)⟩
 have c__law_pairs:Callee P w K mg base "_law_pairs" 405 (dK K 405) ["_law_hands_here", "_law_lines_here"] 2 zaY:=⟨zah T,(T.g 30 rfl),(T.fn 30 rfl).kp,(T.bi 30 rfl)⟩
 have c__law_roads:Callee P w K mg base "_law_roads" 400 (dK K 400) ["_law_parents", "_law_bridges", "_law_hand", "_law_other"] 2 VW:=⟨Vh T,(T.g 29 rfl),(T.fn 29 rfl).kp,(T.bi 29 rfl)⟩
 have c__law_otherwise:Callee P w K mg base "_law_otherwise" 410 (dK K 410) ["_law_xs", "_law_hands_here", "_law_pairs_here", "_law_paper", "_law_parents", "_law_bridges"] 3 (za0 K):=⟨zak T,(T.g 31 rfl),(T.fn 31 rfl).kp,(T.bi 31 rfl)⟩
 have c__law_due:Callee P w K mg base "_law_due" 420 (dK K 420) ["_law_pairs_here", "_law_paper", "_law_parents", "_law_bridges"] 3 (U4 K):=⟨FnOk.ex fun n=>zat T,(T.g 33 rfl),(T.fn 33 rfl).kp,(T.bi 33 rfl)⟩
 have c_holds:Callee P w K mg base "holds" 231 (dK K 231) ["web", "way", "paper"] 9 (VY K a):=⟨FnOk.ex fun n=>zaq T,(T.g 14 rfl),(T.fn 14 rfl).kp,(T.bi 14 rfl)⟩
 have m_Way:Maker P w K mg base "Way" 138 72 (dK K 72) ["self", "parents", "bridges"] 6 (VV a):=⟨Uf T,(T.gc 0 rfl),(T.mm 0 rfl),(T.bi 35 rfl)⟩
 have m_Web:Maker P w K mg base "Web" 325 273 (dK K 273) ["self", "hands", "lines"] 4 (VU a):=⟨Ue T,(T.gc 1 rfl),(T.mm 1 rfl),(T.bi 41 rfl)⟩
 refine(T.fn 34 rfl).ok (scp 34 rfl) (fun vs H Q E h=>?_) (fun cdv A outer s H vs Q E hr h=>?_)
 ·obtain⟨x,ns,rfl,_⟩:=h
  rfl
 ·obtain⟨sc,ns,rfl,hS,hlen,k⟩:=h
  have un:∀ n:Nat,n≤8→(A.deeper (PyProof.Rows.envOfC "law" (defScope (top 47)) s.heap.objs.size 425 cdv)).units+n+2<cLine:=fun n hn=>by
   have:=hr.units
   omega
  have un5:=Nat.lt_of_le_of_lt (Nat.add_le_add_left (by decide:5≤64) _) hr.units
  have hu:=xo hr
  refine yd (zb (zm (i:=1) (scp 34 rfl).nd rfl (Or.inl rfl) (zr c__law_draws hr.m (zT (zr c__law_cell_at hr.m (zd (zh 0) (zK ze za))) (zK ze za))))
   (zb (xZ (zr c__law_web_drawn hr.m (zd (zh 1) za)) (yk rfl (zy (zn (i:=2) (scp 34 rfl).nd rfl (Or.inl rfl)) (zy (zn (i:=3) (scp 34 rfl).nd rfl (Or.inl rfl)) zY))))
   (zX (zB (zo (wq Yr Ys) (zh 3) (zA za) (zC _))
    (zb (zm (i:=2) (scp 34 rfl).nd rfl (Or.inl rfl) (zA (zK ze (zK ze za))))
    (zg (zm (i:=3) (scp 34 rfl).nd rfl (Or.inl rfl) (zA (xc (zJ (zK ze (zK ze za))) za)))))
    zp)
   (zb (zm (i:=4) (scp 34 rfl).nd rfl (Or.inl rfl) (X1 m_Web hr.m (zd (zh 2) (zd (zh 3) za))))
   (zb (xZ (zr c__law_drawn_way hr.m (zd (zh 1) (zd (zh 2) (zd (zh 3) za)))) (yk rfl (zy (zn (i:=5) (scp 34 rfl).nd rfl (Or.inr rfl)) (zy (zn (i:=6) (scp 34 rfl).nd rfl (Or.inr rfl)) zY))))
   (zb (zm (i:=7) (scp 34 rfl).nd rfl (Or.inl rfl) (X1 m_Way hr.m (zd (zh 5) (zd (zh 6) za))))
   (zb (zm (i:=8) (scp 34 rfl).nd rfl (Or.inl rfl) (zr c__law_pairs hr.m (zd (zh 2) (zd (zh 3) za))))
   (zb (zm (i:=9) (scp 34 rfl).nd rfl (Or.inl rfl) (zL (wW rfl) (by rfl) (T.n 5 rfl) xT (zk (yo rfl (N':=["_law_pair", "_law_parents", "_law_bridges"]) (t:=1) (caps:=[5,6]) ⟨rfl,rfl,rfl⟩ (zE (zh 8)) (fun _=>(zn (i:=0) (show(["_law_pair", "_law_parents", "_law_bridges"]:List Str).Nodup by decide +kernel) rfl (Or.inl rfl))) (fun _=>yF) (fun _=>(zJ (zd (zh 0) (zk (zv zF (zr c__law_roads hr.m (zd (zh 1) (zd (zh 2) (zk (zv yc (zh 0) ze (fun _ _=>rfl)) (zk (zv yc (zh 0) ze (fun _ _=>rfl)) za))))) ze (fun _ _=>rfl)) za))))) za)))
   (zb (zB (zo Ve (zr c_holds hr.m (zd (zh 4) (zd (zh 7) (zd (zh 9) za)))) zI (zC _))
    (zg (zi zI))
    zp)
   (zb (zR PassesOwn.never rfl (zE (zu yO (zA (zT (zr c__law_cell_at hr.m (zd (zh 0) (zK ze za))) za)) (zP yz (zh 0) (w_po_some ze) (w_po_some ze)))) (zn (i:=10) (scp 34 rfl).nd rfl (Or.inl rfl))
    (zb (zm (i:=11) (scp 34 rfl).nd rfl (Or.inl rfl) (zr c__law_otherwise hr.m (zT (zr c__law_draws hr.m (zd (zh 10) (zK ze za))) (zd (zh 2) (zd (zh 8) (zd (zh 9) (zd (zh 5) (zd (zh 6) za))))))))
    (zb (zm (i:=12) (scp 34 rfl).nd rfl (Or.inl rfl) (zr c_holds hr.m (zd (zh 4) (zd (zh 7) (zd (zh 11) za)))))
    (zg (zB (wJ (yt (zO (zG (zj zM (by rfl) (T.n 3 rfl) zq (zd (zh 12) (zd (zZ (T.n 8 rfl) wD) za))))) (yq (zo uv (zh 12) (zr c__law_due hr.m (zd (zh 8) (zd (zh 11) (zd (zh 5) (zd (zh 6) za))))) (zC _)))))
     (zg (zi zI))
     zp)))))
   (zg (zi (yg Ud (zr c_holds hr.m (zd (zh 4) (zd (zh 7) (zd (zh 9) za)))) zI (zC _)))))))))))))) ?_
  refine⟨_,rfl,sc,ns,0,rfl,hS,by decide,fun c0=>?_⟩
  refine⟨c0,160,rfl,by decide,fun l H1 hl0 x1 y1=>?_⟩
  refine⟨_,rfl,l,rfl,x1,fun t h q hs rs ls H2 ht hh hq L wh wl x2 y2 nhl nql l28=>?_⟩
  refine⟨t,_,rfl,SqT.of ht,rfl,_,_,rfl,_,_,rfl,rfl,?_⟩
  have yy:Ext l H H2:=(Ext.same y1).trans y2
  refine⟨fun σ G=>∃ (h q:Addr) (hs:LI) (rs:List V) (ls:LP),σ=[some (.ref sc),some (.ref l),some (.ref h),some (.ref q),none,none,none,none,none,none,none,none,none]∧G h=some (.lst (hs.map V.int))∧G q=some (.lst rs)∧LnAt G rs ls∧Hs hs∧Ls hs ls∧XsAt G l∧Ext l H G∧h≠l∧q≠l∧ls.length≤28∧ls≠[],?_,?_⟩
  ·refine⟨_,rfl,(by show 0≤sizeLine;decide),fun e2 he2=>?_⟩
   have se:=Same.new (o:=HO.lst []) he2
   have hq3:=se _ _ hq
   have lr:=L.1
   have x3:=x2.same se
   have yy3:=yy.trans (Ext.same se)
   by_cases c:rs=[]
   ·refine .inl ⟨q,e2,[],[],fun _=>true,0,rfl,rfl,.inl ⟨SqL.of (by rw[c] at hq3;exact hq3),SqL.of upd_same⟩,rfl,un 0 (by omega),(fun j x y h=>by simp at h),_,rfl,xn ?_⟩
    refine⟨(by show 2≤sizeLine;decide),fun h' hh'=>?_⟩
    have s1:=Same.new (o:=HO.lst [V.int 1,V.int 2]) hh'
    have e1:=upd_same (H:=upd H2 e2 (.lst [])) (a:=h') (o:=HO.lst [V.int 1,V.int 2])
    generalize upd (upd H2 e2 (.lst [])) h' (HO.lst [V.int 1,V.int 2])=G1 at *
    refine⟨(by show 2≤sizeLine;decide),fun t' ht'=>⟨(by show 1≤sizeLine;decide),fun q' hq'=>?_⟩⟩
    have s2:=Same.new (o:=HO.tup [V.int 1,V.int 2]) ht'
    have e2':=upd_same (H:=G1) (a:=t') (o:=HO.tup [V.int 1,V.int 2])
    generalize upd G1 t' (HO.tup [V.int 1,V.int 2])=G2 at *
    have s3:=Same.new (o:=HO.lst [V.ref t']) hq'
    have s13:=s1.trans (s2.trans s3)
    refine⟨h',q',[1,2],[.ref t'],[(1,2)],rfl,s3 _ _ (s2 _ _ e1),upd_same,⟨rfl,fun i r p a1 a2=>?_⟩,zbN,zbI,x3.same s13,yy3.trans (Ext.same s13),x3.ne hh',(x3.same (s1.trans s2)).ne hq',by decide,by simp⟩
    match i,a1,a2 with
    |0,a1,a2=>cases a1;cases a2;exact⟨t',rfl,s3 _ _ e2'⟩
    |i+1,a1,a2=>simp at a1
   ·refine .inr ⟨q,e2,rs,[],rfl,rfl,SqL.of hq3,SqL.of upd_same,(fun z=>c (List.length_eq_zero_iff.mp z)),Nat.lt_of_le_of_lt (Nat.le_add_right _ 2) (un 0 (by omega)),_,rfl,iteN rfl ?_⟩
    exact⟨h,q,hs,rs,ls,rfl,se _ _ hh,hq3,L.same se,wh,wl,x3,yy3,nhl,nql,l28,fun z=>c (List.length_eq_zero_iff.mp (by rw[lr,z];rfl))⟩
  clear y1 y2 x1 x2 ht hh hq L wh wl nhl nql l28 yy
  rintro _ H3 ⟨h,q,hs,rs,ls,rfl,hh3,hq3,L3,wh,wl,x3,yy,nhl,nql,l28,lne⟩
  refine⟨_,rfl,_,rfl,fun x wx nx ndx nex=>?_⟩
  have m1:Same H3 (upd (upd H3 wx (.own x)) x (.ins 325 wx [])):=(Same.new ndx).updF nx
  refine⟨x,wx,h,q,rs,hs,ls,rfl,upd_same,m1 _ _ hh3,m1 _ _ hq3,L3.same m1,wh,wl,by omega,fun oh ol wd ad H4 foh fol fd fad x4' Wb4=>⟨rfl,?_⟩⟩
  have s4:Same H3 H4:=fun b o e=>x4' b o (m1 b o e) (ne_of_none e nx)
  have x3m:=x3.same m1
  have noh:oh≠l:=x3m.ne foh
  have nol:ol≠l:=x3m.ne fol
  have nad:∀ z∈hs,ad z≠l:=fun z hz=>x3m.ne (fad z hz)
  have x4:=x3.same s4
  have hh4:=s4 _ _ hh3
  have hq4:=s4 _ _ hq3
  have L4:=L3.same s4
  have yy:=yy.trans (Ext.same s4)
  clear m1 x4' x3m s4 hh3 hq3 L3 x3
  refine⟨_,rfl,_,rfl,_,rfl,l,h,q,rs,hs,ls,rfl,x4,hh4,nhl,hq4,nql,L4,wh,wl,fun t5 d lb us pf pa bs rb H5 ht5 hd hlb Lb nd D x5 y5 nbl=>?_⟩
  have l12:us.length≤12:=Nat.le_trans (wI nd fun x hx=>(D.m x).mp hx) wh.l12
  have l28b:bs.length≤28:=Nat.le_trans (vV D.B.nd D.inl) l28
  have Wb5:=Wb4.extX x4 y5 noh nol nad
  have hh5:=y5 _ _ hh4 nhl
  have hq5:=y5 _ _ hq4 nql
  have L5:=L4.extX x4 y5
  have yy:=yy.trans y5
  clear Wb4 y5 hh4 hq4 L4 x4
  refine⟨t5,_,rfl,SqT.of ht5,rfl,_,_,rfl,_,_,rfl,rfl,?_⟩
  refine⟨_,rfl,_,rfl,fun y dx ny ndx' ney=>?_⟩
  have m1:Same H5 (upd (upd H5 dx (.own y)) y (.ins 138 dx [])):=(Same.new ndx').updF ny
  refine⟨y,dx,d,lb,pf,us,rb,bs,rfl,upd_same,m1 _ _ hd,nd,l12,m1 _ _ hlb,Lb.same m1,by omega,fun dp ob H6 fdp fob x6' W6=>⟨rfl,?_⟩⟩
  have s6:Same H5 H6:=fun b o e=>x6' b o (m1 b o e) (ne_of_none e ny)
  have hh6:=s6 _ _ hh5
  have hq6:=s6 _ _ hq5
  have L6:=L5.same s6
  have hd6:=s6 _ _ hd
  have hlb6:=s6 _ _ hlb
  have Lb6:=Lb.same s6
  have x6:=x5.same s6
  have hS6:=sqX hS hl0 (yy.trans (Ext.same s6))
  have WP:WbP a H6 x hs ls:=⟨wh,wl,by omega,wx,oh,ol,wd,ad,Wb5.same s6⟩
  have gg:=D.gg wl
  have brl:BrL hs bs:=fun b hb=>⟨(D.B.ok b hb).1,(D.B.ok b hb).2.1⟩
  have cl:=D.U.cl
  have hm:=D.m
  have U:=UpP.of cl gg.g.en
  have inl:=D.inl
  clear Wb5 hh5 hq5 L5 hd hlb Lb x5 s6 m1 x6' fdp fob ht5 yy hS
  refine⟨_,rfl,_,rfl,h,q,rs,hs,ls,rfl,hh6,hq6,L6,wh,wl,fun pl zs H7 hpl Lz s7=>?_⟩
  have pm:=ym (dbl (srt ls))
  have lz:zs.length=2*ls.length:=by rw[Lz.1,pm.length_eq,xR,(ym ls).length_eq]
  obtain⟨ps,e1,e2,e3⟩:=Lz.prs
  have lps:ps.length=2*ls.length:=by rw[← lz,← e1,List.length_map]
  have ink:∀ q∈dbl (srt ls),(q.1∈us∧q.2∈us)∧(q.1∈hs∧q.2∈hs):=fun q hq=>by
   rcases mem_dbl.mp (mem_ds.mp hq) with z | z
   ·exact⟨⟨(hm _).mpr (wl.ok _ z).1,(hm _).mpr (wl.ok _ z).2.1⟩,(wl.ok _ z).1,(wl.ok _ z).2.1⟩
   ·exact⟨⟨(hm _).mpr (wl.ok _ z).2.1,(hm _).mpr (wl.ok _ z).1⟩,(wl.ok _ z).2.1,(wl.ok _ z).1⟩
  have hb:∀ v∈us,0≤v∧v≤99:=fun v hv=>⟨wh.lo _ ((hm v).mp hv),wh.hi _ ((hm v).mp hv)⟩
  have hpk:∀ p∈ps,p.2∈dbl (srt ls):=fun p hp=>pm.mem_iff.mp (by rw[← e2];exact List.mem_map.mpr ⟨p,hp,rfl⟩)
  have bin:∀ q∈bs,q.1∈us∧q.2∈us:=fun b hb=>⟨(hm _).mpr (D.B.ok b hb).1,(hm _).mpr (D.B.ok b hb).2.1⟩
  have din:∀ b∈dbl (srt bs),b.1∈us∧b.2∈us:=fun b hb=>by
   rcases mem_dbl.mp (mem_ds.mp hb) with z | z
   ·exact bin b z
   ·exact⟨(bin _ z).2,(bin _ z).1⟩
  have Bb:Bd bs:=fun b hb=>(wl.bd wh) b (inl b hb)
  have rne:∀ p∈ps,rfs (paO pf) (dbl (srt bs)) p.2.1 p.2.2≠[]:=fun p hp=>V1 fun hne=>by
   rcases mem_dbl.mp (mem_ds.mp (hpk p hp)) with z | z
   ·exact gg.cov _ z hne
   ·obtain⟨b,hb,e⟩:=gg.cov _ z fun z'=>hne z'.symm
    refine⟨b,hb,e.trans ?_⟩
    unfold jk
    rw[Int.min_comm,Int.max_comm]
  have qnd:(ps.map (·.2)).Nodup:=by rw[e2];exact pm.nodup_iff.mpr wl.dnd
  have x7:=x6.same s7
  have hd7:=s7 _ _ hd6
  have hlb7:=s7 _ _ hlb6
  have Lb7:=Lb6.same s7
  refine⟨_,rfl,pl,rfl,⟨_,SqL.of hpl⟩,?_⟩
  have hpl':=hpl
  rw[← e1] at hpl'
  refine zaG (cs:=[some (.ref d),some (.ref lb)]) (ψ:=fun H p y=>∃ q v,y=.ref q∧H q=some (.tup [.ref p.1,v])∧RvAt K (hd1 l H) v (rfs (paO pf) (dbl (srt bs)) p.2.1 p.2.2).head?) hpl' (by omega) (fun b Dc p G1 zs' hp s1 hDc hn Q' k'=>?_) fun Dc ys Hf sf hDc hDf ey hy=>?_
  ·have hxy:=(ink _ (hpk p hp)).1
   have hpt:=s1 _ _ (e3 p hp)
   refine⟨_,rfl,_,rfl,_,rfl,_,rfl,p.1,_,0,_,rfl,rfl,SqT.of hpt,rfl,_,rfl,p.1,_,1,_,rfl,rfl,SqT.of hpt,rfl,d,lb,pf,paO pf,us,rb,bs,_,_,rfl,s1 _ _ hd7,l12,U,s1 _ _ hlb7,Lb7.same s1,Bb,by omega,bin,hxy.1,hxy.2,fun lr G2 hlr ⟨rr,a1,a2,a3⟩ s2=>?_⟩
   cases rr with
   |nil=>exact absurd a3.symm (rne p hp)
   |cons r rr =>
    have hr1:=a2 r List.mem_cons_self
    refine⟨lr,_,_,.ref r.1,rfl,rfl,SqL.of a1,zW (j:=0) rfl,(by show 2≤sizeLine;decide),fun q' hq'=>k' _ _ (s2.trans (Same.new hq')) fun H3 x3=>⟨q',_,rfl,x3 _ _ upd_same fun z=>?_,?_⟩⟩
    ·rw[z,s2 _ _ hDc] at hq'
     cases hq'
    ·rw[← a3]
     have hin:r.2∈rfs (paO pf) (dbl (srt bs)) p.2.1 p.2.2:=by rw[← a3];exact List.mem_cons_self
     refine .itl (yR (x3 _ _ (Same.new hq' _ _ hr1.1) fun z=>?_) ((x7.same s1).ne hr1.2)) (Nat.le_trans (Ya U l12 din hxy.1 hxy.2 hin).2.1 (by decide))
     have:=hr1.2
     rw[z,hDc] at this
     cases this
  have psf:PsAt Hf ps:=fun p hp=>⟨sf _ _ (e3 p hp),by have:=hb _ (ink _ (hpk p hp)).1.2;omega⟩
  dsimp only[yQ]
  refine Vu (rv:=fun p=>(rfs (paO pf) (dbl (srt bs)) p.2.1 p.2.2).head?) (x7.same sf).hl hDf ey hy psf (by omega) qnd un5 fun pd jg H8 s8 gp ej=>?_
  obtain⟨js,f1,f2,f3⟩:=Uy gp.row fun j hj=>by
   have:(j.1,j.2.2)∈jr jg:=List.mem_map.mpr ⟨j,hj,rfl⟩
   rw[ej] at this
   obtain⟨p,hp,e⟩:=List.mem_map.mp this
   injection e with _ e
   have h0:=rne p hp
   rw[← e]
   cases hh:rfs (paO pf) (dbl (srt bs)) p.2.1 p.2.2 with
   |nil=>exact absurd hh h0
   |cons r _=>exact⟨r,rfl⟩
  have dd8:H8 pd=some (.dT (kvP js)):=by rw[f1];exact wB _ _ gp.dd
  have row8:∀ j∈js,H8 j.2.1=some (.lst (j.2.2.map V.int)):=fun j hj=>wB _ _ (f3 j hj)
  have hjr:∀ j∈js,∃ p∈ps,j.1=p.2∧(rfs (paO pf) (dbl (srt bs)) p.2.1 p.2.2).head?=some j.2.2:=fun j hj=>by
   have:(j.1,some j.2.2)∈jr jg:=by rw[← f2];exact List.mem_map.mpr ⟨j,hj,rfl⟩
   rw[ej] at this
   obtain⟨p,hp,e⟩:=List.mem_map.mp this
   injection e with e4 e5
   exact⟨p,hp,e4.symm,e5⟩
  have jks:js.map (·.1)=ps.map (·.2):=by
   have e:=congrArg (List.map Prod.fst) (f2.trans ej)
   rw[List.map_map,List.map_map] at e
   exact e
  have s68:=s7.trans (sf.trans s8)
  have dcp:∀ {G:Hp}{n:Nat},Same H8 G→DcG K n G (.ref pd) (some (jr jg)):=fun {G n} sG=>.pap ((gp.same wB).same sG)
  have hop:HoG us ls pf bs (jr jg):=by
   rw[ho_du gg.g,← e2,ej]
   refine⟨fun j hj=>?_,by rw[List.length_map,List.length_map],fun j hj=>?_⟩
   ·obtain⟨p,hp,rfl⟩:=List.mem_map.mp hj
    exact List.mem_map.mpr ⟨p,hp,rfl⟩
   ·obtain⟨p,hp,rfl⟩:=List.mem_map.mp hj
    have h0:=rne p hp
    show ∃ l,(rfs (paO pf) (dbl (srt bs)) p.2.1 p.2.2).head?=some l∧l∈rfs (paO pf) (dbl (srt bs)) p.2.1 p.2.2
    cases hh:rfs (paO pf) (dbl (srt bs)) p.2.1 p.2.2 with
    |nil=>exact absurd hh h0
    |cons r _=>exact⟨r,rfl,List.mem_cons_self⟩
  have hold:∀ {G:Hp}{R:VK}{E:XK},Same H8 G→(∀ G',Same G G'→R (.bl true) G')→VY K a [.ref x,.ref y,.ref pd] G R E:=fun {G R E} sG kk=>⟨0,x,y,dx,dp,ob,.ref pd,hs,us,ls,bs,pf,some (jr jg),rfl,WP.same (s68.trans sG),W6.same (s68.trans sG),hm,cl,brl,dcp sG,fun b G' hb' s'=>by
   rw[hb'.mpr ⟨_,rfl,hop⟩]
   exact kk G' s'⟩
  refine⟨_,rfl,_,rfl,_,rfl,?_⟩
  refine hold (Same.refl _) fun H9 s9=>⟨true,rfl,rfl,_,rfl,iteN rfl ?_⟩
  have hSC:=(s68.trans s9).seq hS6
  refine⟨_,rfl,sc,ns,1,rfl,hSC,by decide,fun c1=>?_⟩
  refine⟨(by show 1≤sizeLine;decide),fun p1 hp1=>?_⟩
  have s1:=Same.new (o:=HO.lst [V.int c1]) hp1
  refine⟨_,rfl,_,rfl,_,rfl,sc,_,rfl,s1.seq hSC,fun p2 hp2=>?_⟩
  have s2:=Same.new (o:=HO.lst (cutV (ns.map V.int) (some 2) (some 13))) hp2
  have hcl:=yB (ns.map V.int) (some 2) (some 13)
  rw[List.length_map] at hcl
  have hz:[V.int c1].length+(cutV (ns.map V.int) (some 2) (some 13)).length≤sizeLine:=by
   have:1000≤sizeLine:=by decide
   show 1+_≤_
   omega
  refine⟨p1,p2,_,_,rfl,rfl,s2 _ _ upd_same,upd_same,hz,fun p3 hp3=>?_⟩
  refine⟨p3,rfl,⟨_,SqL.of upd_same⟩,?_⟩
  have hall:∀ (i:Nat) v,([V.int c1]++cutV (ns.map V.int) (some 2) (some 13))[i]?=some v→∃ c,v=V.int c:=fun i v hi=>by
   cases i with
   |zero=>exact⟨c1,by cases hi;rfl⟩
   |succ i=>exact XX (i:=i) (by simpa using hi)
  have sD:=(s9.trans (s1.trans s2)).trans (Same.new (o:=HO.lst ([V.int c1]++cutV (ns.map V.int) (some 2) (some 13))) hp3)
  have h3:=upd_same (H:=(upd (upd H9 p1 (HO.lst [V.int c1])) p2 (HO.lst (cutV (ns.map V.int) (some 2) (some 13))))) (a:=p3) (o:=HO.lst ([V.int c1]++cutV (ns.map V.int) (some 2) (some 13)))
  generalize hxs:[V.int c1]++cutV (ns.map V.int) (some 2) (some 13)=xs at *
  generalize upd (upd (upd H9 p1 (HO.lst [V.int c1])) p2 (HO.lst (cutV (ns.map V.int) (some 2) (some 13)))) p3 (HO.lst xs)=HD at *
  clear hxs hz hcl s1 s2 hp1 hp2 hp3
  have hh8:=s68 _ _ hh6
  have hpl8:=(sf.trans s8) _ _ hpl'
  have e38:∀ p∈ps,H8 p.1=some (.tup [.int p.2.1,.int p.2.2]):=fun p hp=>(sf.trans s8) _ _ (e3 p hp)
  have hd8:=s68 _ _ hd6
  have hlb8:=s68 _ _ hlb6
  have Lb8:=Lb6.same s68
  have Lz8:=Lz.same (sf.trans s8)
  have hz8:=(sf.trans s8) _ _ hpl
  have h0:0<ls.length:=Nat.pos_of_ne_zero fun z=>lne (List.length_eq_zero_iff.mp z)
  have hs0:0<hs.length:=by
   cases hs with
   |nil=>cases ls with
    |nil=>exact absurd rfl lne
    |cons p _=>exact nomatch (wl.ok p List.mem_cons_self).1
   |cons _ _=>exact Nat.succ_pos _
  refine for_list (K:=K) (a:=p3) (xs:=xs) (fun i σ H'=>∃ (o10 o11 o12:Option V),σ=[some (.ref sc),some (.ref l),some (.ref h),some (.ref q),some (.ref x),some (.ref d),some (.ref lb),some (.ref y),some (.ref pl),some (.ref pd),o10,o11,o12]∧Same HD H') ?_ ?_ ?_ ?_
  ·exact⟨_,_,_,rfl,Same.refl _⟩
  ·rintro i σ H' _ ⟨_,_,_,_,sm⟩
   exact SqL.of (sm _ _ h3)
  ·rintro i v σ G hi ⟨o10,o11,o12,rfl,sm⟩
   obtain⟨c,rfl⟩:=hall i v hi
   have sG:=sD.trans sm
   refine⟨_,rfl,c,12,rfl,by decide,fun l2 G1 hl2 x1 y1=>?_⟩
   have s1:=sG.trans y1
   have nl2:∀ {b:Addr}{o:HO},H8 b=some o→b≠l2:=fun e=>ne_of_none (sG _ _ e) hl2
   have oq:Oq G1 l2 pl pd d lb ps js rb bs us pf (paO pf):=⟨x1,s1 _ _ hpl8,nl2 hpl8,by omega,by omega,fun p hp=>⟨s1 _ _ (e38 p hp),Ur (hb _ (ink _ (hpk p hp)).1.2).1 (hb _ (ink _ (hpk p hp)).1.2).2,(ink _ (hpk p hp)).1⟩,s1 _ _ dd8,fun j hj=>by
     obtain⟨p,hp,_,ep⟩:=hjr j hj
     have hxy:=(ink _ (hpk p hp)).1
     have hin:=Ya U l12 din hxy.1 hxy.2 (List.mem_of_mem_head? ep)
     exact⟨s1 _ _ (row8 j hj),nl2 (row8 j hj),hin.1,hin.2.1,fun v hv=>Ur (hb v (hin.2.2 v hv)).1 (hb v (hin.2.2 v hv)).2⟩,jks,by rw[jks];exact qnd,s1 _ _ hd8,l12,U,s1 _ _ hlb8,nl2 hlb8,Lb8.same s1,Bb,by omega,bin,rne,fun p hp r hr=>(Ya U l12 din (ink _ (hpk p hp)).1.1 (ink _ (hpk p hp)).1.2 hr).2.1⟩
   refine⟨_,rfl,_,rfl,_,rfl,_,rfl,_,rfl,l2,h,pl,pd,d,lb,ps,js,rb,bs,us,hs,pf,paO pf,rfl,oq,s1 _ _ hh8,nl2 hh8,hs0,fun f G2 ⟨⟨oo,dc⟩,ye⟩=>?_⟩
   have sg2:Same G G2:=fun b o e=>ye _ _ (y1 _ _ e) (ne_of_none e hl2)
   have s2:=sG.trans sg2
   refine⟨_,rfl,_,rfl,_,rfl,ps.length,x,y,dx,dp,ob,.ref f,hs,us,ls,bs,pf,oo,rfl,WP.same (s68.trans s2),W6.same (s68.trans s2),hm,cl,brl,dc,fun b G3 hb3 s3=>?_⟩
   refine⟨_,rfl,_,_,_,_,_,rfl,rfl,.bl b,(T.k 17 rfl),_,rfl,iteN rfl ?_⟩
   have s03:=s2.trans s3
   refine⟨_,rfl,_,rfl,_,rfl,_,rfl,_,rfl,ps.length,pl,d,lb,.ref f,oo,zs,rb,_,bs,us,pf,rfl,dc.same s3,s03 _ _ hz8,Lz8.same s03,by rw[← e2];exact qnd,by rw[← e2,List.length_map],by omega,s03 _ _ hd8,l12,U,s03 _ _ hlb8,Lb8.same s03,Bb,by omega,bin,fun q hq=>(ink _ (pm.mem_iff.mp hq)).1,fun b' G4 hb4 s4=>?_⟩
   have ebb:b=b':=by
    rw[Bool.eq_iff_iff,hb3,hb4]
    constructor
    ·rintro⟨js,h1,h2⟩
     exact⟨js,h1,(ho_du gg.g).mp h2⟩
    ·rintro⟨js,h1,h2⟩
     exact⟨js,h1,(ho_du gg.g).mpr h2⟩
   refine⟨rfl,_,rfl,iteN (by rw[ebb,decide_eq_true rfl];rfl) ?_⟩
   exact⟨_,_,_,rfl,sm.trans (sg2.trans (s3.trans s4))⟩
  ·rintro σ H' ⟨_,_,_,rfl,sm⟩
   refine⟨_,rfl,_,rfl,_,rfl,hold (sD.trans sm) fun G s'=>⟨true,rfl,rfl,k _⟩⟩
end
end K04
noncomputable section
def PySem.W.Fast.tw17927078811593366405:=0
def PySem.W.Fast.tw14633931826345236324:=0
def PySem.W.Fast.tw8856144728478018897:=0
def PySem.W.Fast.tw17062198468877432609:=0
def PySem.W.Fast.tw11229564333759573049:=0
def PySem.W.Fast.tw10598372733321371305:=0
def PySem.W.Fast.tw11616086253799572649:=0
def PySem.W.Fast.tw17758467707605542250:=0
def PySem.W.Fast.tw14338876466950056905:=0
def PySem.W.Fast.tw6496138341281078435:=0
def PySem.W.Fast.tw6216741656489410486:=0
def PySem.W.Fast.tw6123116592370679677:=0
def PySem.W.Fast.tw16627384631628985244:=0
def PySem.W.Fast.tw1688954305291010661:=0
def PySem.W.Fast.tw8697170791317315040:=0
def PySem.W.Fast.tw10579265108948214604:=0
def PySem.W.Fast.tw9532633636177338432:=0
def PySem.W.Fast.tw3299963512692046226:=0
def PySem.W.Fast.tw9316987155075272405:=0
def PySem.W.Fast.tw5518260327533038333:=0
def PySem.W.Fast.tw13793158388811680729:=0
def PySem.W.Fast.tw10330366778594210143:=0
def PySem.W.Fast.tw2679819212127310782:=0
def PySem.W.Fast.tw1689613642844212636:=0
def PySem.W.Fast.tw9031915412781655692:=0
def PySem.W.Fast.tw3858109914732617049:=0
namespace Hd
open PySem PySem.W PySem.Calls PyProof.Rows
abbrev pw:=PySem.Challenge.pw_beatless_k33_papers_with_something_wrong
def tt {α:Type}(_:α):Bool:=true
def S (i:Nat):Stmt:=pw.main.body.getD i (.Pass ⟨0,0,0,0⟩)
def C (i j:Nat):Stmt:=L2.inClass (S i) j
def fd (n q:Str) (s:Stmt) (g:Addr) (d k c m:Value) (cd:Value):FuncData:=⟨n,q,L2.defArgs s,.stmts (L2.defBody s),L2.defScope s,g,[],d,k,c,m,none,cd,.none,0⟩
def zs:List Str:=List.map Str.ofString ["<module>", "/claim/cut.py", "__main__", "beatless.ways", "__name__", "__doc__", "__package__", "__loader__", "__spec__", "__annotations__", "__builtins__", "__file__", "__cached__", "_wall", "BeatlessError", "NoWeb", "is_whole", "copied", "k", "beatless.errors", "__module__", "__qualname__", "__firstlineno__", "__static_attributes__", "__weakref__", "value", "beatless.wholes", "Way", "are_parents", "come_to_leaders", "__init__", "parent_of", "all_parents", "all_bridges", "path_up", "leader", "depth_of", "depth", "children", "bridges_at", "self", "parents", "bridges", "Way.__init__", "hand", "each", "parent", "Way.parent_of", "Way.all_parents", "Way.all_bridges", "path", "above", "Way.path_up", "Way.leader", "Way.depth_of", "Way.depth", "Way.children", "Way.bridges_at", "own_bridges", "own_parents", "__dict__", "web", "way", "beatless.webs", "is_bridge", "are_bridges", "is_grounded", "road_within", "road_over", "bridges_by_leaders", "roads_for", "pairs_of", "are_wholes", "has_just_pairs", "holds", "MOST_HANDS", "LAST_HAND", "are_hands", "is_line", "are_lines", "near_by_hand", "bridge", "seen", "neighbour", "down", "beatless.roads", "found", "one", "other", "pairs", "values", "paper", "key", "road", "hands", "ahead", "line", "lines", "near", "law_beatless_k33_papers_with_something_wrong", "Web", "_law_cell_at", "_law_draws", "_law_take", "_law_hands", "has_hand", "has_line", "neighbours", "groups", "group_of", "Web.__init__", "Web.hands", "Web.lines", "Web.has_hand", "Web.has_line", "Web.neighbours", "Web.groups", "Web.group_of", "own_hands", "own_lines", "_law_script", "_law_k", "_law_cell", "_law_many", "_law_found", "_law_rest", "_law_number", "_law_mixed", "_law_xs", "_law_size", "_law_lines", "_law_web_drawn", "_law_near", "_law_up", "_law_both", "_law_drawn_way", "_law_roads", "_law_pairs", "_law_otherwise", "_law_is_list", "_law_due", "law", "_law_hands_here", "_law_way", "_law_j", "_law_near_here", "_law_draw", "_law_at", "_law_most", "_law_lines_here", "_law_parents", "_law_hand", "_law_one", "_law_other", "_law_bridges", "_law_up_here", "_law_down", "_law_two", "_law_far"]
def s (n:Nat):Str:=zs.getD n ⟨#[]⟩
def k0:Value:=.type "tuple"
def k1:Value:=.type "code"
def k2:Value:=.type "frame"
def k3:Value:=.type "dict"
def k4:Value:=.builtin "__main__.__loader__#opaque"
def k5:Value:=.type "function"
def k6:Value:=.type "ValueError"
def k7:Value:=.type "builtin_function_or_method"
def k8:Value:=.builtin "type.__prepare__"
def k9:Value:=.type "type"
def k10:Value:=.type "Exception"
def k11:Value:=.type "BaseException"
def k12:Value:=.type "object"
def k13:Value:=.builtin "ValueError.__new__"
def k14:Value:=.type "getset_descriptor"
def k15:Value:=.builtin "ExceptionGroup.__weakref__"
def k16:Value:=.type "super"
def k17:Value:=.builtin "object.__init_subclass__"
def k18:Value:=.builtin "object.__new__"
def k19:Value:=.builtin "function.__dict__"
def k20:Value:=.builtin "function.__dict__#set"
instance (n:Nat):OfNat Value n:=⟨.ref n⟩
def iv (n:Int):Value:=.int n 0
def sv (n:Nat) (t:Tok):Value:=.str (s n) t
def en (P:Params) (x:Nat) (t:Tok) (v:Value):DictEntry:=⟨PyData.keyHash P (s x),sv x t,v⟩
def O (c:Value) (l:Array Value):Obj:=Obj.mk c .none (Data.fields l) #[]
def tO (l:Array Value):Obj:=Obj.mk k0 .none (Data.seq l 0) #[]
def vO (l:Array Value):Obj:=O .none l
def Q (l:Array DictEntry) (e:Nat):Obj:=Obj.mk k3 .none (Data.dict l e) #[]
def gO (n q:Nat) (z:Stmt):Obj:=Obj.mk .none .none (Data.func (fd (s n) (s q) z 0 .none .none .none .none .none)) #[]
def uO (n q:Nat) (z:Stmt) (m:Value) (r:Addr):Obj:=Obj.mk k5 .none (Data.func (fd (s n) (s q) z 3 .none .none .none m (.ref r))) #[]
def cO (n q:Nat) (t l m k:Nat) (r1 r2:Addr) (b:Bool) (r3 r4 r5:Value) (x:Nat):Obj:=O k1 #[sv n t,sv q (t+1),sv 1 (t+2),iv l,iv m,iv 0,iv 0,iv k,.ref r1,.bool b,iv 181,.ref r2,.none,r3,r4,r5,iv x,iv l,sv 1 (x+1)]
def F (b t n q:Nat) (z:Stmt) (l m:Nat) (M:Value) (vs:List Nat):List Obj:=[tO #[],vO #[],tO (vs.zipIdx.map fun p=>sv p.1 (t+3+p.2)).toArray,tO #[],gO n q z,cO n q t l m 3 b (b+1) true (.ref (b+2)) (.ref (b+3)) (.ref (b+4)) (t+3+vs.length),uO n q z M (b+5)]
def G (b t n q:Nat) (z:Stmt) (l m:Nat) (M:Value):List Obj:=[tO #[],vO #[],gO n q z,cO n q t l m 3 b (b+1) true .none .none (.ref (b+2)) (t+3),uO n q z M (b+3)]
def X (P:Params) (b t n:Nat) (l:Nat) (M:Value) (c:Addr):List Obj:=[tO #[.ref c],O k7 #[k8,k9],Q #[en P 20 (t+7) M,en P 21 (t+9) (sv n (t+8)),en P 22 (t+11) (.int l (t+10)),en P 23 (t+12) (.ref (b+7))] 4,tO #[],vO #[],cO n n (t+2) l 0 0 (b+3) (b+4) false .none .none .none (t+5),Obj.mk k2 .none Data.plain #[some (.ref (b+5)),some 3,some (.ref (b+2)),none,some M,none,some 0],tO #[],Q #[en P 20 (t+7) M,en P 22 (t+11) (.int l (t+10)),en P 23 (t+12) (.ref (b+7)),en P 5 (t+13) .none] 2,Obj.mk k9 .none (Data.cls (ClassData.mk (s n) [.ref c] [.ref (b+9),.ref c,k6,k10,k11,k12] (b+8) (s n) true [] [] false none false)) #[some (.ref b),none,some (sv n t),some (sv n (t+8)),some k13,some (.bool true)],O k16 #[.ref (b+9),.ref (b+9),.ref (b+9)],O k7 #[k17,.ref (b+9)]]
def M0:Value:=(sv 2 164)
def M1:Value:=(sv 26 230)
def M2:Value:=(sv 3 239)
def M3:Value:=(sv 85 398)
def M4:Value:=(sv 63 477)
def M5:Value:=(sv 99 608)
def M6:Value:=(sv 19 194)
def v3 (P:Params) (n:Nat) (e:Nat) (M:Value):Obj:=Obj.mk k3 .none (Data.dict (([en P 4 165 M,en P 5 166 .none,en P 6 167 .none,en P 7 168 k4,en P 8 169 .none,en P 9 170 6,en P 10 171 4,en P 11 173 (sv 1 172),en P 12 174 .none,en P 13 193 21,en P 14 213 31,en P 15 229 44,en P 16 238 53,en P 17 246 58,en P 27 350 138,en P 28 360 149,en P 29 369 156,en P 64 378 163,en P 65 389 170,en P 66 397 177,en P 67 409 184,en P 68 419 191,en P 69 429 198,en P 70 435 203,en P 71 445 210,en P 72 453 217,en P 73 462 224,en P 74 476 231,en P 75 480 (.int 12 479),en P 76 482 (.int 99 481),en P 77 491 238,en P 78 499 245,en P 79 509 252,en P 80 521 259,en P 100 607 325,en P 101 617 336,en P 102 630 343,en P 103 638 350,en P 104 644 355,en P 130 659 362,en P 131 669 369,en P 132 675 374,en P 133 684 381,en P 134 693 388,en P 135 699 393,en P 136 716 400,en P 137 722 405,en P 138 728 410,en P 139 734 415,en P 140 740 420,en P 141 746 425]:List _).take n).toArray e) #[]
def v12 (P:Params) (n:Nat):Obj:=Obj.mk .none .none (Data.fields (([(iv 1),(iv 0),20,(iv 5),(iv 0),27,(iv 7),(iv 0),40,(iv 10),(iv 0),52,(iv 13),(iv 0),57,(iv 21),(iv 0),64,(iv 61),(iv 0),148,(iv 70),(iv 0),155,(iv 75),(iv 0),162,(iv 81),(iv 0),169,(iv 90),(iv 0),176,(iv 95),(iv 0),183,(iv 98),(iv 0),190,(iv 100),(iv 0),197,(iv 106),(iv 0),202,(iv 111),(iv 0),209,(iv 117),(iv 0),216,(iv 122),(iv 0),223,(iv 127),(iv 0),230,(iv 142),(iv 0),237,(iv 151),(iv 0),244,(iv 157),(iv 0),251,(iv 166),(iv 0),258,(iv 174),(iv 0),265,(iv 206),(iv 0),335,(iv 210),(iv 0),342,(iv 224),(iv 0),349,(iv 228),(iv 0),354,(iv 237),(iv 0),361,(iv 248),(iv 0),368,(iv 253),(iv 0),373,(iv 256),(iv 0),380,(iv 263),(iv 0),387,(iv 265),(iv 0),392,(iv 283),(iv 0),399,(iv 294),(iv 0),404,(iv 299),(iv 0),409,(iv 332),(iv 0),414,(iv 336),(iv 0),419,(iv 344),(iv 0),424]:List _).take n).toArray) #[]
def z0 (P:Params):List Obj:=[boot_o_0 P,boot_o_1 P,boot_o_2 P,v3 P 51 51 (sv 99 608),boot_o_4 P,boot_o_5 P,boot_o_6 P,boot_o_7 P,boot_o_8 P,boot_o_9 P,boot_o_10 P,tO #[],v12 P 120,O k1 #[(sv 0 182),(sv 0 183),(sv 1 184),(iv 1),(iv 0),(iv 0),(iv 0),(iv 0),11,(.bool false),(iv 181),12,.none,.none,.none,.none,(iv 185),(iv 1),(sv 1 186)],Obj.mk k2 .none Data.plain #[(some 13),(some 3),(some 3),.none,(some (sv 2 164)),.none,(some 0)]]++(F 15 187 13 13 (S 0) 1 1 M0 [18]++([tO #[k6],O k7 #[k8,k9],Q #[en P 20 203 (sv 19 194),en P 21 205 (sv 14 204),en P 22 207 (.int 5 206),en P 23 208 29] 4,tO #[],vO #[],O k1 #[(sv 14 198),(sv 14 199),(sv 1 200),(iv 5),(iv 0),(iv 0),(iv 0),(iv 0),25,(.bool false),(iv 181),26,.none,.none,.none,.none,(iv 201),(iv 5),(sv 1 202)],Obj.mk k2 .none Data.plain #[(some 27),(some 3),(some 24),.none,(some (sv 19 194)),.none,(some 0)],tO #[],Q #[en P 20 203 (sv 19 194),en P 22 207 (.int 5 206),en P 23 208 29,en P 24 210 32,en P 5 211 .none] 3,Obj.mk k9 .none (Data.cls (ClassData.mk (s 14) [k6] [31,k6,k10,k11,k12] 30 (s 14) true [] [44] false .none false)) #[(some 22),.none,(some (sv 14 196)),(some (sv 14 204)),(some k13),(some (.bool true))],O k14 #[(sv 24 209),31,k15,.none],O k16 #[31,31,31],O k7 #[k17,31]]++(X P 35 214 15 7 M6 31++(F 47 232 16 16 (S 5) 10 1 M1 [25]++(G 54 241 17 17 (S 7) 13 1 M2++([tO #[],O k7 #[k8,k9],Q #[en P 20 254 (sv 3 239),en P 21 256 (sv 27 255),en P 22 258 (.int 21 257),en P 30 267 72,en P 31 277 79,en P 32 284 86,en P 33 291 93,en P 34 301 100,en P 35 309 107,en P 36 317 114,en P 37 324 121,en P 38 332 128,en P 39 340 135,en P 23 343 136] 14,tO #[],vO #[(iv 23),(iv 4),71,(iv 27),(iv 4),78,(iv 33),(iv 4),85,(iv 36),(iv 4),92,(iv 39),(iv 4),99,(iv 47),(iv 4),106,(iv 50),(iv 4),113,(iv 53),(iv 4),120,(iv 56),(iv 4),127,(iv 59),(iv 4),134],O k1 #[(sv 27 249),(sv 27 250),(sv 1 251),(iv 21),(iv 0),(iv 0),(iv 0),(iv 0),62,(.bool false),(iv 181),63,.none,.none,.none,.none,(iv 252),(iv 21),(sv 1 253)],Obj.mk k2 .none Data.plain #[(some 64),(some 3),(some 61),.none,(some (sv 3 239)),.none,(some 0)]]++(F 66 259 30 43 (C 8 0) 23 3 M2 [40,41,42]++(F 73 268 31 47 (C 8 1) 27 2 M2 [40,44,45,46]++(F 80 278 32 48 (C 8 2) 33 1 M2 [40]++(F 87 285 33 49 (C 8 3) 36 1 M2 [40]++(F 94 292 34 52 (C 8 4) 39 2 M2 [40,44,50,51]++(F 101 302 35 53 (C 8 5) 47 2 M2 [40,44]++(F 108 310 36 54 (C 8 6) 50 2 M2 [40,44]++(F 115 318 37 55 (C 8 7) 53 1 M2 [40]++(F 122 325 38 56 (C 8 8) 56 2 M2 [40,44])))))))))))))))
def z1 (P:Params):List Obj:=F 129 333 39 57 (C 8 9) 59 2 M2 [40,44]++([tO #[(sv 58 341),(sv 59 342)],Q #[en P 20 254 (sv 3 239),en P 22 258 (.int 21 257),en P 30 267 72,en P 31 277 79,en P 32 284 86,en P 33 291 93,en P 34 301 100,en P 35 309 107,en P 36 317 114,en P 37 324 121,en P 38 332 128,en P 39 340 135,en P 23 343 136,en P 60 345 139,en P 24 347 140,en P 5 348 .none] 4,Obj.mk k9 .none (Data.cls (ClassData.mk (s 27) [k12] [138,k12] 137 (s 27) true [] [] false .none false)) #[.none,.none,(some (sv 27 247)),(some (sv 27 255)),(some k18),(some (.bool true))],O k14 #[(sv 60 344),138,k19,k20],O k14 #[(sv 24 346),138,k15,.none],O k16 #[138,138,138],O k7 #[k17,138]]++(F 143 351 28 28 (S 9) 61 2 M2 [61,41,44,46]++(F 150 361 29 29 (S 10) 70 2 M2 [61,62,44]++(F 157 370 64 64 (S 11) 75 3 M2 [61,62,81]++(F 164 379 65 65 (S 12) 81 3 M2 [61,62,42,82,81]++(F 171 390 66 66 (S 13) 90 2 M2 [61,62]++(F 178 400 67 67 (S 15) 95 3 M3 [62,44,83,84]++(F 185 410 68 68 (S 16) 98 4 M3 [62,44,83,81]++(F 192 420 69 69 (S 17) 100 1 M3 [62,86,87,88]++(G 199 430 70 70 (S 18) 106 4 M3++(F 204 436 71 71 (S 19) 111 1 M3 [61,89,87,88]++(F 211 446 72 72 (S 20) 117 1 M3 [90,25]++(F 218 454 73 73 (S 21) 122 2 M3 [91,89,92]++(F 225 463 74 74 (S 22) 127 3 M3 [61,62,91,89,42,44,83,93]++(F 232 483 77 77 (S 26) 142 1 M4 [94,95,44])))))))))))))))
def z2 (P:Params):List Obj:=F 239 492 78 78 (S 27) 151 2 M4 [96,94]++(F 246 500 79 79 (S 28) 157 2 M4 [97,94,82,96]++(F 253 510 80 80 (S 29) 166 2 M4 [94,97,98,44,87,88]++([tO #[],O k7 #[k8,k9],Q #[en P 20 529 (sv 63 477),en P 21 531 (sv 100 530),en P 22 533 (.int 174 532),en P 30 542 273,en P 94 549 280,en P 97 556 287,en P 105 564 294,en P 106 573 301,en P 107 581 308,en P 108 588 315,en P 109 596 322,en P 23 600 323] 12,tO #[],vO #[(iv 176),(iv 4),272,(iv 185),(iv 4),279,(iv 188),(iv 4),286,(iv 191),(iv 4),293,(iv 194),(iv 4),300,(iv 197),(iv 4),307,(iv 200),(iv 4),314,(iv 203),(iv 4),321],O k1 #[(sv 100 524),(sv 100 525),(sv 1 526),(iv 174),(iv 0),(iv 0),(iv 0),(iv 0),263,(.bool false),(iv 181),264,.none,.none,.none,.none,(iv 527),(iv 174),(sv 1 528)],Obj.mk k2 .none Data.plain #[(some 265),(some 3),(some 262),.none,(some (sv 63 477)),.none,(some 0)]]++(F 267 534 30 110 (C 30 0) 176 3 M4 [40,94,97]++(F 274 543 94 111 (C 30 1) 185 1 M4 [40]++(F 281 550 97 112 (C 30 2) 188 1 M4 [40]++(F 288 557 105 113 (C 30 3) 191 2 M4 [40,44]++(F 295 565 106 114 (C 30 4) 194 3 M4 [40,87,88]++(F 302 574 107 115 (C 30 5) 197 2 M4 [40,44]++(F 309 582 108 116 (C 30 6) 200 1 M4 [40]++(F 316 589 109 117 (C 30 7) 203 2 M4 [40,44]++([tO #[(sv 98 597),(sv 118 598),(sv 119 599)],Q #[en P 20 529 (sv 63 477),en P 22 533 (.int 174 532),en P 30 542 273,en P 94 549 280,en P 97 556 287,en P 105 564 294,en P 106 573 301,en P 107 581 308,en P 108 588 315,en P 109 596 322,en P 23 600 323,en P 60 602 326,en P 24 604 327,en P 5 605 .none] 4,Obj.mk k9 .none (Data.cls (ClassData.mk (s 100) [k12] [325,k12] 324 (s 100) true [] [] false .none false)) #[.none,.none,(some (sv 100 522)),(some (sv 100 530)),(some k18),(some (.bool true))],O k14 #[(sv 60 601),325,k19,k20],O k14 #[(sv 24 603),325,k15,.none],O k16 #[325,325,325],O k7 #[k17,325]]++(F 330 610 101 101 (S 32) 206 2 M5 [120,121]++(F 337 618 102 102 (S 33) 210 2 M5 [122,123,124,125,126,121,127]++(F 344 631 103 103 (S 34) 224 2 M5 [128,129])))))))))))))))
def z3 (P:Params):List Obj:=G 351 639 104 104 (S 35) 228 2 M5++(F 356 645 130 130 (S 36) 237 2 M5 [128,142,143,124,144,121,145,146,147]++(F 363 660 131 131 (S 37) 248 1 M5 [128,148,142,149]++(G 370 670 132 132 (S 38) 253 2 M5++(F 375 676 133 133 (S 39) 256 2 M5 [150,151,124]++(F 382 685 134 134 (S 40) 263 3 M5 [150,152,153]++(G 389 694 135 135 (S 41) 265 3 M5++(F 394 700 136 136 (S 42) 283 4 M5 [150,154,151,153,155,156,124,152,157,145,158]++(G 401 717 137 137 (S 43) 294 2 M5++(G 406 723 138 138 (S 44) 299 6 M5++(G 411 729 139 139 (S 45) 332 1 M5++(G 416 735 140 140 (S 46) 336 4 M5++(G 421 741 141 141 (S 47) 344 1 M5))))))))))))
def zf (P:Params):List Obj:=z0 P++(z1 P++(z2 P++(z3 P)))
def alt {α:Type}:Bool→List α→List α
 |_,[]=>[]
 |true,x::l=>x::alt false l
 |false,_::l=>alt true l
def bt:Nat→List Obj→BT
 |0,_=>.nil
 |_,[]=>.nil
 |n+1,x::l=>.node x (bt n (alt true l)) (bt n (alt false l))
def pat:Nat→Nat→List (Nat×Obj)→List Obj→List Obj
 |0,_,_,_=>[]
 |_,_,_,[]=>[]
 |m+1,i,[],x::l=>x::pat m (i+1) [] l
 |m+1,i,(a,o)::r,x::l=>if i == a then o::pat m (i+1) r l else x::pat m (i+1) ((a,o)::r) l
abbrev an:Option Value:=(some (.ref 6))
def env:Env:={ scope:=pw.main.scope,locals:=mainNs,globals:=mainNs,cells:=[],code:=(.ref 13),frame:=some 14 }
abbrev bE:List Stmt:=behindTheImports pw
abbrev cE:Code:=.body bE env
abbrev qE:Pos:=(Pos.mk 0 0 0 0)
abbrev B:List Frame:=[topFrame qE]
def s0 (w:World) (os:OsState):Shared:=⟨boot_heap w.params,⟨[]⟩,boot_drawn,boot_toks,os⟩
def LF:Life:=(Life.mk [] [] [] 0 [] [] false #[] [] 0 false false false 0 [2000,10,10] false 0 true [] [] 0 false)
def DR:Drawn:=(Drawn.mk 0 0 0 0)
def sS (n:Nat) (ov:List (Nat×Obj)) (t:Tok) (w:World) (os:OsState):SharedT:=⟨bt 10 (pat n 0 ov (zf w.params)),n,LF,⟨[]⟩,DR,t,os⟩
def sa (w:World):OsState→SharedT:=let P:=w.params;sS 15 [(3,boot_o_3 P),(12,v12 P 0)] 187 w
def szT:List (Nat×Nat):=[(15,187),(59,247),(157,370),(260,522),(356,645),(426,747)]
def ovT (P:Params):List (List (Nat×Obj)):=[[(3,boot_o_3 P),(12,v12 P 0)],[(3,v3 P 14 14 (sv 3 239)),(12,v12 P 15)],[(3,v3 P 17 17 (sv 3 239)),(12,v12 P 24)],[(3,v3 P 34 34 (sv 63 477)),(12,v12 P 69)],[(3,v3 P 39 39 (sv 99 608)),(12,v12 P 84)],[]]
def sb (k:Nat) (w:World):OsState→SharedT:=sS (szT.getD k (0,0)).1 ((ovT w.params).getD k []) (szT.getD k (0,0)).2 w
def sgT:List (Nat×Nat×Nat):=[(511,0,8),(577,8,3),(509,11,19),(578,30,6),(353,36,12)]
def psT:List Pos:=[⟨0,0,0,0⟩,⟨13,0,20,16⟩,⟨70,0,74,15⟩,⟨166,0,173,15⟩,⟨228,0,236,21⟩,⟨344,0,362,56⟩]
def sg (k:Nat):=sgT.getD k (0,0,0)
def po (k:Nat):Pos:=psT.getD k ⟨0,0,0,0⟩
def sts (k:Nat):List Stmt:=(List.range (sg k).2.2).map fun i=>S ((sg k).2.1+i)
def La (w:World) (os:OsState):Option (Shared×Thread):=topGo treeTable pw w 11 an 12 (s0 w os) (topStub pw)
def Ra (w:World) (os:OsState):Option (Shared×Thread):=some ((sa w os).abs,⟨denote treeTable cE,cE,(Pos.mk 0 0 0 0),B⟩)
def Lb (w:World) (os:OsState):Option (Flow×SharedT×Code×Pos):=segRunT treeTable pw w 11 an 1 1 (sa w os) (blockOf bE env cE (Pos.mk 0 0 0 0) B)
def Rb (w:World) (os:OsState):Option (Flow×SharedT×Code×Pos):=some (.next,sb 0 w os,cE,(Pos.mk 0 0 0 0))
def L (k:Nat) (w:World) (os:OsState):Option (Flow×SharedT×Code×Pos):=segRunT treeTable pw w 11 an 1 (sg k).1 (sb k w os) (piecesOf (sts k) env cE (po k) B)
def R (k:Nat) (w:World) (os:OsState):Option (Flow×SharedT×Code×Pos):=some (.next,sb (k+1) w os,cE,po (k+1))
theorem q1:tt (Hd.La,Hd.Ra,Hd.Lb,Hd.L)=true:=by k_qdec
theorem ra:∀ w,Fast.tw11367235000924431832 w=Fast.tw15912052731592885781 w:=fun w=>by kernel_rfl
theorem ea (w:World) (os:OsState):La w os=Ra w os:=(congrFun (congrFun Fast.te11367235000924431832 w) os).trans ((congrFun (ra w) os).trans (congrFun (congrFun Fast.te15912052731592885781 w) os).symm)
theorem rb:∀ w,Fast.tw16430817790641568776 w=Rb w:=fun w=>by kernel_rfl
theorem eb (w:World) (os:OsState):Lb w os=Rb w os:=(congrFun (congrFun Fast.te16430817790641568776 w) os).trans (congrFun (rb w) os)
abbrev T:=Fast.tw9140266817696972190
theorem e {k:Nat}(h:∀ w,T k w=R k w) (w:World) (os:OsState):L k w os=R k w os:=(congrFun (congrFun (congrFun Fast.te9140266817696972190 k) w) os).trans (congrFun (h w) os)
theorem r0:∀ w,T 0 w=R 0 w:=fun w=>by kernel_rfl
theorem r1:∀ w,T 1 w=R 1 w:=fun w=>by kernel_rfl
theorem r2:∀ w,T 2 w=R 2 w:=fun w=>by kernel_rfl
theorem r3:∀ w,T 3 w=R 3 w:=fun w=>by kernel_rfl
theorem r4:∀ w,T 4 w=R 4 w:=fun w=>by kernel_rfl
def H1 (P:Params):Heap:=⟨⟨zf P⟩,LF⟩
def sf (w:World) (os:OsState):Shared:=⟨H1 w.params,⟨[]⟩,(Drawn.mk 0 0 0 0),747,os⟩
def Lf (w:World) (os:OsState):Option Shared:=topRun treeTable pw w 11 an 2 (sb 5 w os).abs ⟨doneF .next,cE,(Pos.mk 344 0 362 56),B⟩
def Rf (w:World) (os:OsState):Option Shared:=some (sf w os)
theorem qf:tt Hd.Lf=true:=by k_qdec
theorem rf:∀ w,Fast.tw2640074843757178226 w=Rf w:=fun w=>by kernel_rfl
theorem ef (w:World) (os:OsState):Lf w os=Rf w os:=(congrFun (congrFun Fast.te2640074843757178226 w) os).trans (congrFun (rf w) os)
theorem cut:bE=sts 0++(sts 1++(sts 2++(sts 3++(sts 4++([]))))):=by kernel_rfl
def M:Nat:=12+(1+(511+(577+(509+(578+(353+2))))))
theorem run (w:World) (os:OsState):topRun treeTable pw w 11 an M (s0 w os) (topStub pw)=some (sf w os):=by
 refine go_top (ea w os) (piece_block (q:=qE) (env:=env) (b:=bE) (segRun_of (eb w os)) ?_)
 rw[show restOf bE env cE (Pos.mk 0 0 0 0) [topFrame qE]=restOf _ env cE _ [topFrame qE] from congrArg (fun l=>restOf l env cE (Pos.mk 0 0 0 0) [topFrame qE]) cut]
 exact piece_app (segRun_of (e r0 w os)) (piece_app (segRun_of (e r1 w os)) (piece_app (segRun_of (e r2 w os)) (piece_app (segRun_of (e r3 w os)) (piece_app (segRun_of (e r4 w os)) (ef w os)))))
abbrev rW:RowW:=(PySem.Challenge.rw_beatless_k33_papers_with_something_wrong.row).toRowW
def Qi:List Nat:=[0,2,3,5,7,8,9,10,11,12,13,15,16,17,18,19,20,21,22,24,25,26,27,28,29,30,32,33,34,35,36,37,38,39,40,41,42,43,44,45,46,47]
def Qp:Program:={ pw with main:={ pw.main with body:=Qi.map S } }
def Xt (s:Shared):Bool:=xlAt Qp [] s&&recOk (RowW.records rW) s
def as:List Addr:=[2,3,15,17,18,20,21,22,29,30,31,32,35,42,43,44,47,49,50,52,53,54,57,58,66,68,69,71,72,73,75,76,78,79,80,82,83,85,86,87,89,90,92,93,94,96,97,99,100,101,103,104,106,107,108,110,111,113,114,115,117,118,120,121,122,124,125,127,128,129,131,132,134,135,136,137,138,139,140,143,145,146,148,149,150,152,153,155,156,157,159,160,162,163,164,166,167,169,170,171,173,174,176,177,178,180,181,183,184,185,187,188,190,191,192,194,195,197,198,199,202,203,204,206,207,209,210,211,213,214,216,217,218,220,221,223,224,225,227,228,230,231,232,234,235,237,238,239,241,242,244,245,246,248,249,251,252,253,255,256,258,259,267,269,270,272,273,274,276,277,279,280,281,283,284,286,287,288,290,291,293,294,295,297,298,300,301,302,304,305,307,308,309,311,312,314,315,316,318,319,321,322,323,324,325,326,327,330,332,333,335,336,337,339,340,342,343,344,346,347,349,350,351,354,355,356,358,359,361,362,363,365,366,368,369,370,373,374,375,377,378,380,381,382,384,385,387,388,389,392,393,394,396,397,399,400,401,404,405,406,409,410,411,414,415,416,419,420,421,424,425]
def K (P:Params):Frag:=as.map fun a=>(a,(zf P).getD a (vO #[]))
theorem asK (P:Params):as=(K P).map (·.1):=by kernel_rfl
def Ly (w:World) (os:OsState):List (Option Obj):=as.map (sf w os).heap.get?
def Ry (w:World) (_:OsState):List (Option Obj):=(K w.params).map fun p=>some p.2
abbrev hk:Hook:=kHook K as asK
abbrev zbp:List Str:=importedModules pw.main.body
def A (w:World) (os:OsState):=openSeen Qp [] zbp Xt true (sf w os)
def Ga (_:World) (_:OsState):=openGood Qp []
def Ls (w:World) (os:OsState):Bool:=staticsOk zbp (boot_heap w.params) (H1 w.params)&&namesBound pw (H1 w.params)&&gensDone (sf w os)&&laidKept (boot_heap w.params) (H1 w.params)
def Rs (_:World) (_:OsState):Bool:=true
def Lz (w:World) (_:OsState):=((boot_heap w.params).isNs mainGlobals&&(⟨[]⟩:Array GenState).size == 0,(boot_heap w.params).objs.size,(boot_heap w.params).nsMap mainGlobals "__annotations__")
def Rz (_:World) (_:OsState):Bool×Nat×Option Value:=(true,11,an)
theorem q2:tt (Hd.Ly,Hd.A,Hd.Ls,Hd.Lz)=true:=by k_qdec
theorem rLy:∀ w,Fast.tw691215026958702249 w=Ry w:=fun w=>by kernel_rfl
theorem eLy (w:World) (os:OsState):Ly w os=Ry w os:=(congrFun (congrFun Fast.te691215026958702249 w) os).trans (congrFun (rLy w) os)
theorem rA:∀ w,Fast.tw18113995546815864426 w=Ga w:=fun w=>by kernel_rfl
theorem eA (w:World) (os:OsState):A w os=Ga w os:=(congrFun (congrFun Fast.te18113995546815864426 w) os).trans (congrFun (rA w) os)
theorem rLs:∀ w,Fast.tw4959303863618478765 w=Rs w:=fun w=>by kernel_rfl
theorem eLs (w:World) (os:OsState):Ls w os=Rs w os:=(congrFun (congrFun Fast.te4959303863618478765 w) os).trans (congrFun (rLs w) os)
theorem rLz:∀ w,Fast.tw17831390912981975158 w=Rz w:=fun w=>by kernel_rfl
theorem eLz (w:World) (os:OsState):Lz w os=Rz w os:=(congrFun (congrFun Fast.te17831390912981975158 w) os).trans (congrFun (rLz w) os)
theorem op:opening pw=plainProg pw.main.scope.names:=by kernel_rfl
theorem fe (s:Shared):fenceModules? pw s=some s:=by kernel_rfl
theorem left:LeftO pw Qp [] Xt hk.obs hk.val 5172 :=
 LeftO.of_pieces (M:=M) (m₀:=11) (ann:=an) (H₀:=boot_heap) (H₁:=H1) (boot_open op (by kernel_rfl) fe) (fun w=>eLz w (start pw).1.os) run (by kernel_rfl) (fun w=>funext fun os=>looks_pair (eLs w os) (looks_pair (eA w os) (eLy w os)))
theorem both {a b:Bool}(z:(a&&b)=true):a=true∧b=true:=Bool.and_eq_true_iff.mp z
end Hd
end
namespace K04
open PySem L2
theorem rdy (P:Params):chk tbT (Hd.K P)=true:=by kernel_rfl
theorem fnE (P:Params):tbT.f.map (fun e=>(Hd.K P).lookup e.a)=tbT.f.map (fnB (Hd.K P)):=by kernel_rfl
theorem bdT:∀ (g:FuncData) (us:List Value),us.length≤8→bdA tbT g us:=zaH (fun _=>by kernel_rfl) (fun _ _=>by kernel_rfl) (fun _ _ _=>by kernel_rfl) (fun _ _ _ _=>by kernel_rfl) (fun _ _ _ _ _=>by kernel_rfl) (fun _ _ _ _ _ _=>by kernel_rfl) (fun _ _ _ _ _ _ _=>by kernel_rfl) (fun _ _ _ _ _ _ _ _=>by kernel_rfl) (fun _ _ _ _ _ _ _ _ _=>by kernel_rfl)
end K04
open PySem PySem.W PyProof.Rows
set_option maxRecDepth 100000 in
set_option maxHeartbeats 0 in
theorem PySem.Challenge.cw_beatless_k33_papers_with_something_wrong_holds : PySem.Challenge.rw_beatless_k33_papers_with_something_wrong.Holds := by
 w_on;o_law
 refine holds_open (XP:=XL Hd.Qp []) (YP:=(kHook Hd.K Hd.as Hd.asK).says) Hd.left Hd.hk.of Hd.hk.keeps
  (fun s z=>xl_of s (Hd.both z).1) XL.keeps (by rfl) (by rfl) (by rfl)
  (fun s z=>recFacts_of (Hd.both z).2) (by rfl) (by assumption) (by decide +kernel)
  ⟨rfl,rfl,rfl,rfl,rfl,by decide +kernel⟩ ?hw ?hc
 case hw=>w_witness2
 k_fill
 refine L2.walk_ofK (l:=PySem.Challenge.rw_beatless_k33_papers_with_something_wrong) (n:=63) (k:=26) (x := "_law_script") (CX:=L2.CX0) (sp:=K04.spLaw) rfl (by decide) rfl ⟨rfl,by decide,by decide,rfl⟩ (fun w h Y=>PySem.W.kIn_of Y) ?F ?S ?C
 case F =>
  intro w mg fa h KX G hmg
  have T:K04.Txt w (L2.KOf KX) mg ():=⟨K04.rdy _,K04.fnE _,K04.bdT,fun x v e=>match v,e with | none,e=>mg_none_of KX G e | some _,e=>mg_of KX G e⟩
  have e0:=hmg.symm.trans (T.g 34)
  cases e0
  exact⟨_,fun s v=>.of_eq (T.be 34 (us:=[v]) (hl:=rfl)),fun base kb nb=>K04.ok_law T⟩
 case S=>exact fun K H a ns hl hO hS=>K04.sp_law_of hl hO hS
 case C=>exact fun _ _ _ _ z=>z