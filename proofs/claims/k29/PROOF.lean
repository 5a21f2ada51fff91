import PyProof.Rows.All
import Wide.All
import OpenK.AllK
import Wide.FinOn
import PySem.Challenge.RW_beatless_k29_any_parents_and_bridges
import Lean
import PyProof.EqAt
import PyProof.EqKinds
import PyProof.TupleCall
import PyProof.ZipIter
import PyProof.WalksMore
import KE.KRevSl
import KE.KIntText
import KE.KRevIter
import PyProof.Draws
import PyProof.EnumFor
import PyProof.EnumStmt
import PyProof.AttrMissHeap
import PyProof.DictUpdate
import PyProof.DictValues
import KE.KDictList
import PyProof.DictItemsLoops
import PyProof.DictWalks
import PyProof.Rows.SetFrom
set_option Elab.async false
set_option compiler.extract_closed false
set_option linter.all false
set_option maxRecDepth 100000
namespace L2
open PySem PySem.Spec PyProof.Rows
abbrev Key:=Sum Int Str
def wy:Key→Value→Bool
 |.inl k,v=>Value.isInt k v
 |.inr x,v=>Value.isStrOf x v
def zh3 (w:World):Key→Int
 |.inl k=>hashInt k
 |.inr x=>hashStr w x
theorem zN:∀ {k:Key}{v:Value},wy k v=true→(∃ i t,k=Sum.inl i∧v=Value.int i t)∨(∃ x t,k=Sum.inr x∧v=Value.str x t)
 |.inl i,v,h=>by
  obtain⟨t,e⟩:=Value.isInt_shape (k:=i) (v:=v) h
  exact .inl ⟨i,t,rfl,e⟩
 |.inr x,v,h=>by
  obtain⟨t,e⟩:=Value.isStrOf_shape (x:=x) (v:=v) h
  exact .inr ⟨x,t,rfl,e⟩
theorem Z1 (i:Int) (t:Tok):wy (.inl i) (.int i t)=true:=by simp[wy,Value.isInt]
theorem Z0 (x:Str) (t:Tok):wy (.inr x) (.str x t)=true:=by simp[wy,Value.isStrOf]
theorem V6 (a b:Int):decide ((Sum.inl a:Key)=Sum.inl b)=(a == b):=by
 by_cases e:a=b
 ·subst e;simp
 ·have h:¬ (Sum.inl a:Key)=Sum.inl b:=fun q=>e (Sum.inl.inj q)
  rw[decide_eq_false h]
  exact(beq_eq_false_iff_ne.mpr e).symm
theorem V3 (a b:Str):decide ((Sum.inr a:Key)=Sum.inr b)=decide (a=b):=by
 by_cases e:a=b
 ·subst e;simp
 ·have h:¬ (Sum.inr a:Key)=Sum.inr b:=fun q=>e (Sum.inr.inj q)
  rw[decide_eq_false h,decide_eq_false e]
theorem V5 (a:Int) (b:Str):decide ((Sum.inl a:Key)=Sum.inr b)=false:=decide_eq_false (fun q=>nomatch q)
theorem V4 (a:Str) (b:Int):decide ((Sum.inr a:Key)=Sum.inl b)=false:=decide_eq_false (fun q=>nomatch q)
def zA (prog:Program) (w:World):PySem.KeyKind prog w Key where
 is:=wy
 hash:=zh3 w
 inj:=fun v a b ha hb=>by
  rcases zN ha with⟨i,t,rfl,rfl⟩ | ⟨x,t,rfl,rfl⟩
  ·rcases zN hb with⟨j,u,rfl,e⟩ | ⟨y,u,rfl,e⟩
   ·injection e with e1 _;rw[e1]
   ·exact nomatch e
  ·rcases zN hb with⟨j,u,rfl,e⟩ | ⟨y,u,rfl,e⟩
   ·exact nomatch e
   ·injection e with e1 _;rw[e1]
 byValue:=fun k v h=>by
  rcases zN h with⟨i,t,rfl,rfl⟩ | ⟨x,t,rfl,rfl⟩<;>rfl
 pyHash:=fun hv h=>by
  rcases zN hv with⟨i,t,rfl,rfl⟩ | ⟨x,t,rfl,rfl⟩
  ·exact wpAny_pyHash_int h
  ·exact wpAny_pyHash_str h
 eqBool:=fun hu hv h=>by
  rcases zN hu with⟨i,t,rfl,rfl⟩ | ⟨x,t,rfl,rfl⟩
  ·rcases zN hv with⟨j,u,rfl,rfl⟩ | ⟨y,u,rfl,rfl⟩
   ·rw[V6] at h;exact wpAny_eqBool_int h
   ·rw[V5] at h;exact SeqAt.EqAt.int_str i t y u _ _ _ _ h
  ·rcases zN hv with⟨j,u,rfl,rfl⟩ | ⟨y,u,rfl,rfl⟩
   ·rw[V4] at h;exact SeqAt.EqAt.str_int x t j u _ _ _ _ h
   ·rw[V3] at h;exact wpAny_eqBool_str h
 «strs»:=fun k x t v h=>by
  rcases zN h with⟨i,u,rfl,e⟩ | ⟨y,u,rfl,e⟩
  ·exact nomatch e
  ·injection e with e1 _
   subst e1
   cases v<;>rfl
theorem ut (prog:Program) (w:World) (k:Key) (v:Value):(zA prog w).is k v=wy k v:=rfl
theorem vx (prog:Program) (w:World) (i:Int) (t:Tok):(zA prog w).is (.inl i) (.int i t)=true:=Z1 i t
theorem vw (prog:Program) (w:World) (x:Str) (t:Tok):(zA prog w).is (.inr x) (.str x t)=true:=Z0 x t
inductive V where
 |non | bl (b:Bool) | int (i:Int) | str (x:Str) | byt (b:Array UInt8) | flt (b:UInt64) | ref (a:Addr) | ty (n:String)
 deriving DecidableEq
def RelV:V→Value→Prop
 |.non,u=>u=Value.none
 |.bl b,u=>u=Value.bool b
 |.int i,u=>∃ t,u=Value.int i t
 |.str x,u=>∃ t,u=Value.str x t
 |.byt b,u=>∃ t,u=Value.bytes b t
 |.flt b,u=>∃ t,u=Value.float b t
 |.ref a,u=>u=Value.ref a
 |.ty n,u=>u=Value.type n
abbrev Vals:List V→List Value→Prop:=Paired RelV
theorem Vals.length {xs:List V}{us:List Value}(r:Vals xs us):xs.length=us.length:=Paired.length r
theorem Vals.get:∀ {xs:List V}{us:List Value}{i:Nat}{x:V},Vals xs us→xs[i]?=some x→∃ u,us[i]?=some u∧RelV x u
 |_,_,_,_,.nil,e=>by simp at e
 |_,_,0,_,.cons r _,e=>by simp at e;subst e;exact⟨_,rfl,r⟩
 |_,_,i+1,x,.cons _ t,e=>by
  obtain⟨u,h1,h2⟩:=Vals.get (i:=i) (x:=x) t (by simpa using e)
  exact⟨u,by simpa using h1,h2⟩
theorem Vals.set {x:V}{u:Value}(r:RelV x u):∀ {xs:List V}{us:List Value}(i:Nat),Vals xs us→Vals (xs.set i x) (us.set i u)
 |_,_,_,.nil=>.nil
 |_,_,0,.cons _ t=>.cons r t
 |_,_,i+1,.cons q t=>.cons q (Vals.set r i t)
theorem Vals.append:∀ {xs ys:List V}{us ws:List Value},Vals xs us→Vals ys ws→Vals (xs++ys) (us++ws)
 |_,_,_,_,.nil,s=>s
 |_,_,_,_,.cons r t,s=>.cons r (Vals.append t s)
theorem Vals.take:∀ {xs:List V}{us:List Value}(n:Nat),Vals xs us→Vals (xs.take n) (us.take n)
 |_,_,0,_=>.nil
 |_,_,_+1,.nil=>.nil
 |_,_,n+1,.cons r t=>.cons r (Vals.take n t)
theorem Vals.drop:∀ {xs:List V}{us:List Value}(n:Nat),Vals xs us→Vals (xs.drop n) (us.drop n)
 |_,_,0,r=>r
 |_,_,_+1,.nil=>.nil
 |_,_,n+1,.cons _ t=>Vals.drop n t
def RelO:Option V→Option Value→Prop
 |some v,some u=>RelV v u
 |none,none=>True
 |_,_=>False
def KV {κ:Type}:List (κ×V)→List (κ×Value)→Prop:=Paired fun(p:κ×V) (q:κ×Value)=>p.1=q.1∧RelV p.2 q.2
def kV:Key→V
 |.inl i=>.int i
 |.inr x=>.str x
inductive HO where
 /-- a list -/
 |lst (xs:List V)
 /-- a tuple (never changes) -/
 |tup (xs:List V)
 /-- a dict whose keys are ints and texts;one whose keys are tuples of ints and texts (the empty one is both) -/
 |dK (kvs:List (Key×V)) | dT (kvs:List (List Key×V))
 /-- a set of ints: its members,its size -/
 |set (S:Int→Bool) (n:Nat)
 /-- an instance of the class at C,its dict at dx,its attributes -/
 |ins (C dx:Addr) (fs:List (Str×V))
 /-- the dict of the instance at x -/
 |own (x:Addr)
 /-- the dict of an exception -/
 |xd (fs:List (Str×V))
 /-- a bound method,f of x -/
 |met (f x:Addr)
 /-- a range object lo,lo+1,.. below hi -/
 |rng (lo hi:Int)
 /-- a thing that is known to the object (the script;a dict while a loop walks it): read,never written while it is so -/
 |frz (o:Obj) (u:HO)
 /-- a code object's table -/
 |tbl (ps:Array Value)
 /-- any other thing,by what is true of its one object (a def of one's own: SetO a S n:=HO.ext fun h=>..) -/
 |ext (φ:Heap→Prop)
abbrev Hp:=Addr→Option HO
def upd (H:Hp) (a:Addr) (o:HO):Hp:=fun b=>if b=a then some o else H b
theorem upd_same {H:Hp}{a:Addr}{o:HO}:upd H a o a=some o:=by unfold upd;rw[if_pos rfl]
theorem upd_ne {H:Hp}{a b:Addr}{o:HO}(h:b≠a):upd H a o b=H b:=by unfold upd;rw[if_neg h]
theorem vf {H:Hp}{a:Addr}{o u:HO}:upd (upd H a o) a u=upd H a u:=by
 funext b;unfold upd;split<;>rfl
theorem Wz {H:Hp}{a b:Addr}{o u:HO}(h:H a=some o) (h':H b=some u) (d:o≠u):a≠b:=by
 intro e;subst e;rw[h] at h';exact d (Option.some.inj h')
theorem ne_of_none {H:Hp}{a b:Addr}{o:HO}(h:H a=some o) (h':H b=none):a≠b:=by
 intro e;subst e;rw[h] at h';cases h'
section
variable (P:Program) (w:World)
def ObjOk (H:Hp) (h:Heap) (a:Addr):HO→Prop
 |.lst xs=>xs.length≤sizeLine∧∃ (its:List Value) (n:Nat),Vals xs its∧h.get? a=some { cls:=.type "list",data:=.seq its.toArray n }
 |.tup xs=>xs.length≤sizeLine∧∃ its:List Value,Vals xs its∧IsTup h a its.toArray
 |.dK kvs=>kvs.length≤sizeLine∧(a == sysModules)=false∧∃ vs,KV kvs vs∧h.DictOf (zA P w) a vs
 |.dT kvs=>kvs.length≤sizeLine∧(a == sysModules)=false∧∃ xs:List (List Key×Addr×Value),
   Paired (fun(p:List Key×V) (q:List Key×Addr×Value)=>p.1=q.1∧H q.2.1=some (.tup (p.1.map kV))∧RelV p.2 q.2.2) kvs xs ∧
   ∃ o es ep,h.get? a=some o∧o.ExactDict∧o.data=.dict es ep∧es.toList=xs.map (entryOfKey (tupleKind (zA P w)))∧(xs.map (·.1)).Nodup
 |.set S n=>h.SetOf (intKind P w) a S n
 |.ins C dx fs=>H dx=some (.own a)∧fs.length≤1000∧dx≠a∧h.get? a=some (PySem.W.instObj C dx) ∧
   ∃ mA,h.Ns1 dx mA∧(∀ f,RelO (fs.lookup f) (mA f))∧PySem.Within mA (fs.map (·.1))
 |.own _=>∃ o,h.get? a=some o
 |.xd fs=>∃ mA,h.Ns1 a mA∧∀ f,RelO (fs.lookup f) (mA f)
 |.rng lo hi=>∃ t u v,h.get? a=some { cls:=.type "range",data:=.fields #[.int lo t,.int hi u,.int 1 v] }
 |.frz o u=>h.get? a=some o∧ObjOk H h a u
 |.tbl ps=>h.get? a=some { cls:=.none,data:=.fields ps }
 |.met f x=>h.get? a=some (PySem.W.methodObj (.ref f) (.ref x))
 |.ext φ=>φ h∧(∃ o,h.get? a=some o)∧∀ h1 h2:Heap,φ h1→(∀ o,h1.get? a=some o→h2.get? a=some o)→φ h2
def HOk (H:Hp) (h:Heap):Prop:=∀ a o,H a=some o→ObjOk P w H h a o
end
section
variable {P:Program}{w:World}{H H':Hp}{h h':Heap}{a:Addr}{o:HO}
theorem ObjOk.lt (x:ObjOk P w H h a o):a<h.objs.size:=by
 cases o with
 |lst xs=>obtain⟨_,_,_,_,e⟩:=x;exact Heap.lt_size e
 |tup xs=>obtain⟨_,_,_,p⟩:=x;exact p.lt
 |dK kvs=>obtain⟨_,_,_,_,o,_,_,e,_⟩:=x;exact Heap.lt_size e
 |dT kvs=>obtain⟨_,_,_,_,o,_,_,e,_⟩:=x;exact Heap.lt_size e
 |set S n=>obtain⟨o,_,_,_,e,_⟩:=x;exact Heap.lt_size e
 |ins C dx fs=>obtain⟨_,_,_,e,_⟩:=x;exact Heap.lt_size e
 |own y=>obtain⟨_,e⟩:=x;exact Heap.lt_size e
 |xd fs=>obtain⟨_,⟨_,_,_,e,_⟩,_⟩:=x;exact Heap.lt_size e
 |rng lo hi=>obtain⟨_,_,_,e⟩:=x;exact Heap.lt_size e
 |frz ob u=>obtain⟨e,_⟩:=x;exact Heap.lt_size e
 |tbl ps=>exact Heap.lt_size (show h.get? a=some _ from x)
 |met f y=>exact Heap.lt_size (show h.get? a=some _ from x)
 |ext φ=>obtain⟨_,⟨_,e⟩,_⟩:=x;exact Heap.lt_size e
theorem Paired.mapP {α β:Type}{F G:α→β→Prop}:∀ {l₁:List α}{l₂:List β},Paired F l₁ l₂→(∀ a b,F a b→G a b)→Paired G l₁ l₂
 |_,_,.nil,_=>.nil
 |_,_,.cons r t,f=>.cons (f _ _ r) (Paired.mapP t f)
theorem ObjOk.stay (x:ObjOk P w H h a o) (k:∀ b u,(b=a∨H b=some (.own a))→h.get? b=some u→h'.get? b=some u)
  (ho:∀ b,H b=some (.own a)→H' b=some (.own a)) (ht:∀ b xs,H b=some (.tup xs)→H' b=some (.tup xs)):ObjOk P w H' h' a o:=by
 induction o with
 |lst xs=>obtain⟨z,its,n,r,e⟩:=x;exact⟨z,its,n,r,k _ _ (.inl rfl) e⟩
 |tup xs=>obtain⟨z,its,r,ob,e,c⟩:=x;exact⟨z,its,r,ob,k _ _ (.inl rfl) e,c⟩
 |dK kvs=>obtain⟨z,y,vs,r,ob,es,ep,e,c⟩:=x;exact⟨z,y,vs,r,ob,es,ep,k _ _ (.inl rfl) e,c⟩
 |dT kvs =>
  obtain⟨z,y,xs,r,ob,es,ep,e,c⟩:=x
  exact⟨z,y,xs,Paired.mapP r fun p q z=>⟨z.1,ht _ _ z.2.1,z.2.2⟩,ob,es,ep,k _ _ (.inl rfl) e,c⟩
 |set S n=>obtain⟨ob,es,ep,t,e,c⟩:=x;exact⟨ob,es,ep,t,k _ _ (.inl rfl) e,c⟩
 |ins C dx fs =>
  obtain⟨d,z,ne,e,mA,⟨od,es,ep,e2,c⟩,r⟩:=x
  exact⟨ho _ d,z,ne,k _ _ (.inl rfl) e,mA,⟨od,es,ep,k _ _ (.inr d) e2,c⟩,r⟩
 |own y=>obtain⟨ob,e⟩:=x;exact⟨ob,k _ _ (.inl rfl) e⟩
 |xd fs=>obtain⟨mA,⟨od,es,ep,e,c⟩,r⟩:=x;exact⟨mA,⟨od,es,ep,k _ _ (.inl rfl) e,c⟩,r⟩
 |rng lo hi=>obtain⟨t,u,v,e⟩:=x;exact⟨t,u,v,k _ _ (.inl rfl) e⟩
 |frz ob u ih=>obtain⟨e,q⟩:=x;exact⟨k _ _ (.inl rfl) e,ih q⟩
 |tbl ps =>
  have e:h.get? a=some { cls:=.none,data:=.fields ps }:=x
  show h'.get? a=some { cls:=.none,data:=.fields ps }
  exact k a _ (.inl rfl) e
 |met f y =>
  have e:h.get? a=some (PySem.W.methodObj (.ref f) (.ref y)):=x
  show h'.get? a=some (PySem.W.methodObj (.ref f) (.ref y))
  exact k a _ (.inl rfl) e
 |ext φ=>obtain⟨p,⟨o,e⟩,st⟩:=x;exact⟨st _ _ p fun o q=>k _ _ (.inl rfl) q,⟨o,k _ _ (.inl rfl) e⟩,st⟩
theorem HOk.lt (x:HOk P w H h) (e:H a=some o):a<h.objs.size:=(x a o e).lt
theorem HOk.fresh (x:HOk P w H h) (e:h.objs.size≤a):H a=none:=by
 cases q:H a with
 |none=>rfl
 |some u=>exact absurd (Nat.lt_of_lt_of_le (x.lt q) e) (Nat.lt_irrefl _)
theorem HOk.kept (x:HOk P w H h) (k:∀ b u,h.get? b=some u→h'.get? b=some u):HOk P w H h':=fun a o e =>
 (x a o e).stay (fun b u _ q=>k b u q) (fun _ q=>q) fun _ _ q=>q
theorem HOk.laid (x:HOk P w H h) (k:∀ b u,h.get? b=some u→h'.get? b=some u) (hp:h.objs.size≤a) (new:ObjOk P w (upd H a o) h' a o):HOk P w (upd H a o) h':=fun b u e=>by
 have hn:=x.fresh hp
 by_cases hb:b=a
 ·subst hb;rw[upd_same] at e;cases e;exact new
 ·rw[upd_ne hb] at e
  exact(x b u e).stay (fun c v _ q=>k c v q) (fun c q=>by rw[upd_ne (ne_of_none q hn)];exact q) fun c xs q=>by rw[upd_ne (ne_of_none q hn)];exact q
end
def Rd (H:Hp) (a:Addr) (u:HO):Prop:=H a=some u∨∃ o,H a=some (.frz o u)
theorem Rd.ok {P:Program}{w:World}{H:Hp}{h:Heap}{a:Addr}{u:HO}(r:Rd H a u) (x:HOk P w H h):ObjOk P w H h a u:=by
 rcases r with r | ⟨o,r⟩
 ·exact x a u r
 ·obtain⟨_,q⟩:=x a _ r
  exact q
def Mut:Option HO→Prop
 |some (.lst _)=>True
 |some (.dK _)=>True
 |some (.dT _)=>True
 |some (.set _ _)=>True
 |some (.ins _ _ _)=>True
 |some (.ext _)=>True
 |_=>False
section
variable {P:Program}{w:World}{H:Hp}{h h':Heap}{x e:Addr}{o':HO}
theorem HOk.write (ok:HOk P w H h) (mu:Mut (H x)) (he:e=x∨H e=some (.own x)) (k:∀ b u,b≠e→h.get? b=some u→h'.get? b=some u) (heo:∃ u,h'.get? e=some u)
  (new:ObjOk P w (upd H x o') h' x o'):HOk P w (upd H x o') h':=fun b u q=>by
 have nown:∀ c y,H c=some (.own y)→c≠x:=fun c y r z=>by subst z;rw[r] at mu;exact mu
 have ntup:∀ c xs,H c=some (.tup xs)→c≠x:=fun c xs r z=>by subst z;rw[r] at mu;exact mu
 by_cases hb:b=x
 ·subst hb;rw[upd_same] at q;cases q;exact new
 ·rw[upd_ne hb] at q
  by_cases hbe:b=e
  ·have q':H b=some (.own x):=by
    rcases he with z | z
    ·exact absurd (hbe.trans z) hb
    ·rw[hbe];exact z
   rw[q] at q';cases q'
   obtain⟨v,hv⟩:=heo
   exact⟨v,by rw[hbe];exact hv⟩
  ·refine(ok b u q).stay (fun c v hc r=>k c v ?_ r) (fun c r=>by rw[upd_ne (nown c b r)];exact r) fun c xs r=>by rw[upd_ne (ntup c xs r)];exact r
   rcases hc with rfl | hc
   ·exact hbe
   ·rintro rfl
    rcases he with z | z
    ·exact nown c b hc z
    ·rw[hc] at z;cases z;exact hb rfl
end
structure Un (fs ex:List Addr) (H H':Hp) (h h':Heap):Prop where
 keep:∀ b o,h.get? b=some o→H b=none→b∉fs→b∉ex→h'.get? b=some o
 slot:∀ b o,h.get? b=some o→H b=none→b∈fs→b∉ex→∃ sl,h'.get? b=some { o with slots:=sl }
 free:∀ b o,h.get? b=some o→H b=none→b∉ex→H' b=none
 there:∀ b o,h.get? b=some o→b∉ex→∃ o',h'.get? b=some o'
 tups:∀ b xs,H b=some (.tup xs)→H' b=some (.tup xs)
 frzs:∀ b o u,H b=some (.frz o u)→H' b=some (.frz o u)
 tbls:∀ b ps,H b=some (.tbl ps)→∃ more,H' b=some (.tbl (ps++more))
section
variable {fs fs' ex ex':List Addr}{H H1 H2:Hp}{h h1 h2 h':Heap}{a x e:Addr}{o:HO}
theorem Un.any (u:Un fs ex H H1 h h1){b:Addr}{ob:Obj}(q:h.get? b=some ob) (n:H b=none) (hx:b∉ex):∃ sl,h1.get? b=some { ob with slots:=sl }:=by
 by_cases hb:b∈fs
 ·exact u.slot b ob q n hb hx
 ·exact⟨ob.slots,u.keep b ob q n hb hx⟩
theorem Un.kept (k:∀ b u,h.get? b=some u→h'.get? b=some u):Un fs ex H H h h' :=
 ⟨fun b ob q _ _ _=>k b ob q,fun b ob q _ _ _=>⟨ob.slots,k b ob q⟩,fun _ _ _ n _=>n,fun b ob q _=>⟨ob,k b ob q⟩,fun _ _ q=>q,fun _ _ _ q=>q,fun _ ps q=>⟨#[],by rw[q];simp⟩⟩
theorem Un.refl:Un fs ex H H h h:=Un.kept fun _ _ q=>q
theorem Un.laid (k:∀ b u,h.get? b=some u→h'.get? b=some u) (hp:h.objs.size≤a) (hn:H a=none):Un fs ex H (upd H a o) h h' where
 keep:=fun b u q _ _ _=>k b u q
 slot:=fun b u q _ _ _=>⟨u.slots,k b u q⟩
 free:=fun b u q n _=>by rw[upd_ne (Nat.ne_of_lt (Nat.lt_of_lt_of_le (Heap.lt_size q) hp))];exact n
 there:=fun b u q _=>⟨u,k b u q⟩
 tups:=fun b xs q=>by rw[upd_ne (ne_of_none q hn)];exact q
 frzs:=fun b u xs q=>by rw[upd_ne (ne_of_none q hn)];exact q
 tbls:=fun b ps q=>⟨#[],by rw[upd_ne (ne_of_none q hn),q];simp⟩
theorem Un.write (mu:Mut (H x)) (he:e=x∨H e=some (.own x)) (k:∀ b u,b≠e→h.get? b=some u→h'.get? b=some u) (heo:∃ u,h'.get? e=some u):Un fs ex H (upd H x o) h h':=by
 have hx:∀ b,H b=none→b≠x:=fun b n z=>by subst z;rw[n] at mu;exact mu
 have hb:∀ b,H b=none→b≠e:=fun b n z=>by
  subst z
  rcases he with r | r
  ·exact hx b n r
  ·rw[n] at r;cases r
 have hm:∀ b u,H b=some u→¬ Mut (some u)→b≠x:=fun b u q nm z=>by subst z;rw[q] at mu;exact nm mu
 refine⟨fun b u q n _ _=>k b u (hb b n) q,fun b u q n _ _=>⟨u.slots,k b u (hb b n) q⟩,fun b u q n _=>by rw[upd_ne (hx b n)];exact n,fun b u q _=>?_,
  fun b xs q=>by rw[upd_ne (hm b _ q fun z=>z)];exact q,fun b u xs q=>by rw[upd_ne (hm b _ q fun z=>z)];exact q,fun b ps q=>⟨#[],by rw[upd_ne (hm b _ q fun z=>z),q];simp⟩⟩
 by_cases hbe:b=e
 ·subst hbe;exact heo
 ·exact⟨u,k b u hbe q⟩
end
def trk (h:Heap) (H:Hp):List Addr:=(List.range h.objs.size).filter fun a=>(H a).isSome
def Xc (h:Heap) (H:Hp):Heap:=PySem.W.hideAll h (trk h H)
theorem Z9 (h:Heap) (H:Hp):(Xc h H).objs.size=h.objs.size:=PySem.W.hideAll_size _ _
theorem Xb {h:Heap}{H:Hp}{b:Addr}{o:Obj}(e:h.get? b=some o) (n:H b=none):(Xc h H).get? b=some o :=
 PySem.W.hideAll_get _ e fun hm=>by
  have q:(H b).isSome=true:=(List.mem_filter.mp hm).2
  rw[n] at q;simp at q
theorem Wx {h:Heap}{H:Hp}{b:Addr}{o:Obj}(e:(Xc h H).get? b=some o):h.get? b=some o∧H b=none:=by
 have e':h.get? b=some o:=PySem.W.of_hideAll (trk h H) e
 refine⟨e',?_⟩
 cases q:H b with
 |none=>rfl
 |some x =>
  have hm:b∈trk h H:=List.mem_filter.mpr ⟨List.mem_range.mpr (Heap.lt_size e'),by simp[q]⟩
  have z:(Xc h H).get? b=none:=PySem.W.hideAll_none (trk h H) hm
  rw[z] at e;cases e
structure Mod (K:PySem.W.Frag) (mg:Str→Option Value) (base:Heap):Prop where
 kin:K.In base
 glob:base.Ns mainGlobals mg
 blt:∃ mb,base.Ns builtinsNs mb∧∀ x:Str,x ≠ "__name__" → mb x=bootBuiltins x
 nolimit:base.NoLimit
structure Cx where
 prog:Program
 w:World
 K:PySem.W.Frag
 mg:Str→Option Value
 base:Heap
 A:Around
 N:List Str
 s₀:Shared
 H₀:Hp
 env:Env
 outer:List Env
 stack:List Env
 ex:List Addr
 fn:Str→Bool
 calm:Bool
 pn:List (Addr×Obj)
 xe:Value→Shared→Prop
def frs (l:List Env):List Addr:=l.filterMap (·.frame)
abbrev Cx.fs (X:Cx):List Addr:=frs X.outer
def Vis (sc:Scope) (x:Str):Prop:=sc.names.lookup x=some .local∨sc.names.lookup x=some .cell∨sc.names.lookup x=some .free
def Loc (sc:Scope) (x:Str):Prop:=sc.names.lookup x=some .local∨sc.names.lookup x=some .cell
def zh7 (env:Env) (h:Heap) (m:Str→Option Value) (x:Str) (u:Value):Prop :=
 (env.kindOf x=some .local∧m x=some u)∨((env.kindOf x=some .cell∨env.kindOf x=some .free)∧∃ c,env.cells.lookup x=some c∧h.IsCell c (some u))
structure Cx.Ok (X:Cx):Prop where
 mod:Mod X.K X.mg X.base
 kind:X.env.scope.kind=.function
 glob:X.env.globals=mainGlobals
 blt:X.env.builtins=builtinsNs
 above:X.s₀.heap.objs.size≤X.env.locals
 inj:∀ x y c,X.env.cells.lookup x=some c→X.env.cells.lookup y=some c→x=y
 has:∀ x,(X.env.kindOf x=some .cell∨X.env.kindOf x=some .free)→∃ c,X.env.cells.lookup x=some c
 cab:∀ x c,X.fn x=true→X.env.cells.lookup x=some c→X.s₀.heap.objs.size≤c
 hd:X.calm=true→X.A.handled=none
 frames:X.A.frames=some X.stack
 stk:X.stack=X.outer∨(X.stack=X.env::X.outer∧X.env.frame=some X.env.locals)
 exf:∀ b∈X.ex,b≠X.env.locals∧∀ x c,X.env.cells.lookup x=some c→c≠b
 bs:∀ b o,X.base.get? b=some o→X.s₀.heap.get? b=some o∧X.H₀ b=none
 bsz:X.base.objs.size≤X.s₀.heap.objs.size
 noex:∀ b o,X.base.get? b=some o→b∉X.ex
 exfs:∀ b∈X.ex,b∉X.fs
 funs:X.s₀.heap.FunFrames X.base X.outer
 frf:∀ b∈X.fs,X.H₀ b=none
structure Inv (X:Cx) (pins:List (Addr×Obj)) (σ:List (Option V)) (H:Hp) (s:Shared):Prop where
 ok:X.Ok
 os:s.os=X.s₀.os
 bare:AllBare s.gens
 base:Un X.fs X.ex X.H₀ H X.s₀.heap s.heap
 loc:∃ m,s.heap.Ns X.env.locals m∧∀ (i:Nat) (x:Str) (v:V),X.N[i]?=some x→σ[i]?=some (some v)→Vis X.env.scope x→∃ u,RelV v u∧zh7 X.env s.heap m x u
 cell:∀ x c,X.env.cells.lookup x=some c→∃ v,s.heap.IsCell c v
 free:H X.env.locals=none
 freeC:∀ x c,X.env.cells.lookup x=some c→H c=none
 pin:∀ p∈X.pn++pins,s.heap.get? p.1=some p.2∧H p.1=none∧p.1≠X.env.locals∧p.1∉X.fs∧∀ v,p.2.data≠.cell v
 hok:HOk X.prog X.w H s.heap
 len:σ.length=X.N.length
section
variable {X:Cx}{pins:List (Addr×Obj)}{σ:List (Option V)}{H H':Hp}{s:Shared}{h':Heap}
theorem Cx.Ok.nofr (ok:X.Ok){b:Addr}{o:Obj}(e:X.base.get? b=some o):b∉X.fs:=fun hb=>by
 have:=(ok.funs.mem hb).1
 rw[e] at this;cases this
theorem Inv.bs (I:Inv X pins σ H s):∀ b o,X.base.get? b=some o→s.heap.get? b=some o∧H b=none:=fun b o e =>
 ⟨I.base.keep b o (I.ok.bs b o e).1 (I.ok.bs b o e).2 (I.ok.nofr e) (I.ok.noex b o e),I.base.free b o (I.ok.bs b o e).1 (I.ok.bs b o e).2 (I.ok.noex b o e)⟩
theorem Inv.bk (I:Inv X pins σ H s):∀ b o,X.base.get? b=some o→s.heap.get? b=some o:=fun b o e=>(I.bs b o e).1
theorem Inv.mod (I:Inv X pins σ H s):Mod X.K X.mg X.base:=I.ok.mod
theorem Inv.kIn (I:Inv X pins σ H s):X.K.In s.heap:=I.ok.mod.kin.keeps I.bk
theorem Inv.lt (I:Inv X pins σ H s):X.env.locals<s.heap.objs.size:=let ⟨_,hn,_⟩:=I.loc;hn.lt
theorem Inv.sz (I:Inv X pins σ H s):X.s₀.heap.objs.size≤s.heap.objs.size:=Nat.le_trans I.ok.above (Nat.le_of_lt I.lt)
theorem Inv.nofs (I:Inv X pins σ H s){a:Addr}(h:s.heap.objs.size≤a):a∉X.fs:=fun hb=>by
 obtain⟨_,o,ho,_⟩:=I.ok.funs.mem hb
 exact absurd (Nat.lt_of_lt_of_le (Heap.lt_size ho) (Nat.le_trans I.sz h)) (Nat.lt_irrefl _)
theorem Inv.cne (I:Inv X pins σ H s):∀ x c,X.env.cells.lookup x=some c→c≠X.env.locals:=fun x c e z=>by
 obtain⟨v,o,ho,hd⟩:=I.cell x c e
 obtain⟨m,⟨o',es,ep,ho',hd',_⟩,_⟩:=I.loc
 rw[z,ho'] at ho;cases ho;rw[hd'] at hd;cases hd
theorem Inv.funs (I:Inv X pins σ H s):s.heap.FunFrames X.base X.outer:=by
 have all:∀ (l:List Env),(∀ b∈frs l,b∈X.fs)→X.s₀.heap.FunFrames X.base l→s.heap.FunFrames X.base l:=by
  intro l
  induction l with
  |nil=>intro _ _;trivial
  |cons env r ih =>
   intro hs hl
   obtain⟨hk,⟨L,o,hf,hn,ho,hd⟩,hr⟩:=hl
   have hL:L∈X.fs:=hs L (by unfold frs;rw[List.filterMap_cons,hf];exact List.mem_cons_self)
   obtain⟨sl,e⟩:=I.base.slot L o ho (I.ok.frf L hL) hL fun z=>I.ok.exfs L z hL
   exact⟨hk,⟨L,_,hf,hn,e,hd⟩,ih (fun b hb=>hs b (by unfold frs;rw[List.filterMap_cons,hf];exact List.mem_cons_of_mem _ hb)) hr⟩
 exact all X.outer (fun _ hb=>hb) I.ok.funs
theorem Inv.stack (I:Inv X pins σ H s):s.heap.FunFrames X.base X.stack:=by
 rcases I.ok.stk with e | ⟨e,hf⟩
 ·rw[e];exact I.funs
 ·rw[e]
  obtain⟨m,hn,_⟩:=I.loc
  refine .cons (by rw[I.ok.kind];decide) hf hn ?_ I.funs
  exact Heap.get?_none_of_le (Nat.le_trans I.ok.bsz I.ok.above)
theorem Inv.stkSub (I:Inv X pins σ H s):∀ b∈frs X.stack,b∈X.env.locals::X.fs:=fun b hb=>by
 rcases I.ok.stk with e | ⟨e,hf⟩
 ·rw[e] at hb;exact List.mem_cons_of_mem _ hb
 ·rw[e] at hb
  unfold frs at hb
  rw[List.filterMap_cons,hf] at hb
  exact hb
theorem Inv.stkFree (I:Inv X pins σ H s):∀ b∈frs X.stack,H b=none:=fun b hb=>by
 rcases List.mem_cons.mp (I.stkSub b hb) with e | hb
 ·rw[e];exact I.free
 ·obtain⟨_,o,ho,_⟩:=I.ok.funs.mem hb
  exact I.base.free b o ho (I.ok.frf b hb) fun z=>I.ok.exfs b z hb
theorem Inv.step {g':Array GenState}{t':Nat}{d':Drawn}{ch:List Addr}(I:Inv X pins σ H s)
  (hch:∀ b∈ch,(b∈X.ex∨X.s₀.heap.objs.size≤b)∧b≠X.env.locals∧(∀ x c,X.env.cells.lookup x=some c→c≠b)∧∀ p∈X.pn++pins,p.1≠b)
  (keep:∀ b o,b≠X.env.locals→b∉X.fs→b∉ch→s.heap.get? b=some o→H b=none→h'.get? b=some o)
  (slot:∀ b o,b≠X.env.locals→b∈X.fs→b∉ch→s.heap.get? b=some o→H b=none→∃ sl,h'.get? b=some { o with slots:=sl }) (free:∀ b o,b∉ch→s.heap.get? b=some o→H b=none→H' b=none)
  (there:∀ b o,b∉ch→s.heap.get? b=some o→∃ o',h'.get? b=some o')
  (tups:∀ b xs,H b=some (.tup xs)→H' b=some (.tup xs)) (frzs:∀ b o u,H b=some (.frz o u)→H' b=some (.frz o u)) (tbls:∀ b ps,H b=some (.tbl ps)→∃ more,H' b=some (.tbl (ps++more)))
  (ns:∀ m,s.heap.Ns X.env.locals m→h'.Ns X.env.locals m) (hok:HOk X.prog X.w H' h') (hg:AllBare g') :
  Inv X pins σ H' { s with heap:=h',gens:=g',drawn:=d',toks:=t' }:=by
 have neL:∀ b o,X.s₀.heap.get? b=some o→b≠X.env.locals:=fun b o e=>Nat.ne_of_lt (Nat.lt_of_lt_of_le (Heap.lt_size e) I.ok.above)
 have neC:∀ b o,X.s₀.heap.get? b=some o→b∉X.ex→b∉ch:=fun b o e hx hb=>by
  rcases(hch b hb).1 with z | z
  ·exact hx z
  ·exact absurd (Nat.lt_of_lt_of_le (Heap.lt_size e) z) (Nat.lt_irrefl _)
 have cellK:∀ x c,X.env.cells.lookup x=some c→∀ v,s.heap.IsCell c v→h'.IsCell c v:=fun x c e v ⟨o,ho,hd⟩=>by
  have nch:c∉ch:=fun z=>(hch c z).2.2.1 x c e rfl
  by_cases hc:c∈X.fs
  ·obtain⟨sl,q⟩:=slot c o (I.cne x c e) hc nch ho (I.freeC x c e)
   exact⟨_,q,hd⟩
  ·exact⟨o,keep c o (I.cne x c e) hc nch ho (I.freeC x c e),hd⟩
 refine⟨I.ok,I.os,hg,⟨fun b o e n hb hx=>?_,fun b o e n hb hx=>?_,fun b o e n hx=>?_,fun b o e hx=>?_,fun b xs e=>tups b xs (I.base.tups b xs e),fun b o xs e=>frzs b o xs (I.base.frzs b o xs e),fun b ps e=>?_⟩,?_,fun x c e=>?_,?_,fun x c e=>?_,fun p hp=>?_,hok,I.len⟩
 ·exact keep b o (neL b o e) hb (neC b o e hx) (I.base.keep b o e n hb hx) (I.base.free b o e n hx)
 ·obtain⟨sl,e1⟩:=I.base.slot b o e n hb hx
  obtain⟨sl',e2⟩:=slot b _ (neL b o e) hb (neC b o e hx) e1 (I.base.free b o e n hx)
  exact⟨sl',e2⟩
 ·obtain⟨o',e1⟩:=I.base.there b o e hx
  exact free b o' (neC b o e hx) e1 (I.base.free b o e n hx)
 ·obtain⟨o',e1⟩:=I.base.there b o e hx
  exact there b o' (neC b o e hx) e1
 ·obtain⟨m1,e1⟩:=I.base.tbls b ps e
  obtain⟨m2,e2⟩:=tbls b _ e1
  exact⟨m1++m2,by rw[e2,Array.append_assoc]⟩
 ·obtain⟨m,hn,hl⟩:=I.loc
  refine⟨m,ns m hn,fun i x v e1 e2 e3=>?_⟩
  obtain⟨u,r,l⟩:=hl i x v e1 e2 e3
  refine⟨u,r,?_⟩
  rcases l with l | ⟨k,c,e,z⟩
  ·exact .inl l
  ·exact .inr ⟨k,c,e,cellK x c e _ z⟩
 ·obtain⟨v,z⟩:=I.cell x c e
  exact⟨v,cellK x c e v z⟩
 ·obtain⟨m,⟨o,_,_,ho,_⟩,_⟩:=I.loc
  exact free _ o (fun z=>(hch _ z).2.1 rfl) ho I.free
 ·obtain⟨v,o,ho,hd⟩:=I.cell x c e
  exact free c o (fun z=>(hch c z).2.2.1 x c e rfl) ho (I.freeC x c e)
 ·obtain⟨e,n,ne,nf,d⟩:=I.pin p hp
  have nch:p.1∉ch:=fun z=>(hch p.1 z).2.2.2 p hp rfl
  exact⟨keep p.1 p.2 ne nf nch e n,free p.1 p.2 nch e n,ne,nf,d⟩
theorem Inv.un {t':Nat}(I:Inv X pins σ H s) (u:Un X.fs [] H H' s.heap h') (hok:HOk X.prog X.w H' h'):Inv X pins σ H' { s with heap:=h',toks:=t' }:=by
 obtain⟨m,⟨o,es,ep,ho,r⟩,_⟩:=id I.loc
 obtain⟨sl,hL⟩:=u.any ho I.free (by simp)
 exact I.step (g':=s.gens) (d':=s.drawn) (ch:=[]) (fun _ z=>nomatch z) (fun b o _ hb _ e n=>u.keep b o e n hb (by simp)) (fun b o _ hb _ e n=>u.slot b o e n hb (by simp)) (fun b o _ e n=>u.free b o e n (by simp)) (fun b o _ e=>u.there b o e (by simp)) u.tups u.frzs u.tbls (fun m' hm=>by
  obtain⟨o',es',ep',ho',r'⟩:=hm
  rw[ho] at ho';cases ho'
  exact⟨_,es',ep',hL,r'⟩) hok I.bare
theorem Inv.call {g':Array GenState}{t':Nat}{d':Drawn}{ch:List Addr}(I:Inv X pins σ H s) (u:Un (frs X.stack) ch H H' s.heap h') (hok:HOk X.prog X.w H' h') (hg:AllBare g')
  (hch:∀ b∈ch,(b∈X.ex∨X.s₀.heap.objs.size≤b)∧b≠X.env.locals∧(∀ x c,X.env.cells.lookup x=some c→c≠b)∧∀ p∈X.pn++pins,p.1≠b) :
  Inv X pins σ H' { s with heap:=h',gens:=g',drawn:=d',toks:=t' }:=by
 obtain⟨m,⟨o,es,ep,ho,r⟩,_⟩:=id I.loc
 obtain⟨sl,hL⟩:=u.any ho I.free fun z=>(hch _ z).2.1 rfl
 exact I.step (ch:=ch) hch (fun b o hL hb hc e n=>u.keep b o e n (fun z=>(List.mem_cons.mp (I.stkSub b z)).elim hL hb) hc) (fun b o _ _ hc e n=>u.any e n hc) (fun b o hc e n=>u.free b o e n hc) (fun b o hc e=>u.there b o e hc) u.tups u.frzs u.tbls (fun m' hm=>by
  obtain⟨o',es',ep',ho',r'⟩:=hm
  rw[ho] at ho';cases ho'
  exact⟨_,es',ep',hL,r'⟩) hok hg
theorem Inv.turned {t':Nat}{it:Addr}(I:Inv X pins σ H s) (k:∀ b o,b≠it→s.heap.get? b=some o→h'.get? b=some o) (hn:H it=none) (hL:it≠X.env.locals)
  (h1:it∈X.ex∨X.s₀.heap.objs.size≤it) (h2:∀ x c,X.env.cells.lookup x=some c→c≠it) (h3:∀ p∈X.pn++pins,p.1≠it):Inv X pins σ H { s with heap:=h',toks:=t' }:=by
 have nit:∀ b u,H b=some u→b≠it:=fun b u e z=>by rw[z,hn] at e;cases e
 refine I.step (g':=s.gens) (d':=s.drawn) (ch:=[it]) (fun b hb=>?_) (fun b o _ _ hc e _=>k b o (fun z=>hc (by simp[z])) e) (fun b o _ _ hc e _=>⟨o.slots,k b o (fun z=>hc (by simp[z])) e⟩) (fun _ _ _ _ n=>n)
  (fun b o hc e=>⟨o,k b o (fun z=>hc (by simp[z])) e⟩) (fun _ _ e=>e) (fun _ _ _ e=>e) (fun b ps e=>⟨#[],by rw[e];simp⟩) (fun m hm=>?_) (fun b u e=>?_) I.bare
 ·have e:b=it:=by simpa using hb
  subst e
  exact⟨h1,hL,h2,h3⟩
 ·obtain⟨o,es,ep,ho,r⟩:=hm
  exact⟨o,es,ep,k _ o (Ne.symm hL) ho,r⟩
 ·refine(I.hok b u e).stay (fun c v hc q=>k c v ?_ q) (fun _ q=>q) fun _ _ q=>q
  rcases hc with z | z
  ·rw[z];exact nit b u e
  ·exact nit c _ z
theorem Inv.tok (I:Inv X pins σ H s) (t:Nat):Inv X pins σ H { s with toks:=t }:=I.un (h':=s.heap) (t':=t) Un.refl I.hok
theorem Inv.kept {t':Nat}(I:Inv X pins σ H s) (k:∀ b u,s.heap.get? b=some u→h'.get? b=some u):Inv X pins σ H { s with heap:=h',toks:=t' }:=I.un (Un.kept k) (I.hok.kept k)
theorem Inv.laid {a:Addr}{o:HO}{t':Nat}(I:Inv X pins σ H s) (k:∀ b u,s.heap.get? b=some u→h'.get? b=some u) (hp:s.heap.objs.size≤a) (new:ObjOk X.prog X.w (upd H a o) h' a o) :
  Inv X pins σ (upd H a o) { s with heap:=h',toks:=t' }:=I.un (Un.laid k hp (I.hok.fresh hp)) (I.hok.laid k hp new)
theorem Inv.write {x e:Addr}{o:HO}{t':Nat}(I:Inv X pins σ H s) (mu:Mut (H x)) (he:e=x∨H e=some (.own x)) (k:∀ b u,b≠e→s.heap.get? b=some u→h'.get? b=some u) (heo:∃ u,h'.get? e=some u)
  (new:ObjOk X.prog X.w (upd H x o) h' x o):Inv X pins σ (upd H x o) { s with heap:=h',toks:=t' }:=I.un (Un.write mu he k heo) (I.hok.write mu he k heo new)
theorem Inv.pins_of {pins':List (Addr×Obj)}(I:Inv X pins σ H s) (h:∀ p∈pins',s.heap.get? p.1=some p.2∧H p.1=none∧p.1≠X.env.locals∧p.1∉X.fs∧∀ v,p.2.data≠.cell v):Inv X pins' σ H s :=
 ⟨I.ok,I.os,I.bare,I.base,I.loc,I.cell,I.free,I.freeC,fun p hp=>(List.mem_append.mp hp).elim (fun z=>I.pin p (List.mem_append_left _ z)) (h p),I.hok,I.len⟩
theorem nodup_ix {N:List Str}(hN:N.Nodup){i j:Nat}{x:Str}(a:N[i]?=some x) (b:N[j]?=some x):i=j:=by
 obtain⟨h1,e1⟩:=List.getElem?_eq_some_iff.mp a
 obtain⟨h2,e2⟩:=List.getElem?_eq_some_iff.mp b
 exact(List.getElem_inj hN).mp (e1.trans e2.symm)
theorem wI {M:Model}{A:Around}{E:Value→Shared→Prop}{i:Nat}{x:Str}{v:V}{u:Value}{Q:Unit→Shared→Prop}(I:Inv X pins σ H s) (hN:X.N.Nodup) (hi:X.N[i]?=some x) (hx:Loc X.env.scope x) (r:RelV v u)
  (h:∀ s',Inv X pins (σ.set i (some v)) H s'→(∃ a,Heap.SameBut a s.heap s'.heap∧(a=X.env.locals∨X.env.cells.lookup x=some a))→Q () s') (hf:X.fn x=true∨X.env.scope.names.lookup x=some .local:=by first | exact .inl rfl | exact .inr rfl | assumption):wpAny M A (storeName X.env x u) Q E s:=by
 obtain⟨m,hn,hl⟩:=id I.loc
 have hcls:(X.env.scope.kind == .class||(X.env.scope.kind == .module&&X.env.locals != X.env.globals))=false:=by rw[I.ok.kind];rfl
 have hiσ:i<σ.length:=by rw[I.len];exact(List.getElem?_eq_some_iff.mp hi).1
 have cne:=I.cne
 have tracked:∀ {a:Addr}{h':Heap},(∃ o,s.heap.get? a=some o∧H a=none)→Heap.SameBut a s.heap h'→HOk X.prog X.w H h':=fun {a h'} ha hs b ob e=>by
  obtain⟨_,_,hfree⟩:=ha
  refine(I.hok b ob e).stay (fun c w' hc q=>(hs.2 c ?_).trans q) (fun _ q=>q) fun _ _ q=>q
  rintro rfl
  rcases hc with rfl | hc
  ·rw[hfree] at e;cases e
  ·rw[hfree] at hc;cases hc
 rcases hx with hk | hk
 ·refine wpAny_storeName_local hk hn (fun h' hn' hs=>?_) hcls
  obtain⟨oL,_,_,hoL,_⟩:=id hn
  refine h _ ⟨I.ok,I.os,I.bare,⟨fun b o e n hb hx=>?_,fun b o e n hb hx=>?_,I.base.free,fun b o e hx=>?_,I.base.tups,I.base.frzs,I.base.tbls⟩,⟨_,hn',fun j y v' e1 e2 e3=>?_⟩,fun y c e=>?_,I.free,I.freeC,fun p hp=>?_,tracked ⟨oL,hoL,I.free⟩ hs,by simpa using I.len⟩ ⟨_,hs,.inl rfl⟩
  ·exact(hs.2 b (Nat.ne_of_lt (Nat.lt_of_lt_of_le (Heap.lt_size e) I.ok.above))).trans (I.base.keep b o e n hb hx)
  ·obtain⟨sl,e1⟩:=I.base.slot b o e n hb hx
   exact⟨sl,(hs.2 b (Nat.ne_of_lt (Nat.lt_of_lt_of_le (Heap.lt_size e) I.ok.above))).trans e1⟩
  ·obtain⟨o',e1⟩:=I.base.there b o e hx
   exact⟨o',(hs.2 b (Nat.ne_of_lt (Nat.lt_of_lt_of_le (Heap.lt_size e) I.ok.above))).trans e1⟩
  ·by_cases hj:j=i
   ·subst hj
    rw[hi] at e1;cases e1
    rw[List.getElem?_set_self hiσ] at e2
    cases e2
    exact⟨u,r,.inl ⟨hk,by simp⟩⟩
   ·rw[List.getElem?_set_ne (Ne.symm hj)] at e2
    obtain⟨u',r',q⟩:=hl j y v' e1 e2 e3
    refine⟨u',r',?_⟩
    rcases q with⟨k,e⟩ | ⟨k,c,e,z⟩
    ·refine .inl ⟨k,?_⟩
     have:y≠x:=fun e=>hj (nodup_ix hN e1 (e ▸ hi))
     simp[this,e]
    ·exact .inr ⟨k,c,e,z.sameBut hs (cne y c e)⟩
  ·obtain⟨w',z⟩:=I.cell y c e
   exact⟨w',z.sameBut hs (cne y c e)⟩
  ·obtain⟨e,n,ne,nf,d⟩:=I.pin p hp
   exact⟨(hs.2 p.1 ne).trans e,n,ne,nf,d⟩
 ·have hfn:X.fn x=true:=by
   rcases hf with z | z
   ·exact z
   ·rw[z] at hk;cases hk
  obtain⟨c,hc⟩:=I.ok.has x (.inl hk)
  obtain⟨w',z⟩:=I.cell x c hc
  refine wpAny_storeName_cell I.ok.kind hk hc z (fun h' hc' hs=>?_)
  obtain⟨oc,hoc,hocd⟩:=id z
  refine h { s with heap:=h' } ⟨I.ok,I.os,I.bare,⟨fun b o e n hb hx=>?_,fun b o e n hb hx=>?_,I.base.free,fun b o e hx=>?_,I.base.tups,I.base.frzs,I.base.tbls⟩,⟨m,hn.sameBut hs (Ne.symm (cne x c hc)),fun j y v' e1 e2 e3=>?_⟩,fun y c' e=>?_,I.free,I.freeC,fun p hp=>?_,tracked ⟨oc,hoc,I.freeC x c hc⟩ hs,by simpa using I.len⟩ ⟨c,hs,.inr hc⟩
  ·exact(hs.2 b (Nat.ne_of_lt (Nat.lt_of_lt_of_le (Heap.lt_size e) (I.ok.cab x c hfn hc)))).trans (I.base.keep b o e n hb hx)
  ·obtain⟨sl,e1⟩:=I.base.slot b o e n hb hx
   exact⟨sl,(hs.2 b (Nat.ne_of_lt (Nat.lt_of_lt_of_le (Heap.lt_size e) (I.ok.cab x c hfn hc)))).trans e1⟩
  ·obtain⟨o',e1⟩:=I.base.there b o e hx
   exact⟨o',(hs.2 b (Nat.ne_of_lt (Nat.lt_of_lt_of_le (Heap.lt_size e) (I.ok.cab x c hfn hc)))).trans e1⟩
  ·by_cases hj:j=i
   ·subst hj
    rw[hi] at e1;cases e1
    rw[List.getElem?_set_self hiσ] at e2
    cases e2
    exact⟨u,r,.inr ⟨.inl hk,c,hc,hc'⟩⟩
   ·rw[List.getElem?_set_ne (Ne.symm hj)] at e2
    obtain⟨u',r',q⟩:=hl j y v' e1 e2 e3
    refine⟨u',r',?_⟩
    rcases q with q | ⟨k,c',e,z'⟩
    ·exact .inl q
    ·refine .inr ⟨k,c',e,z'.sameBut hs ?_⟩
     rintro rfl
     exact hj (nodup_ix hN e1 (I.ok.inj _ _ _ e hc ▸ hi))
  ·by_cases hcc:c'=c
   ·subst hcc;exact⟨_,hc'⟩
   ·obtain⟨w2,z2⟩:=I.cell y c' e
    exact⟨w2,z2.sameBut hs hcc⟩
  ·obtain⟨e,n,ne,nf,d⟩:=I.pin p hp
   refine⟨(hs.2 p.1 ?_).trans e,n,ne,nf,d⟩
   intro q
   rw[q,hoc] at e
   have q':oc=p.2:=Option.some.inj e
   exact d w' (by rw[← q'];exact hocd)
theorem store_ok {M:Model}{A:Around}{E:Value→Shared→Prop}{i:Nat}{x:Str}{v:V}{u:Value}{Q:Unit→Shared→Prop}(I:Inv X pins σ H s) (hN:X.N.Nodup) (hi:X.N[i]?=some x) (hx:Loc X.env.scope x) (r:RelV v u)
  (h:∀ s',Inv X pins (σ.set i (some v)) H s'→Q () s') (hf:X.fn x=true∨X.env.scope.names.lookup x=some .local:=by first | exact .inl rfl | exact .inr rfl | assumption):wpAny M A (storeName X.env x u) Q E s :=
 wI I hN hi hx r (fun s' I' _=>h s' I') hf
theorem Inv.call' {s':Shared}{ch:List Addr}(I:Inv X pins σ H s) (ho:s'.os=s.os) (u:Un (frs X.stack) ch H H' s.heap s'.heap) (hok:HOk X.prog X.w H' s'.heap) (hg:AllBare s'.gens)
  (hch:∀ b∈ch,(b∈X.ex∨X.s₀.heap.objs.size≤b)∧b≠X.env.locals∧(∀ x c,X.env.cells.lookup x=some c→c≠b)∧∀ p∈X.pn++pins,p.1≠b):Inv X pins σ H' s':=by
 obtain⟨h',g',d',t',o'⟩:=s'
 have e:o'=s.os:=ho
 subst e
 exact I.call (g':=g') (t':=t') (d':=d') u hok hg hch
end
abbrev XK:=Value→Option Addr→Hp→Prop
abbrev St:=List (Option V)
abbrev VK:=V→Hp→Prop
abbrev TE:=St→Hp→VK→Prop
abbrev TT:=St→Hp→(Bool→Hp→Prop)→Prop
abbrev TA:=St→Hp→(List V→Hp→Prop)→Prop
structure Ends where
 nx:St→Hp→Prop
 rt:VK
 bk:St→Hp→Prop:=fun _ _=>False
 ct:St→Hp→Prop:=fun _ _=>False
abbrev TS:=Ends→St→Hp→Prop
def EP (X:Cx) (pins:List (Addr×Obj)) (σ:St) (Q:VK) (u:Value) (s':Shared):Prop:=∃ v H',Inv X pins σ H' s'∧RelV v u∧Q v H'
def TP (X:Cx) (pins:List (Addr×Obj)) (σ:St) (Q:Bool→Hp→Prop) (b:Bool) (s':Shared):Prop:=∃ H',Inv X pins σ H' s'∧Q b H'
def AP (X:Cx) (pins:List (Addr×Obj)) (σ:St) (Q:List V→Hp→Prop) (us:List Value) (s':Shared):Prop:=∃ vs H',Inv X pins σ H' s'∧Vals vs us∧Q vs H'
def SP (X:Cx) (pins:List (Addr×Obj)) (D:Ends) (f:Flow) (s':Shared):Prop :=
 match f with
 |.next=>∃ σ' H',Inv X pins σ' H' s'∧D.nx σ' H'
 |.brk=>∃ σ' H',Inv X pins σ' H' s'∧D.bk σ' H'
 |.cont=>∃ σ' H',Inv X pins σ' H' s'∧D.ct σ' H'
 |.ret u=>∃ v σ' H',Inv X pins σ' H' s'∧RelV v u∧D.rt v H'
def PE (X:Cx) (e:Expr) (t:TE):Prop :=
 ∀ (pins:List (Addr×Obj)) (s:Shared) (σ:St) (H:Hp) (Q:VK),Inv X pins σ H s→t σ H Q→wpAny (model X.prog X.w) X.A (eval e X.env) (EP X pins σ Q) X.xe s
def PT (X:Cx) (e:Expr) (t:TT):Prop :=
 ∀ (pins:List (Addr×Obj)) (s:Shared) (σ:St) (H:Hp) (Q:Bool→Hp→Prop),Inv X pins σ H s→t σ H Q→wpAny (model X.prog X.w) X.A (isTrue e X.env (eval e X.env)) (TP X pins σ Q) X.xe s
def PW (X:Cx) (e:Expr) (t:TT):Prop :=
 ∀ (whole:Sem Value) (pins:List (Addr×Obj)) (s:Shared) (σ:St) (H:Hp) (Q:Bool→Hp→Prop),Inv X pins σ H s→t σ H Q→wpAny (model X.prog X.w) X.A (isTrue e X.env whole) (TP X pins σ Q) X.xe s
theorem PW.pt {X:Cx}{e:Expr}{t:TT}(h:PW X e t):PT X e t:=h _
def PA (X:Cx) (es:List Expr) (t:TA):Prop :=
 ∀ (pos:Pos) (pins:List (Addr×Obj)) (s:Shared) (σ:St) (H:Hp) (Q:List V→Hp→Prop),Inv X pins σ H s→t σ H Q→wpAny (model X.prog X.w) X.A (spliced (backTo pos (starEach es X.env))) (AP X pins σ Q) X.xe s
def PS (X:Cx) (st:Stmt) (t:TS):Prop :=
 ∀ (pins:List (Addr×Obj)) (s:Shared) (σ:St) (H:Hp) (D:Ends),Inv X pins σ H s→t D σ H→wpAny (model X.prog X.w) X.A (exec st X.env) (SP X pins D) X.xe s
def PSs (X:Cx) (st:List Stmt) (t:TS):Prop :=
 ∀ (pins:List (Addr×Obj)) (s:Shared) (σ:St) (H:Hp) (D:Ends),Inv X pins σ H s→t D σ H→wpAny (model X.prog X.w) X.A (execs st X.env) (SP X pins D) X.xe s
theorem thn {α:Type}{t:Sem α}{Q Q':α→Shared→Prop}{M:Model}{A:Around}{E:Value→Shared→Prop}{s:Shared}(h:wpAny M A t Q E s) (hQ:∀ a s,Q a s→Q' a s):wpAny M A t Q' E s:=wpAny_mono h hQ fun _ _ x=>x
section
variable {X:Cx}
theorem bin {a b:Expr}{ta tb:TE}(ha:PE X a ta) (hb:PE X b tb){pins:List (Addr×Obj)}{s:Shared}{σ:St}{H:Hp}{R:V→V→Hp→Prop}(I:Inv X pins σ H s) (h:ta σ H fun x H1=>tb σ H1 fun y H2=>R x y H2)
  {α:Type}{Q:α→Shared→Prop}{f:Value→Value→Sem α}
  (hf:∀ v u s2 x y H2,Inv X pins σ H2 s2→RelV x v→RelV y u→R x y H2→wpAny (model X.prog X.w) X.A (f v u) Q X.xe s2) :
  wpAny (model X.prog X.w) X.A (eval a X.env) (fun v s₁=>wpAny (model X.prog X.w) X.A (eval b X.env) (fun u s₂=>wpAny (model X.prog X.w) X.A (f v u) Q X.xe s₂) X.xe s₁) X.xe s:=by
 refine thn (ha pins s σ H _ I h) fun v s1 hq0=>?_
 obtain⟨x,H1,I1,r1,q1⟩:=hq0
 refine thn (hb pins s1 σ H1 _ I1 q1) fun u s2 hq0=>?_
 obtain⟨y,H2,I2,r2,q2⟩:=hq0
 exact hf v u s2 x y H2 I2 r1 r2 q2
def zaO (i:Nat):TE:=fun σ H Q=>∃ v,σ[i]?=some (some v)∧Q v H
def tC (v:V):TE:=fun _ H Q=>Q v H
theorem Vz {i:Nat}{x:Str}{pos:Pos}(hN:X.N[i]?=some x) (hv:Vis X.env.scope x) (hd:(x == ("__debug__" : Str))=false:=by decide) (hcd:(x == ("__classdict__" : Str))=false:=by decide):PE X (.Name x pos) (zaO i):=by
 intro pins s σ H Q I h
 obtain⟨v,e,h⟩:=h
 obtain⟨m,hn,hl⟩:=I.loc
 obtain⟨u,r,l⟩:=hl i x v hN e hv
 have fin:EP X pins σ Q u s:=⟨v,H,I,r,h⟩
 rcases l with⟨hk,hm⟩ | ⟨hk,c,hc,hcell⟩
 ·exact wpAny_Name (wpAny_loadName_local I.ok.kind hk hn hm fin) hd
 ·rcases hk with hk | hk
  ·exact wpAny_Name (wpAny_loadName_cell I.ok.kind hk hc hcell fin) hd
  ·exact wpAny_Name (wpAny_loadName_free I.ok.kind hk hc hcell fin hcd) hd
theorem yS {i j pos}:PE X (.Constant (.int i) j pos) (tC (.int i)):=fun _ _ _ H _ I h=>wpAny_Constant_int ⟨.int i,H,I.tok _,⟨_,rfl⟩,h⟩
theorem xT {b j pos}:PE X (.Constant (.bool b) j pos) (tC (.bl b)):=fun _ _ _ H _ I h=>Constant_bool ⟨.bl b,H,I,rfl,h⟩
theorem VC {j pos}:PE X (.Constant .none j pos) (tC .non):=fun _ _ _ H _ I h=>Constant_none ⟨.non,H,I,rfl,h⟩
def Gl (X:Cx) (x:Str):Prop:=X.env.kindOf x=some .globalImplicit
theorem ld_glob {E:Value→Shared→Prop}{pins:List (Addr×Obj)}{s:Shared}{σ:St}{H:Hp}{x:Str}{u:Value}{pos:Pos}{Q:Value→Shared→Prop}(I:Inv X pins σ H s) (hg:Gl X x) (hm:X.mg x=some u) (h:Q u s)
  (hd:(x == ("__debug__" : Str))=false:=by decide):wpAny (model X.prog X.w) X.A (eval (.Name x pos) X.env) Q E s :=
 Calls.Name_function_global I.ok.kind hg (Calls.loadGlobal_global (by rw[I.ok.glob];exact I.mod.glob.keeps I.bk) hm h) hd
theorem ld_blt {E:Value→Shared→Prop}{pins:List (Addr×Obj)}{s:Shared}{σ:St}{H:Hp}{x:Str}{u:Value}{pos:Pos}{Q:Value→Shared→Prop}(I:Inv X pins σ H s) (hg:Gl X x) (hm:X.mg x=none) (hv:bootBuiltins x=some u) (h:Q u s)
  (hn:x ≠ "__name__" := by decide) (hd:(x == ("__debug__" : Str))=false:=by decide):wpAny (model X.prog X.w) X.A (eval (.Name x pos) X.env) Q E s:=by
 obtain⟨mb,h1,h2⟩:=I.mod.blt
 exact Calls.Name_function_global I.ok.kind hg (Calls.loadGlobal_builtin (by rw[I.ok.glob];exact I.mod.glob.keeps I.bk) hm (by rw[I.ok.blt];exact h1.keeps I.bk) ((h2 x hn).trans hv) h) hd
theorem vo {x:Str}{v:V}{u:Value}{pos:Pos}(hg:Gl X x) (hm:X.mg x=some u) (r:RelV v u) (hd:(x == ("__debug__" : Str))=false:=by decide):PE X (.Name x pos) (tC v) :=
 fun _ _ _ H _ I h=>ld_glob I hg hm ⟨v,H,I,r,h⟩ hd
theorem Wt {x:Str}{v:V}{u:Value}{pos:Pos}(hg:Gl X x) (hm:X.mg x=none) (hv:bootBuiltins x=some u) (r:RelV v u) (hn:x ≠ "__name__" := by decide) (hd:(x == ("__debug__" : Str))=false:=by decide):PE X (.Name x pos) (tC v) :=
 fun _ _ _ H _ I h=>ld_blt I hg hm hv ⟨v,H,I,r,h⟩ hn hd
variable {a b:Expr}{ta tb:TE}{pos:Pos}
def PC (X:Cx) (op:CmpOp) (a b:Expr) (t:TE):Prop :=
 ∀ (pins:List (Addr×Obj)) (s:Shared) (σ:St) (H:Hp) (Q:VK),Inv X pins σ H s→t σ H Q →
  wpAny (model X.prog X.w) X.A (eval a X.env) (fun v s₁=>wpAny (model X.prog X.w) X.A (eval b X.env) (fun u s₂=>wpAny (model X.prog X.w) X.A (compareOp op v u) (EP X pins σ Q) X.xe s₂) X.xe s₁) X.xe s
def tB (t:TE):TT:=fun σ H Q=>t σ H fun x H1=>∃ c,x=.bl c∧Q c H1
theorem VE {op:CmpOp}{t:TE}(h:PC X op a b t) (h1:behindInMarks op b=false:=by first | exact nobehind _ (by decide) (by decide) | rfl):PE X (.Compare a [op] [b] pos) t:=fun pins s σ H Q I hw=>wpAny_Compare1 (h pins s σ H Q I hw) h1
theorem XB {op:CmpOp}{t:TE}(h:PC X op a b t) (h1:behindInMarks op b=false:=by first | exact nobehind _ (by decide) (by decide) | rfl):PT X (.Compare a [op] [b] pos) (tB t):=by
 intro pins s σ H Q I hw
 refine wpAny_isTrue_Compare1 (thn (h pins s σ H _ I hw) fun v s1 h1=>thn h1 fun u s2 h2=>thn h2 fun c s3 hq0=>?_) h1
 obtain⟨x,H1,I1,r1,q1⟩:=hq0
 obtain⟨d,rfl,q⟩:=q1
 cases r1
 exact wpAny_truthy_bool ⟨H1,I1,q⟩
theorem yQ {e:Expr}{t:TE}(h:PE X e t) (he:∀ whole,isTrue e X.env whole=(do let v ← whole;standAt e.pos;holding [v] (truthy v)):=by intro _;rfl):PT X e (tB t):=by
 intro pins s σ H Q I hw
 refine isTrue_plain (thn (h pins s σ H _ I hw) fun v s1 hq0=>?_) (he _)
 obtain⟨x,H1,I1,r1,q1⟩:=hq0
 obtain⟨d,rfl,q⟩:=q1
 cases r1
 exact wpAny_truthy_bool ⟨H1,I1,q⟩
variable {tA tB':TT}{rest:List Expr}
def zdY (t u:TT):TT:=fun σ H Q=>t σ H fun c H1=>if c=true then u σ H1 Q else Q false H1
def tOr (t u:TT):TT:=fun σ H Q=>t σ H fun c H1=>if c=true then Q true H1 else u σ H1 Q
def zdS (t:TT):TT:=fun σ H Q=>t σ H fun c H1=>Q (!c) H1
theorem We (ha:PT X a tA):PW X (.BoolOp .And [a] pos) tA:=by
 intro wh pins s σ H Q I h
 refine isTrue_and (thn (ha pins s σ H Q I h) fun c s1 e=>?_)
 cases c with
 |true=>exact isTrue_and_nil e
 |false=>exact e
theorem xZ (ha:PT X a tA):PW X (.BoolOp .Or [a] pos) tA:=by
 intro wh pins s σ H Q I h
 refine isTrue_or (thn (ha pins s σ H Q I h) fun c s1 e=>?_)
 cases c with
 |false=>exact isTrue_or_nil e
 |true=>exact e
theorem Vw (ha:PT X a tA) (hb:PW X (.BoolOp .And (b::rest) pos) tB'):PW X (.BoolOp .And (a::b::rest) pos) (zdY tA tB'):=by
 intro wh pins s σ H Q I h
 refine isTrue_and (thn (ha pins s σ H _ I h) fun c s1 hq0=>?_)
 obtain⟨H1,I1,q1⟩:=hq0
 cases c with
 |true=>exact hb wh pins s1 σ H1 Q I1 q1
 |false=>exact⟨H1,I1,q1⟩
theorem wM (ha:PT X a tA) (hb:PW X (.BoolOp .Or (b::rest) pos) tB'):PW X (.BoolOp .Or (a::b::rest) pos) (tOr tA tB'):=by
 intro wh pins s σ H Q I h
 refine isTrue_or (thn (ha pins s σ H _ I h) fun c s1 hq0=>?_)
 obtain⟨H1,I1,q1⟩:=hq0
 cases c with
 |true=>exact⟨H1,I1,q1⟩
 |false=>exact hb wh pins s1 σ H1 Q I1 q1
theorem yR (ha:PT X a tA):PT X (.UnaryOp .Not a pos) (zdS tA):=by
 intro pins s σ H Q I h
 exact isTrue_not (ha pins s σ H (fun c H1=>Q (!c) H1) I h)
def tAndV (ta tb:TE):TE:=fun σ H Q=>ta σ H fun x H1=>∃ c,x=.bl c∧if c=true then tb σ H1 Q else Q (.bl false) H1
def Uj (ta tb:TE):TE:=fun σ H Q=>ta σ H fun x H1=>∃ c,x=.bl c∧if c=true then Q (.bl true) H1 else tb σ H1 Q
def Vd (ta:TE):TE:=fun σ H Q=>ta σ H fun x H1=>∃ c,x=.bl c∧Q (.bl (!c)) H1
theorem ZF {op}{t:TE}(h:PE X a t):PE X (.BoolOp op [a] pos) t:=fun pins s σ H Q I hw=>BoolOp_one (h pins s σ H Q I hw)
theorem vY (ha:PE X a ta) (hb:PE X (.BoolOp .And (b::rest) pos) tb):PE X (.BoolOp .And (a::b::rest) pos) (tAndV ta tb):=by
 intro pins s σ H Q I h
 refine BoolOp_and (thn (ha pins s σ H _ I h) fun v s1 hq0=>?_)
 obtain⟨x,H1,I1,r1,q1⟩:=hq0
 obtain⟨c,rfl,q1⟩:=q1
 cases r1
 refine wpAny_truthy_bool ?_
 cases c with
 |true=>exact hb pins s1 σ H1 Q I1 q1
 |false=>exact⟨.bl false,H1,I1,rfl,q1⟩
theorem zbg (ha:PE X a ta) (hb:PE X (.BoolOp .Or (b::rest) pos) tb):PE X (.BoolOp .Or (a::b::rest) pos) (Uj ta tb):=by
 intro pins s σ H Q I h
 refine BoolOp_or (thn (ha pins s σ H _ I h) fun v s1 hq0=>?_)
 obtain⟨x,H1,I1,r1,q1⟩:=hq0
 obtain⟨c,rfl,q1⟩:=q1
 cases r1
 refine wpAny_truthy_bool ?_
 cases c with
 |false=>exact hb pins s1 σ H1 Q I1 q1
 |true=>exact⟨.bl true,H1,I1,rfl,q1⟩
theorem XD (ha:PE X a ta):PE X (.UnaryOp .Not a pos) (Vd ta):=by
 intro pins s σ H Q I h
 refine UnaryOp_ (thn (ha pins s σ H _ I h) fun v s1 hq0=>?_)
 obtain⟨x,H1,I1,r1,q1⟩:=hq0
 obtain⟨c,rfl,q1⟩:=q1
 cases r1
 exact not_of (wpAny_truthy_bool ⟨.bl (!c),H1,I1,rfl,q1⟩)
end
def SqL (K:PySem.W.Frag) (H:Hp) (a:Addr) (xs:List V):Prop :=
 Rd H a (.lst xs) ∨
  ∃ (o:Obj) (its:Array Value) (n:Nat),K.lookup a=some o∧o.cls=.type "list" ∧ o.dict=none∧o.data=.seq its n∧its.size≤sizeLine∧Vals xs its.toList
def SqT (K:PySem.W.Frag) (H:Hp) (a:Addr) (xs:List V):Prop :=
 Rd H a (.tup xs) ∨
  ∃ (o:Obj) (its:Array Value) (n:Nat),K.lookup a=some o∧o.cls=.type "tuple" ∧ o.data=.seq its n∧its.size≤sizeLine∧Vals xs its.toList
def zh6:Value→Option V
 |.none=>some .non
 |.bool b=>some (.bl b)
 |.int i _=>some (.int i)
 |.str x _=>some (.str x)
 |.bytes b _=>some (.byt b)
 |.float b _=>some (.flt b)
 |.ref a=>some (.ref a)
 |.type n=>some (.ty n)
 |_=>none
theorem RelV.abs {x:V}{u:Value}(r:RelV x u):zh6 u=some x:=by
 cases x with
 |non=>cases r;rfl
 |bl _=>cases r;rfl
 |int _=>obtain⟨t,rfl⟩:=r;rfl
 |str _=>obtain⟨t,rfl⟩:=r;rfl
 |byt _=>obtain⟨t,rfl⟩:=r;rfl
 |flt _=>obtain⟨t,rfl⟩:=r;rfl
 |ref _=>cases r;rfl
 |ty _=>cases r;rfl
theorem RelV.inj {x y:V}{u:Value}(r:RelV x u) (q:RelV y u):x=y:=Option.some.inj (r.abs.symm.trans q.abs)
theorem Vals.inj:∀ {xs ys:List V}{us:List Value},Vals xs us→Vals ys us→xs=ys
 |_,_,_,.nil,.nil=>rfl
 |_,_,_,.cons r t,.cons r' t'=>by rw[r.inj r',Vals.inj t t']
section
variable {X:Cx}{pins:List (Addr×Obj)}{σ:St}{H:Hp}{s:Shared}{a:Addr}{xs ys:List V}
theorem SqL.of {K:PySem.W.Frag}(h:H a=some (.lst xs)):SqL K H a xs:=.inl (.inl h)
theorem SqT.of {K:PySem.W.Frag}(h:H a=some (.tup xs)):SqT K H a xs:=.inl (.inl h)
theorem Inv.list (I:Inv X pins σ H s) (h:SqL X.K H a xs):∃ its:List Value,Vals xs its∧PlainL s.heap a its.toArray∧xs.length≤sizeLine:=by
 rcases h with h | ⟨o,its,n,hk,hc,hd,hs,hz,r⟩
 ·obtain⟨z,its,n,r,e⟩:=h.ok I.hok
  exact⟨its,r,⟨_,n,e,rfl,rfl,rfl⟩,z⟩
 ·refine⟨its.toList,r,⟨o,n,I.kIn a o hk,hc,hd,by simpa using hs⟩,?_⟩
  have e:=r.length
  simp only[Array.length_toList] at e
  omega
theorem Inv.tuple (I:Inv X pins σ H s) (h:SqT X.K H a xs):∃ its:List Value,Vals xs its∧IsTup s.heap a its.toArray∧xs.length≤sizeLine:=by
 rcases h with h | ⟨o,its,n,hk,hc,hs,hz,r⟩
 ·obtain⟨z,its,r,p⟩:=h.ok I.hok
  exact⟨its,r,p,z⟩
 ·refine⟨its.toList,r,⟨o,I.kIn a o hk,hc,n,by simpa using hs⟩,?_⟩
  have e:=r.length
  simp only[Array.length_toList] at e
  omega
theorem Inv.list_inj (I:Inv X pins σ H s) (h:SqL X.K H a xs) (h':SqL X.K H a ys):xs=ys:=by
 obtain⟨its,r,⟨o,n,e,_,_,d⟩,_⟩:=I.list h
 obtain⟨its',r',⟨o',n',e',_,_,d'⟩,_⟩:=I.list h'
 rw[e] at e';cases e'
 rw[d] at d'
 injection d' with d1 _
 have:its=its':=by simpa using congrArg Array.toList d1
 subst this
 exact r.inj r'
theorem Inv.tuple_inj (I:Inv X pins σ H s) (h:SqT X.K H a xs) (h':SqT X.K H a ys):xs=ys:=by
 obtain⟨its,r,⟨o,e,_,n,d⟩,_⟩:=I.tuple h
 obtain⟨its',r',⟨o',e',_,n',d'⟩,_⟩:=I.tuple h'
 rw[e] at e';cases e'
 rw[d] at d'
 injection d' with d1 _
 have:its=its':=by simpa using congrArg Array.toList d1
 subst this
 exact r.inj r'
end
abbrev Cx.wish (X:Cx) (E:Value→Shared→Prop):Cx:={ X with xe:=E }
abbrev Cx.nox (X:Cx):Cx:=X.wish fun _ _=>False
theorem Cx.Ok.wish {X:Cx}(ok:X.Ok) (E:Value→Shared→Prop):(X.wish E).Ok :=
 ⟨ok.mod,ok.kind,ok.glob,ok.blt,ok.above,ok.inj,ok.has,ok.cab,ok.hd,ok.frames,ok.stk,ok.exf,ok.bs,ok.bsz,ok.noex,ok.exfs,ok.funs,ok.frf⟩
theorem Cx.Ok.unwish {X:Cx}{E:Value→Shared→Prop}(ok:(X.wish E).Ok):X.Ok :=
 ⟨ok.mod,ok.kind,ok.glob,ok.blt,ok.above,ok.inj,ok.has,ok.cab,ok.hd,ok.frames,ok.stk,ok.exf,ok.bs,ok.bsz,ok.noex,ok.exfs,ok.funs,ok.frf⟩
section
variable {X:Cx}{pins:List (Addr×Obj)}{σ:St}{H:Hp}{s:Shared}{E:Value→Shared→Prop}
theorem Inv.wish (I:Inv X pins σ H s) (E:Value→Shared→Prop):Inv (X.wish E) pins σ H s:=⟨I.ok.wish E,I.os,I.bare,I.base,I.loc,I.cell,I.free,I.freeC,I.pin,I.hok,I.len⟩
theorem Inv.unwish (I:Inv (X.wish E) pins σ H s):Inv X pins σ H s:=⟨I.ok.unwish,I.os,I.bare,I.base,I.loc,I.cell,I.free,I.freeC,I.pin,I.hok,I.len⟩
theorem SP.unwish {D:Ends}{f:Flow}{s':Shared}(h:SP (X.wish E) pins D f s'):SP X pins D f s':=by
 cases f with
 |next=>obtain⟨σ',H',I,q⟩:=h;exact⟨σ',H',I.unwish,q⟩
 |brk=>obtain⟨σ',H',I,q⟩:=h;exact⟨σ',H',I.unwish,q⟩
 |cont=>obtain⟨σ',H',I,q⟩:=h;exact⟨σ',H',I.unwish,q⟩
 |ret u=>obtain⟨v,σ',H',I,r,q⟩:=h;exact⟨v,σ',H',I.unwish,r,q⟩
theorem PSs.nox {st:List Stmt}{t:TS}(h:PSs X.nox st t):PSs X st t:=fun pins s σ H D I hw =>
 wpAny_mono (h pins s σ H D (I.wish _) hw) (fun _ _ q=>q.unwish) fun _ _ z=>False.elim z
end
section
variable {X:Cx}{st:Stmt}{rest:List Stmt}{t u:TS}{e:Expr}{te:TE}{pos:Pos}
def Ve:TS:=fun D σ H=>D.nx σ H
def zdQ (t u:TS):TS:=fun D σ H=>t { D with nx:=u D } σ H
theorem yu:PSs X [] Ve:=fun _ _ σ H _ I h=>wpAny_execs_nil ⟨σ,H,I,h⟩
theorem zG (h1:PS X st t) (h2:PSs X rest u):PSs X (st::rest) (zdQ t u):=by
 intro pins s σ H D I h
 refine wpAny_execs_cons (thn (h1 pins s σ H { D with nx:=u D } I h) fun f s1 q=>?_)
 cases f with
 |next =>
  obtain⟨σ',H',I',q⟩:=q
  exact h2 pins s1 σ' H' D I' q
 |ret v=>exact q
 |brk=>exact q
 |cont=>exact q
theorem zM (h1:PS X st t):PSs X [st] t:=by
 intro pins s σ H D I h
 refine wpAny_execs_cons (thn (h1 pins s σ H D I h) fun f s1 q=>?_)
 cases f with
 |next=>exact wpAny_execs_nil q
 |ret v=>exact q
 |brk=>exact q
 |cont=>exact q
theorem Inv.quiet {pins:List (Addr×Obj)}{σ:St}{H:Hp}{s:Shared}(I:Inv X pins σ H s):interactive X.env=false:=by simp[interactive,I.ok.kind]
def Vh (te:TE):TS:=fun D σ H=>te σ H fun _ H1=>D.nx σ H1
theorem vk (he:PE X e te) (hs:swapsWith e none pos.line X.env=pure false:=by rfl):PS X (.Expr e pos) (Vh te):=by
 intro pins s σ H D I h
 exact wpAny_Expr_any (thn (he pins s σ H _ I h) fun v s1 ⟨x,H1,I1,r1,q1⟩=>⟨σ,H1,I1,q1⟩) I.quiet hs
def zdR (te:TE):TS:=fun D σ H=>te σ H D.rt
theorem yB (he:PE X e te):PS X (.Return (some e) pos) (zdR te):=by
 intro pins s σ H D I h
 exact wpAny_Return_some (thn (he pins s σ H _ I h) fun v s1 ⟨x,H1,I1,r1,q1⟩=>⟨x,σ,H1,I1,r1,q1⟩)
def zdU (c:TT) (t u:TS):TS:=fun D σ H=>c σ H fun b H1=>if b=true then t D σ H1 else u D σ H1
theorem wo {c:Expr}{a b:List Stmt}{tc:TT}(hc:PT X c tc) (ha:PSs X a t) (hb:PSs X b u):PS X (.If c a b pos) (zdU tc t u):=by
 intro pins s σ H D I h
 refine wpAny_If (thn (hc pins s σ H _ I h) fun d s1 hq0=>?_)
 obtain⟨H1,I1,q1⟩:=hq0
 cases d with
 |true=>exact ha pins s1 σ H1 D I1 q1
 |false=>exact hb pins s1 σ H1 D I1 q1
def Vf:TS:=fun _ _ _=>False
theorem vU:PS X st Vf:=fun _ _ _ _ _ _ h=>h.elim
end
abbrev TG:=V→St→Hp→(St→Hp→Prop)→Prop
abbrev TGs:=List V→St→Hp→(St→Hp→Prop)→Prop
def PG (X:Cx) (target:Expr) (t:TG):Prop :=
 ∀ (pins:List (Addr×Obj)) (s:Shared) (σ:St) (H:Hp) (v:V) (u:Value) (Q:St→Hp→Prop),Inv X pins σ H s→RelV v u→t v σ H Q →
  wpAny (model X.prog X.w) X.A (assign target X.env u) (fun _ s'=>∃ σ' H',Inv X pins σ' H' s'∧Q σ' H') X.xe s
def PGs (X:Cx) (ts:List Expr) (t:TGs):Prop :=
 ∀ (pins:List (Addr×Obj)) (s:Shared) (σ:St) (H:Hp) (vs:List V) (us:List Value) (Q:St→Hp→Prop),Inv X pins σ H s→Vals vs us→t vs σ H Q →
  wpAny (model X.prog X.w) X.A (assignInOrder ((assignEach ts X.env).map (·.2)) us) (fun _ s'=>∃ σ' H',Inv X pins σ' H' s'∧Q σ' H') X.xe s
section
variable {X:Cx}{pos:Pos}
def vA (i:Nat):TG:=fun v σ H Q=>Q (σ.set i (some v)) H
theorem xp {i:Nat}{x:Str}(hN:X.N.Nodup) (hi:X.N[i]?=some x) (hx:Loc X.env.scope x) (hf:X.fn x=true∨X.env.scope.names.lookup x=some .local:=by first | exact .inl rfl | exact .inr rfl | assumption):PG X (.Name x pos) (vA i):=by
 intro pins s σ H v u Q I r h
 exact wpAny_assign_Name (store_ok I hN hi hx r (fun s' I'=>⟨_,H,I',h⟩) hf)
def gNil:TGs:=fun vs σ H Q=>vs=[]∧Q σ H
def Ub (t:TG) (u:TGs):TGs:=fun vs σ H Q=>∃ v r,vs=v::r∧t v σ H fun σ' H'=>u r σ' H' Q
theorem ZD:PGs X [] gNil:=by
 intro pins s σ H vs us Q I r h
 obtain⟨e,h⟩:=h
 subst e
 cases r
 exact assignInOrder_nil ⟨σ,H,I,h⟩
theorem wp {e:Expr}{es:List Expr}{t:TG}{u:TGs}(h1:PG X e t) (h2:PGs X es u)
  (hs:(assignEach (e::es) X.env).map (·.2)=assign e X.env::(assignEach es X.env).map (·.2):=by rfl):PGs X (e::es) (Ub t u):=by
 intro pins s σ H vs us Q I r h
 obtain⟨v,vr,e1,h⟩:=h
 subst e1
 cases r with
 |cons r rr =>
  rw[hs]
  refine assignInOrder_cons (thn (h1 pins s σ H _ _ _ I r h) fun _ s1 hq0=>?_)
  obtain⟨σ1,H1,I1,q1⟩:=hq0
  exact h2 pins s1 σ1 H1 _ _ Q I1 rr q1
def zg3 (K:PySem.W.Frag) (n:Nat) (t:TGs):TG:=fun v σ H Q=>∃ a xs,v=.ref a∧SqT K H a xs∧xs.length=n∧t xs σ H Q
theorem XC {es:List Expr}{k:Nat}{t:TGs}{n:Nat}(hc:X.calm=true) (h:PGs X es t)
  (hn:(assignEach es X.env).length=n:=by rfl) (hst:(assignEach es X.env).findIdx? (·.1)=none:=by rfl):PG X (.Tuple es k pos) (zg3 X.K n t):=by
 intro pins s σ H v u Q I r hw
 obtain⟨a,xs,e1,hq,hl,hw⟩:=hw
 subst e1
 cases r
 obtain⟨its,rv,ht,hz⟩:=I.tuple hq
 refine assign_Tuple_tuple (I.ok.hd hc) ht (by simp[hn,← hl,rv.length]) hst fun h' hx=>?_
 have I1:Inv X pins σ H { s with heap:=h' }:=I.kept (t':=s.toks) fun b o e=>hx b o (Nat.ne_of_lt (Heap.lt_size e)) e
 exact h pins _ σ H xs _ Q I1 (by simpa using rv) hw
def WM (te:TE) (g:TG):TS:=fun D σ H=>te σ H fun x H1=>g x σ H1 D.nx
theorem Vx {tg e:Expr}{te:TE}{g:TG}(he:PE X e te) (hg:PG X tg g) (hs:swapsWithSole [tg] e pos.line X.env=pure false:=by rfl) (hw:swappedStores [tg] e X.env=pure none:=by rfl)
  (h1:(assignEach [tg] X.env).map (·.2)=[assign tg X.env]:=by rfl):PS X (.Assign [tg] e pos) (WM te g):=by
 intro pins s σ H D I h
 refine wpAny_Assign_stores (thn (he pins s σ H _ I h) fun v s1 hq0=>?_) hs hw
 obtain⟨x,H1,I1,r1,q1⟩:=hq0
 rw[h1]
 exact thn (hg pins s1 σ H1 x v _ I1 r1 q1) fun _ s2 q=>q
theorem wN {i:Nat}{x:Str}{e:Expr}{te:TE}{pos':Pos}(hN:X.N.Nodup) (hi:X.N[i]?=some x) (hx:Loc X.env.scope x) (he:PE X e te) (hs:swapsWith e (some (.Name x pos')) pos.line X.env=pure false:=by rfl) (hf:X.fn x=true∨X.env.scope.names.lookup x=some .local:=by first | exact .inl rfl | exact .inr rfl | assumption) :
  PS X (.Assign [.Name x pos'] e pos) (WM te (vA i)):=by
 intro pins s σ H D I h
 refine wpAny_Assign_Name (thn (he pins s σ H _ I h) fun v s1 hq0=>?_) hs
 obtain⟨y,H1,I1,r1,q1⟩:=hq0
 exact store_ok I1 hN hi hx r1 (fun s2 I2=>⟨_,H1,I2,q1⟩) hf
def Xv (c:TT) (tb:TS):TS:=fun D σ H=>∃ W:Nat→St→Hp→Prop,(∃ m,W m σ H)∧∀ m σ H,W m σ H →
 c σ H fun b H1=>if b=true then ∃ N:St→Hp→Prop,(∀ σ' H',N σ' H'→∃ m',m'<m∧W m' σ' H')∧tb { D with nx:=N,ct:=N,bk:=D.nx } σ H1 else D.nx σ H1
theorem YI {c:Expr}{body:List Stmt}{tc:TT}{tb:TS}(hp:PassesOwn (model X.prog X.w) X.A X.env X.xe) (hc:PT X c tc) (hb:PSs X body tb):PS X (.While c body [] pos) (Xv tc tb):=by
 intro pins s σ H D I h
 obtain⟨W,⟨m0,w0⟩,turn⟩:=h
 refine wpAny_While (codeAny_whileLoop (fun n s'=>∃ σ' H',Inv X pins σ' H' s'∧W n σ' H') ?_ m0 ⟨σ,H,I,w0⟩)
 rintro n s1 ⟨σ1,H1,I1,w1⟩
 refine wpAny_passesOwn hp (thn (hc pins s1 σ1 H1 _ I1 (turn n σ1 H1 w1)) fun b s2 hq0=>?_)
 obtain⟨H2,I2,q2⟩:=hq0
 cases b with
 |true =>
  obtain⟨N,hN,q2⟩:=q2
  rw[if_pos rfl]
  refine wpAny_passesOwn hp (thn (hb pins s2 σ1 H2 _ I2 q2) fun f s3 q3=>?_)
  cases f with
  |next =>
   obtain⟨σ3,H3,I3,n3⟩:=q3
   obtain⟨m',hm,w3⟩:=hN σ3 H3 n3
   exact⟨m',hm,σ3,H3,I3,w3⟩
  |cont =>
   obtain⟨σ3,H3,I3,n3⟩:=q3
   obtain⟨m',hm,w3⟩:=hN σ3 H3 n3
   exact⟨m',hm,σ3,H3,I3,w3⟩
  |brk=>exact q3
  |ret v=>exact q3
 |false =>
  rw[if_neg Bool.false_ne_true]
  exact wpAny_execs_nil ⟨σ1,H2,I2,q2⟩
end
structure It where
 go:Nat→Hp→Prop
 yld:Nat→Hp→V→Hp→Prop
 stop:Nat→Hp→Prop
def FpOk (X:Cx) (pins:List (Addr×Obj)) (H:Hp) (b:Addr):Prop :=
 H b=none∧b≠X.env.locals∧b∉X.fs∧(b∈X.ex∨X.s₀.heap.objs.size≤b)∧(∀ x c,X.env.cells.lookup x=some c→c≠b)∧∀ p∈X.pn++pins,p.1≠b
theorem Inv.fpOk {X:Cx}{pins:List (Addr×Obj)}{σ:St}{H H':Hp}{s:Shared}{b:Addr}(I:Inv X pins σ H s) (hb:s.heap.objs.size≤b) (hn:H' b=none):FpOk X pins H' b:=by
 refine⟨hn,Nat.ne_of_gt (Nat.lt_of_lt_of_le I.lt hb),I.nofs hb,.inr (Nat.le_trans I.sz hb),fun x c e z=>?_,fun p hp z=>?_⟩
 ·obtain⟨v,q⟩:=I.cell x c e
  exact absurd (Nat.lt_of_lt_of_le q.lt (by rw[z];exact hb)) (Nat.lt_irrefl _)
 ·exact absurd (Nat.lt_of_lt_of_le (Heap.lt_size (I.pin p hp).1) (by rw[z];exact hb)) (Nat.lt_irrefl _)
structure Turn (P:Program) (w:World) (K:PySem.W.Frag) (tg:Expr) (J:It) (fp:List Addr) (it:Addr) (tn:Nat→Heap→Prop):Prop where
 mem:it∈fp
 obj:∀ i h,tn i h→∀ b∈fp,∃ o,h.get? b=some o∧∀ v,o.data≠.cell v
 keep:∀ i h h',tn i h→(∀ b∈fp,∀ o,h.get? b=some o→h'.get? b=some o)→tn i h'
 item:∀ (X:Cx),X.prog=P→X.w=w→X.K=K→X.calm=true→∀ (i:Nat) (pins:List (Addr×Obj)) (s:Shared) (σ:St) (H:Hp) (E:Value→Shared→Prop),Inv X pins σ H s→(∀ b∈fp,FpOk X pins H b)→tn i s.heap→J.go i H →
  wpAny (model P w) X.A (pyNext (.ref it)) (fun r s1=>∃ u,r=some u ∧
   wpAny (model P w) X.A (letOwnedTupleGo tg (.ref it) u) (fun _ s2=>∃ x H',Inv X pins σ H' s2∧RelV x u∧J.yld i H x H'∧tn (i+1) s2.heap∧∀ b∈fp,H' b=none) E s1) E s
 done:∀ (X:Cx),X.prog=P→X.w=w→X.K=K→X.calm=true→∀ (i:Nat) (pins:List (Addr×Obj)) (s:Shared) (σ:St) (H:Hp) (E:Value→Shared→Prop),Inv X pins σ H s→(∀ b∈fp,FpOk X pins H b)→tn i s.heap→J.stop i H →
  wpAny (model P w) X.A (pyNext (.ref it)) (fun r s1=>r=none∧Inv X pins σ H s1) E s
 self:∀ (A:Around) (i:Nat) (s:Shared) (Q:Value→Shared→Prop) (E:Value→Shared→Prop),tn i s.heap→Q (.ref it) s→wpAny (model P w) A (pyIter (.ref it)) Q E s
abbrev TI:=St→Hp→(It→Hp→Prop)→Prop
def PIE (X:Cx) (pins:List (Addr×Obj)) (σ:St) (tg:Expr) (R:It→Hp→Prop) (itv:Value) (s2:Shared):Prop :=
 ∃ (it:Addr) (fp:List Addr) (tn:Nat→Heap→Prop) (J:It) (H':Hp),itv=.ref it∧Inv X pins σ H' s2∧Turn X.prog X.w X.K tg J fp it tn∧tn 0 s2.heap∧(∀ b∈fp,FpOk X pins H' b)∧R J H'
def PI (X:Cx) (tg iter:Expr) (wi:TI):Prop :=
 ∀ (pins:List (Addr×Obj)) (s:Shared) (σ:St) (H:Hp) (R:It→Hp→Prop),Inv X pins σ H s→wi σ H R →
  wpAny (model X.prog X.w) X.A (eval iter X.env) (fun v s1=>wpAny (model X.prog X.w) X.A (pyIter v) (PIE X pins σ tg R) X.xe s1) X.xe s
theorem Yb {M:Model}{A:Around}{E:Value→Shared→Prop}{s:Shared}{tg:Expr}{it:Addr}{u:Value}{o:Obj}{n:String}{vs:Array Value}{Q:Unit→Shared→Prop}(ho:s.heap.get? it=some o) (hc:o.cls=.type n) (hd:o.data=.fields vs)
  (hn:["enumerate", "zip", "dict_itemiterator", "dict_reverseitemiterator", "odict_iterator", "itertools.zip_longest", "itertools.pairwise"].contains n=false) (hQ:Q () s):wpAny M A (letOwnedTupleGo tg (.ref it) u) Q E s:=by
 unfold letOwnedTupleGo
 cases tg<;>first
  |exact wpAny_pure hQ
  |(cases u<;>first
    |exact wpAny_pure hQ
    |(refine wpAny_bind (wpAny_load ho ?_)
      rw[hc,hd]
      show wpAny M A (if (["enumerate", "zip", "dict_itemiterator", "dict_reverseitemiterator", "odict_iterator", "itertools.zip_longest", "itertools.pairwise"].contains n&&vs[0]? == some (rawInt _))=true then _ else _) Q E s
      rw[if_neg (by intro h;rw[hn,Bool.false_and] at h;cases h)]
      exact wpAny_pure hQ))
def Itl (K:PySem.W.Frag) (a:Addr):It :=
 ⟨fun i H=>∃ xs x,SqL K H a xs∧xs[i]?=some x,fun i H x H'=>H'=H∧∀ xs,SqL K H a xs→xs[i]?=some x,fun i H=>∃ xs,SqL K H a xs∧xs.length≤i⟩
def Itt (K:PySem.W.Frag) (a:Addr):It :=
 ⟨fun i H=>∃ xs x,SqT K H a xs∧xs[i]?=some x,fun i H x H'=>H'=H∧∀ xs,SqT K H a xs→xs[i]?=some x,fun i H=>∃ xs,SqT K H a xs∧xs.length≤i⟩
def Itr (lo:Int) (n:Nat):It:=⟨fun i _=>i<n,fun i H x H'=>H'=H∧x=.int (lo+i),fun i _=>n≤i⟩
theorem uJ {P:Program}{w:World}{K:PySem.W.Frag}{tg:Expr} (a it:Addr):Turn P w K tg (Itl K a) [it] it (fun i h=>h.IsListIter it a i) where
 mem:=by simp
 obj:=fun i h st b hb=>by
  have e:b=it:=by simpa using hb
  subst e
  obtain⟨o,e,c,d⟩:=st
  exact⟨o,e,fun v z=>by rw[d] at z;cases z⟩
 keep:=fun i h h' st k=>st.at fun o e=>k it (by simp) o e
 item:=by
  intro X hP hw hK hc i pins s σ H E I hf st hg
  subst hP hw hK
  obtain⟨xs,x,hq,hx⟩:=hg
  obtain⟨its,rv,p,hz⟩:=I.list hq
  obtain⟨u,hu,ru⟩:=rv.get hx
  obtain⟨f0,f1,f2,f3,f4,f5⟩:=hf it (by simp)
  refine wpAny_pyNext_list_item st p.isList (x:=u) (by simpa using hu) fun h' st' sb=>?_
  have I1:Inv X pins σ H { s with heap:=h' }:=I.turned (t':=s.toks) (fun b o hb e=>(sb.2 b hb).trans e) f0 f1 f3 f4 f5
  obtain⟨o,e,c,d⟩:=id st'
  exact⟨u,rfl,Yb (s:={ s with heap:=h' }) e c d (by decide) ⟨x,H,I1,ru,⟨rfl,fun ys hy=>by rw[I.list_inj hy hq];exact hx⟩,st',fun b hb=>(hf b hb).1⟩⟩
 done:=by
  intro X hP hw hK hc i pins s σ H E I hf st hg
  subst hP hw hK
  obtain⟨xs,hq,hx⟩:=hg
  obtain⟨its,rv,p,hz⟩:=I.list hq
  obtain⟨f0,f1,f2,f3,f4,f5⟩:=hf it (by simp)
  have hl:=rv.length
  exact wpAny_pyNext_list_end (I.ok.hd hc) st p.isList (by simp;omega) fun h' eb=>⟨rfl,I.turned (t':=s.toks) (fun b o hb e=>eb b o hb e) f0 f1 f3 f4 f5⟩
 self:=fun _ _ _ _ _ st h=>wpAny_pyIter_listiter st h
theorem uf {P:Program}{w:World}{K:PySem.W.Frag}{tg:Expr} (a it:Addr):Turn P w K tg (Itt K a) [it] it (fun i h=>h.IsTupleIter it a i) where
 mem:=by simp
 obj:=fun i h st b hb=>by
  have e:b=it:=by simpa using hb
  subst e
  obtain⟨o,e,c,d⟩:=st
  exact⟨o,e,fun v z=>by rw[d] at z;cases z⟩
 keep:=fun i h h' st k=>st.at fun o e=>k it (by simp) o e
 item:=by
  intro X hP hw hK hc i pins s σ H E I hf st hg
  subst hP hw hK
  obtain⟨xs,x,hq,hx⟩:=hg
  obtain⟨its,rv,p,hz⟩:=I.tuple hq
  obtain⟨u,hu,ru⟩:=rv.get hx
  obtain⟨f0,f1,f2,f3,f4,f5⟩:=hf it (by simp)
  refine wpAny_pyNext_tuple_item st (show s.heap.IsTuple a its.toArray from p) (x:=u) (by simpa using hu) fun h' st' sb=>?_
  have I1:Inv X pins σ H { s with heap:=h' }:=I.turned (t':=s.toks) (fun b o hb e=>(sb.2 b hb).trans e) f0 f1 f3 f4 f5
  obtain⟨o,e,c,d⟩:=id st'
  exact⟨u,rfl,Yb (s:={ s with heap:=h' }) e c d (by decide) ⟨x,H,I1,ru,⟨rfl,fun ys hy=>by rw[I.tuple_inj hy hq];exact hx⟩,st',fun b hb=>(hf b hb).1⟩⟩
 done:=by
  intro X hP hw hK hc i pins s σ H E I hf st hg
  subst hP hw hK
  obtain⟨xs,hq,hx⟩:=hg
  obtain⟨its,rv,p,hz⟩:=I.tuple hq
  obtain⟨f0,f1,f2,f3,f4,f5⟩:=hf it (by simp)
  have hl:=rv.length
  exact wpAny_pyNext_tuple_end (I.ok.hd hc) st (show s.heap.IsTuple a its.toArray from p) (by simp;omega) fun h' eb=>⟨rfl,I.turned (t':=s.toks) (fun b o hb e=>eb b o hb e) f0 f1 f3 f4 f5⟩
 self:=fun _ _ _ _ _ st h=>wpAny_pyIter_tupleiter st h
theorem ug {P:Program}{w:World}{K:PySem.W.Frag}{tg:Expr}(it:Addr) (lo:Int) (n:Nat):Turn P w K tg (Itr lo n) [it] it (fun i h=>IsRangeIter h it (lo+(i:Nat)*1) ((n:Int)-(i:Nat)) 1) where
 mem:=by simp
 obj:=fun i h st b hb=>by
  have e:b=it:=by simpa using hb
  subst e
  exact⟨_,st,fun v z=>by
   have z':Data.fields _=Data.cell v:=z
   cases z'⟩
 keep:=fun i h h' st k=>k it (by simp) _ st
 item:=by
  intro X hP hw hK hc i pins s σ H E I hf st hg
  subst hP hw hK
  obtain⟨f0,f1,f2,f3,f4,f5⟩:=hf it (by simp)
  have W:=Walks.range (prog:=X.prog) (w:=X.w) (I.ok.hd hc) it lo 1 n
  refine W.item i s _ _ hg st fun v h' tk hv st' kk=>?_
  obtain⟨t,rfl⟩:=hv
  have I1:Inv X pins σ H { s with heap:=h',toks:=tk }:=I.turned (fun b o hb e=>kk b o (by simpa using hb) e) f0 f1 f3 f4 f5
  refine⟨_,rfl,Yb (s:={ s with heap:=h',toks:=tk }) (n := "range_iterator") st' rfl rfl (by decide) ⟨.int (lo+i),H,I1,⟨t,?_⟩,⟨rfl,rfl⟩,st',fun b hb=>(hf b hb).1⟩⟩
  rw[Int.mul_one]
 done:=by
  intro X hP hw hK hc i pins s σ H E I hf st hg
  subst hP hw hK
  obtain⟨f0,f1,f2,f3,f4,f5⟩:=hf it (by simp)
  exact wpAny_pyNext_range_end (I.ok.hd hc) st (by have:n≤i:=hg;omega) fun h' eb=>⟨rfl,I.turned (t':=s.toks) (fun b o hb e=>eb b o hb e) f0 f1 f3 f4 f5⟩
 self:=fun _ _ _ _ _ st h=>wpAny_pyIter_rangeiter st h
section
variable {X:Cx}{tg:Expr}
def Ua (K:PySem.W.Frag) (tl:TE):TI:=fun σ H R=>tl σ H fun x H1=>∃ a,x=.ref a∧(∃ xs,SqL K H1 a xs)∧R (Itl K a) H1
def zg1 (K:PySem.W.Frag) (tl:TE):TI:=fun σ H R=>tl σ H fun x H1=>∃ a,x=.ref a∧(∃ xs,SqT K H1 a xs)∧R (Itt K a) H1
theorem xH {l:Expr}{tl:TE}(hl:PE X l tl):PI X tg l (Ua X.K tl):=by
 intro pins s σ H R I h
 refine thn (hl pins s σ H _ I h) fun v s1 hq0=>?_
 obtain⟨x,H1,I1,r1,q1⟩:=hq0
 obtain⟨a,e,⟨xs,hq⟩,q⟩:=q1
 subst e
 cases r1
 obtain⟨its,rv,p,hz⟩:=I1.list hq
 refine wpAny_pyIter_list p.isList ?_
 refine⟨s1.heap.objs.size,[s1.heap.objs.size],_,_,H1,rfl,I1.kept (t':=s1.toks) fun b o e=>Heap.get?_push_of_some _ e,uJ a _,⟨_,Heap.get?_push_size _ rfl,rfl,rfl⟩,fun b hb=>?_,q⟩
 have e:b=s1.heap.objs.size:=by simpa using hb
 subst e
 exact I1.fpOk (Nat.le_refl _) (I1.hok.fresh (Nat.le_refl _))
theorem Vy {l:Expr}{tl:TE}(hl:PE X l tl):PI X tg l (zg1 X.K tl):=by
 intro pins s σ H R I h
 refine thn (hl pins s σ H _ I h) fun v s1 hq0=>?_
 obtain⟨x,H1,I1,r1,q1⟩:=hq0
 obtain⟨a,e,⟨xs,hq⟩,q⟩:=q1
 subst e
 cases r1
 obtain⟨its,rv,p,hz⟩:=I1.tuple hq
 refine wpAny_pyIter_tuple (show s1.heap.IsTuple a its.toArray from p) ?_
 refine⟨s1.heap.objs.size,[s1.heap.objs.size],_,_,H1,rfl,I1.kept (t':=s1.toks) fun b o e=>Heap.get?_push_of_some _ e,uf a _,⟨_,Heap.get?_push_size _ rfl,rfl,rfl⟩,fun b hb=>?_,q⟩
 have e:b=s1.heap.objs.size:=by simpa using hb
 subst e
 exact I1.fpOk (Nat.le_refl _) (I1.hok.fresh (Nat.le_refl _))
theorem YH {pins:List (Addr×Obj)}{σ:St}{H:Hp}{s:Shared}{R:It→Hp→Prop}{E:Value→Shared→Prop}{lo hi:Int}{t u v:Tok}{tk:Nat}(I:Inv X pins σ H s) (h1 : -(2 ^ 62)≤lo) (h2:lo<2 ^ 62) (h3 : -(2 ^ 62)≤hi) (h4:hi<2 ^ 62)
  (q:R (Itr lo (hi-lo).toNat) H):wpAny (model X.prog X.w) X.A (pyIter (.ref s.heap.objs.size)) (PIE X pins σ tg R) E { s with heap:=s.heap.push { cls:=.type "range",data:=.fields #[.int lo t,.int hi u,.int 1 v] },toks:=tk }:=by
 refine wpAny_pyIter_range (IsRange.new ..) (small_one h1 h2 h3 h4) ?_
 have I1:Inv X pins σ H { s with heap:=s.heap.push { cls:=.type "range",data:=.fields #[.int lo t,.int hi u,.int 1 v] },toks:=tk }:=I.kept fun b o e=>Heap.get?_push_of_some _ e
 refine⟨(s.heap.push { cls:=.type "range",data:=.fields #[.int lo t,.int hi u,.int 1 v] }).objs.size,[(s.heap.push { cls:=.type "range",data:=.fields #[.int lo t,.int hi u,.int 1 v] }).objs.size],_,_,H,rfl,
  I1.kept (t':=tk) fun b o e=>Heap.get?_push_of_some _ e,ug _ lo (hi-lo).toNat,?_,fun b hb=>?_,q⟩
 ·have e1:lo+((0:Nat):Int)*1=lo:=by simp
  have e2:(((hi-lo).toNat:Nat):Int)-((0:Nat):Int)=Builtin.Range.rangeSize lo hi 1:=by rw[rangeSize_one];split<;>omega
  show IsRangeIter _ _ (lo+((0:Nat):Int)*1) ((((hi-lo).toNat:Nat):Int)-((0:Nat):Int)) 1
  rw[e1,e2]
  exact Heap.get?_push_size _ rfl
 ·have e:b=(s.heap.push { cls:=.type "range",data:=.fields #[.int lo t,.int hi u,.int 1 v] }).objs.size:=by simpa using hb
  subst e
  exact I1.fpOk (Nat.le_refl _) (I1.hok.fresh (Nat.le_refl _))
def V9 (ta:TA):TI:=fun σ H R=>ta σ H fun vs H1=>∃ j:Int,vs=[.int j]∧-(2 ^ 62)≤j∧j<2 ^ 62∧R (Itr 0 j.toNat) H1
theorem ZA {a:Expr}{ta:TA}{p pos:Pos}(hg:Gl X "range") (hm:X.mg "range" = none) (ha:PA X [a] ta) (hs:starEach [a] X.env=[(false,eval a X.env)]:=by rfl):PI X tg (.Call (.Name "range" p) [a] [] pos) (V9 ta):=by
 intro pins s σ H R I h
 refine Call_ (ld_blt I hg hm boot_range (PyProof.Rows.callWith_type1 (thn (ha pos pins s σ H _ I h) fun us s1 hq0=>?_) hs rfl))
 obtain⟨vs,H1,I1,r1,q1⟩:=hq0
 obtain⟨j,e,q1,q2,q⟩:=q1
 subst e
 cases r1 with
 |cons r rr =>
  cases rr
  obtain⟨t,rfl⟩:=r
  exact call_range_1 (YH I1 (by omega) (by omega) q1 q2 (by simpa using q))
def zdV (wi:TI) (g:TG) (tb:TS):TS:=fun D σ H=>wi σ H fun J H1=>∃ W:Nat→Nat→St→Hp→Prop,(∃ m,W 0 m σ H1)∧∀ i m σ H,W i m σ H →
 (J.stop i H∧D.nx σ H)∨(J.go i H∧∃ N:St→Hp→Prop,(∀ σ' H',N σ' H'→∃ m',m'<m∧W (i+1) m' σ' H')∧∀ x H',J.yld i H x H'→g x σ H' fun σ2 H2=>tb { D with nx:=N,ct:=N,bk:=D.nx } σ2 H2)
def wP (fp:List Addr) (h:Heap):List (Addr×Obj):=fp.filterMap fun b=>(h.get? b).map fun o=>(b,o)
theorem yO {fp:List Addr}{h:Heap}{b:Addr}{o:Obj}(hb:b∈fp) (e:h.get? b=some o):(b,o)∈wP fp h:=List.mem_filterMap.mpr ⟨b,hb,by rw[e];rfl⟩
theorem ZP {fp:List Addr}{h:Heap}{p:Addr×Obj}(hp:p∈wP fp h):p.1∈fp∧h.get? p.1=some p.2:=by
 obtain⟨b,hb,e⟩:=List.mem_filterMap.mp hp
 cases q:h.get? b with
 |none=>rw[q] at e;cases e
 |some o =>
  rw[q] at e
  have e':(b,o)=p:=Option.some.inj e
  subst e'
  exact⟨hb,q⟩
theorem Inv.pinned {pins:List (Addr×Obj)}{σ:St}{H:Hp}{s:Shared}{fp:List Addr}(I:Inv X pins σ H s) (hf:∀ b∈fp,FpOk X pins H b) (ho:∀ b∈fp,∃ o,s.heap.get? b=some o∧∀ v,o.data≠.cell v):Inv X (pins++wP fp s.heap) σ H s :=
 I.pins_of fun p hp=>(List.mem_append.mp hp).elim (fun z=>I.pin p (List.mem_append_right _ z)) fun z=>by
  obtain⟨hb,e⟩:=ZP z
  obtain⟨f0,f1,f2,_⟩:=hf p.1 hb
  obtain⟨o,e',d⟩:=ho p.1 hb
  rw[e] at e';cases e'
  exact⟨e,f0,f1,f2,d⟩
theorem Inv.unpinned {pins pl:List (Addr×Obj)}{σ:St}{H:Hp}{s:Shared}(I:Inv X (pins++pl) σ H s):Inv X pins σ H s:=I.pins_of fun p hp=>I.pin p (List.mem_append_right _ (List.mem_append_left _ hp))
theorem wO {iter:Expr}{body:List Stmt}{wi:TI}{g:TG}{tb:TS}{pos:Pos}(hp:PassesOwn (model X.prog X.w) X.A X.env X.xe) (hc:X.calm=true) (hi:PI X tg iter wi) (hg:PG X tg g) (hb:PSs X body tb)
  (hs:∀ x,foldedSetIterable iter X.env x=pure x:=by intro _;rfl):PS X (.For tg iter body [] pos) (zdV wi g tb):=by
 intro pins s σ H D I h
 refine wpAny_For (thn (hi pins s σ H _ I h) fun v s1 h1=>thn h1 fun itv s2 h2=>?_) hs
 obtain⟨it,fp,tn,J,H2,e,I2,T,st2,f2,W,⟨m0,w0⟩,turn⟩:=h2
 subst e
 -- what stays true of the iterator's objects through the loop
 have stat:∀ {H':Hp},(∀ b∈fp,H' b=none)→∀ b∈fp,FpOk X pins H' b:=fun hn b hb=>⟨hn b hb,(f2 b hb).2⟩
 refine codeAny_forLoop_any (fun n s'=>∃ i σ' H',Inv X pins σ' H' s'∧tn i s'.heap∧(∀ b∈fp,H' b=none)∧W i n σ' H') ?_ m0 ⟨0,σ,H2,I2,st2,fun b hb=>(f2 b hb).1,w0⟩
 rintro n s3 ⟨i,σ3,H3,I3,st3,fr3,w3⟩
 rcases turn i n σ3 H3 w3 with⟨stop,qn⟩ | ⟨go,N,hN,step⟩
 ·refine wpAny_passesOwn hp (thn (T.done X rfl rfl rfl hc i pins s3 σ3 H3 X.xe I3 (stat fr3) st3 stop) fun r s4 ⟨hr,I4⟩=>?_)
  subst hr
  exact wpAny_execs_nil ⟨σ3,H3,I4,qn⟩
 ·refine wpAny_passesOwn hp (thn (T.item X rfl rfl rfl hc i pins s3 σ3 H3 X.xe I3 (stat fr3) st3 go) fun r s4 ⟨u,hr,h4⟩=>?_)
  subst hr
  refine wpAny_passesOwn hp (thn h4 fun _ s5 hq0=>?_)
  obtain⟨x,H5,I5,r5,y5,st5,fr5⟩:=hq0
  have I5':=I5.pinned (stat fr5) (T.obj _ _ st5)
  refine wpAny_passesOwn hp (thn (hg _ s5 σ3 H5 x u _ I5' r5 (step x H5 y5)) fun _ s6 hq0=>?_)
  obtain⟨σ6,H6,I6,q6⟩:=hq0
  refine wpAny_passesOwn hp (thn (hb _ s6 σ6 H6 _ I6 q6) fun f s7 q7=>?_)
  have again:∀ {σ7:St}{H7:Hp},Inv X (pins++wP fp s5.heap) σ7 H7 s7→N σ7 H7→∃ m,m<n∧∃ i σ' H',Inv X pins σ' H' s7∧tn i s7.heap∧(∀ b∈fp,H' b=none)∧W i m σ' H':=fun {σ7 H7} I7 n7=>by
   obtain⟨m',hm,w7⟩:=hN σ7 H7 n7
   refine⟨m',hm,i+1,σ7,H7,I7.unpinned,T.keep _ _ _ st5 fun b hb o e=>(I7.pin (b,o) (List.mem_append_right _ (List.mem_append_right _ (yO hb e)))).1,fun b hb=>?_,w7⟩
   obtain⟨o,e,d⟩:=T.obj _ _ st5 b hb
   exact(I7.pin (b,o) (List.mem_append_right _ (List.mem_append_right _ (yO hb e)))).2.1
  cases f with
  |next=>obtain⟨σ7,H7,I7,n7⟩:=q7;exact again I7 n7
  |cont=>obtain⟨σ7,H7,I7,n7⟩:=q7;exact again I7 n7
  |brk=>obtain⟨σ7,H7,I7,q7⟩:=q7;exact⟨σ7,H7,I7.unpinned,q7⟩
  |ret v=>obtain⟨x7,σ7,H7,I7,r7,q7⟩:=q7;exact⟨x7,σ7,H7,I7.unpinned,r7,q7⟩
end
theorem for_list {K:PySem.W.Frag}{a:Addr}{xs:List V}{g:TG}{tb:TS}{D:Ends}{σ:St}{H:Hp}(Pv:Nat→St→Hp→Prop) (h0:Pv 0 σ H) (hl:∀ i σ H,i≤xs.length→Pv i σ H→SqL K H a xs)
  (hs:∀ i x σ H,xs[i]?=some x→Pv i σ H→g x σ H fun σ2 H2=>tb { D with nx:=Pv (i+1),ct:=Pv (i+1),bk:=D.nx } σ2 H2) (hd:∀ σ H,Pv xs.length σ H→D.nx σ H) :
  ∃ W:Nat→Nat→St→Hp→Prop,(∃ m,W 0 m σ H)∧∀ i m σ H,W i m σ H →
   ((Itl K a).stop i H∧D.nx σ H)∨((Itl K a).go i H∧∃ N:St→Hp→Prop,(∀ σ' H',N σ' H'→∃ m',m'<m∧W (i+1) m' σ' H')∧∀ x H',(Itl K a).yld i H x H'→g x σ H' fun σ2 H2=>tb { D with nx:=N,ct:=N,bk:=D.nx } σ2 H2):=by
 refine⟨fun i m σ H=>m=xs.length-i∧i≤xs.length∧Pv i σ H,⟨xs.length,by simp,Nat.zero_le _,h0⟩,?_⟩
 rintro i m σ H ⟨rfl,hi,p⟩
 have q:=hl i σ H hi p
 by_cases hlt:i<xs.length
 ·refine .inr ⟨⟨xs,xs[i],q,by simp[hlt]⟩,Pv (i+1),fun σ' H' p'=>⟨xs.length-(i+1),by omega,rfl,hlt,p'⟩,fun x H' y=>?_⟩
  obtain⟨e,y⟩:=y
  subst e
  exact hs i x σ _ (y xs q) p
 ·have e:i=xs.length:=by omega
  subst e
  exact .inl ⟨⟨xs,q,Nat.le_refl _⟩,hd σ H p⟩
theorem for_range {lo:Int}{n:Nat}{g:TG}{tb:TS}{D:Ends}{σ:St}{H:Hp}(Pv:Nat→St→Hp→Prop) (h0:Pv 0 σ H)
  (hs:∀ i σ H,i<n→Pv i σ H→g (.int (lo+i)) σ H fun σ2 H2=>tb { D with nx:=Pv (i+1),ct:=Pv (i+1),bk:=D.nx } σ2 H2) (hd:∀ σ H,Pv n σ H→D.nx σ H) :
  ∃ W:Nat→Nat→St→Hp→Prop,(∃ m,W 0 m σ H)∧∀ i m σ H,W i m σ H →
   ((Itr lo n).stop i H∧D.nx σ H)∨((Itr lo n).go i H∧∃ N:St→Hp→Prop,(∀ σ' H',N σ' H'→∃ m',m'<m∧W (i+1) m' σ' H')∧∀ x H',(Itr lo n).yld i H x H'→g x σ H' fun σ2 H2=>tb { D with nx:=N,ct:=N,bk:=D.nx } σ2 H2):=by
 refine⟨fun i m σ H=>m=n-i∧i≤n∧Pv i σ H,⟨n,by simp,Nat.zero_le _,h0⟩,?_⟩
 rintro i m σ H ⟨rfl,hi,p⟩
 by_cases hlt:i<n
 ·refine .inr ⟨hlt,Pv (i+1),fun σ' H' p'=>⟨n-(i+1),by omega,rfl,hlt,p'⟩,fun x H' y=>?_⟩
  obtain⟨e,y⟩:=y
  subst e y
  exact hs i σ _ hlt p
 ·have e:i=n:=by omega
  subst e
  exact .inl ⟨Nat.le_refl _,hd σ H p⟩
abbrev R2:=V→V→Hp→VK→Prop
def OpR (X:Cx) (f:Value→Value→Sem Value) (r:R2):Prop :=
 ∀ (pins:List (Addr×Obj)) (s:Shared) (σ:St) (H:Hp) (x y:V) (v u:Value) (Q:VK),Inv X pins σ H s→RelV x v→RelV y u→r x y H Q →
  wpAny (model X.prog X.w) X.A (f v u) (EP X pins σ Q) X.xe s
def UnR (X:Cx) (f:Value→Sem Value) (r:V→Hp→VK→Prop):Prop :=
 ∀ (pins:List (Addr×Obj)) (s:Shared) (σ:St) (H:Hp) (x:V) (v:Value) (Q:VK),Inv X pins σ H s→RelV x v→r x H Q →
  wpAny (model X.prog X.w) X.A (f v) (EP X pins σ Q) X.xe s
def yY (X:Cx) (f:Value) (r:List V→Hp→VK→Prop):Prop :=
 ∀ (pins:List (Addr×Obj)) (s:Shared) (σ:St) (H:Hp) (xs:List V) (us:List Value) (Q:VK),Inv X pins σ H s→Vals xs us→r xs H Q →
  wpAny (model X.prog X.w) X.A (call f us) (EP X pins σ Q) X.xe s
def tOp (r:R2) (ta tb:TE):TE:=fun σ H Q=>ta σ H fun x H1=>tb σ H1 fun y H2=>r x y H2 Q
def tUn (r:V→Hp→VK→Prop) (ta:TE):TE:=fun σ H Q=>ta σ H fun x H1=>r x H1 Q
def rI (C:Int→Int→Prop) (g:Int→Int→V):R2:=fun x y H Q=>∃ i j,x=.int i∧y=.int j∧C i j∧Q (g i j) H
def rI0 (g:Int→Int→V):R2:=fun x y H Q=>∃ i j,x=.int i∧y=.int j∧Q (g i j) H
def rU (g:Int→V):V→Hp→VK→Prop:=fun x H Q=>∃ i,x=.int i∧Q (g i) H
section
variable {X:Cx}{a b c:Expr}{ta tb tc:TE}{pos:Pos}
theorem binT (ha:PE X a ta) (hb:PE X b tb){pins:List (Addr×Obj)}{s:Shared}{σ:St}{H:Hp}{R:V→V→Hp→Prop}(I:Inv X pins σ H s)
  (h:ta σ H fun x H1=>tb σ H1 fun y H2=>R x y H2){Q:Value→Shared→Prop}{f:Value→Value→Sem Value}
  (hf:∀ v u s2 x y H2,Inv X pins σ H2 s2→RelV x v→RelV y u→R x y H2→wpAny (model X.prog X.w) X.A (f v u) Q X.xe s2) :
  wpAny (model X.prog X.w) X.A (eval a X.env) (fun v s₁=>wpAny (model X.prog X.w) X.A (eval b X.env) (fun u s₂=>wpAny (model X.prog X.w) X.A (f v u) Q X.xe s₂) X.xe s₁) X.xe s:=by
 refine thn (ha pins s σ H _ I h) fun v s1 hq0=>?_
 obtain⟨x,H1,I1,r1,q1⟩:=hq0
 refine thn (hb pins s1 σ H1 _ I1 q1) fun u s2 hq0=>?_
 obtain⟨y,H2,I2,r2,q2⟩:=hq0
 exact hf v u s2 x y H2 I2 r1 r2 q2
theorem zbh {op:Operator}{r:R2}(ho:OpR X (binaryOp op) r) (ha:PE X a ta) (hb:PE X b tb):PE X (.BinOp a op b pos) (tOp r ta tb):=by
 intro pins s σ H Q I h
 exact wpAny_BinOp (binT ha hb I h fun v u s2 x y H2 I2 rx ry q=>ho pins s2 σ H2 x y v u Q I2 rx ry q)
theorem VA {op:UnaryOp}{r:V→Hp→VK→Prop}(ho:UnR X (unaryOp op) r) (ha:PE X a ta):PE X (.UnaryOp op a pos) (tUn r ta):=by
 intro pins s σ H Q I h
 exact UnaryOp_ (thn (ha pins s σ H _ I h) fun v s1 ⟨x,H1,I1,r1,q1⟩=>ho pins s1 σ H1 x v Q I1 r1 q1)
theorem opI {f:Value→Value→Sem Value}{C:Int→Int→Prop}{g:Int→Int→Int}
  (rule:∀ (i j:Int) (t u:Tok) (s:Shared) (Q:Value→Shared→Prop) (E:Value→Shared→Prop),C i j→Q (.int (g i j) s.toks) { s with toks:=s.toks+1 }→wpAny (model X.prog X.w) X.A (f (.int i t) (.int j u)) Q E s) :
  OpR X f (rI C fun i j=>.int (g i j)):=by
 intro pins s σ H x y v u Q I rx ry h
 obtain⟨i,j,rfl,rfl,hc,q⟩:=h
 obtain⟨t,rfl⟩:=rx
 obtain⟨t',rfl⟩:=ry
 exact rule i j t t' s _ _ hc ⟨.int (g i j),H,I.tok _,⟨_,rfl⟩,q⟩
theorem zgl {f:Value→Value→Sem Value}{g:Int→Int→Int}
  (rule:∀ (i j:Int) (t u:Tok) (s:Shared) (Q:Value→Shared→Prop) (E:Value→Shared→Prop),Q (.int (g i j) s.toks) { s with toks:=s.toks+1 }→wpAny (model X.prog X.w) X.A (f (.int i t) (.int j u)) Q E s) :
  OpR X f (rI0 fun i j=>.int (g i j)):=by
 intro pins s σ H x y v u Q I rx ry h
 obtain⟨i,j,rfl,rfl,q⟩:=h
 obtain⟨t,rfl⟩:=rx
 obtain⟨t',rfl⟩:=ry
 exact rule i j t t' s _ _ ⟨.int (g i j),H,I.tok _,⟨_,rfl⟩,q⟩
theorem Uo {f:Value→Value→Sem Value}{g:Int→Int→Bool}
  (rule:∀ (i j:Int) (t u:Tok) (s:Shared) (Q:Value→Shared→Prop) (E:Value→Shared→Prop),Q (.bool (g i j)) s→wpAny (model X.prog X.w) X.A (f (.int i t) (.int j u)) Q E s) :
  OpR X f (rI0 fun i j=>.bl (g i j)):=by
 intro pins s σ H x y v u Q I rx ry h
 obtain⟨i,j,rfl,rfl,q⟩:=h
 obtain⟨t,rfl⟩:=rx
 obtain⟨t',rfl⟩:=ry
 exact rule i j t t' s _ _ ⟨.bl (g i j),H,I,rfl,q⟩
def zh8 (i j:Int):Prop:=0≤j∧j≤1000000∧i.natAbs<2 ^ 64
def CMul (i j:Int):Prop:=(-(2 ^ 64)<i∧i<2 ^ 64)∨(-(2 ^ 64)<j∧j<2 ^ 64)
theorem CMul.ok {i j:Int}(h:CMul i j):IntMulOk i j:=by
 rcases h with⟨h1,h2⟩ | ⟨h1,h2⟩
 ·exact .of_left (intBits_le_64 h1 h2)
 ·exact .of_right (intBits_le_64 h1 h2)
theorem xf:OpR X (binaryOp .Add) (rI0 fun i j=>.int (i+j)):=zgl fun _ _ _ _ _ _ _ q=>add_int q
theorem xt:OpR X (binaryOp .Sub) (rI0 fun i j=>.int (i-j)):=zgl fun _ _ _ _ _ _ _ q=>sub_int q
theorem wc:OpR X (binaryOp .Mult) (rI CMul fun i j=>.int (i*j)):=opI fun _ _ _ _ _ _ _ hc q=>mul_int q hc.ok
theorem xu:OpR X (binaryOp .Mod) (rI (fun _ j=>0<j) fun i j=>.int (i%j)):=opI fun i j _ _ _ _ _ hc q=>by
 have h1:(0:Int)<j:=hc
 exact mod_int' (by omega) (by rw[Int.fmod_eq_emod_of_nonneg i (by omega)];exact q)
theorem v0:OpR X (binaryOp .Pow) (rI zh8 fun i j=>.int (i ^ j.toNat)):=opI fun _ _ _ _ _ _ _ hc q=>pow_int_small hc.1 hc.2.1 hc.2.2 q
theorem unI {f:Value→Sem Value}{g:Int→Int}
  (rule:∀ (i:Int) (t:Tok) (s:Shared) (Q:Value→Shared→Prop) (E:Value→Shared→Prop),Q (.int (g i) s.toks) { s with toks:=s.toks+1 }→wpAny (model X.prog X.w) X.A (f (.int i t)) Q E s) :
  UnR X f (rU fun i=>.int (g i)):=by
 intro pins s σ H x v Q I rx h
 obtain⟨i,rfl,q⟩:=h
 obtain⟨t,rfl⟩:=rx
 exact rule i t s _ _ ⟨.int (g i),H,I.tok _,⟨_,rfl⟩,q⟩
theorem xF:UnR X (unaryOp .USub) (rU fun i=>.int (-i)):=unI fun _ _ _ _ _ q=>neg_int q
end
def zge:V→V→Bool
 |.non,.non=>true | .non,.int _=>true | .int _,.non=>true | .non,.bl _=>true | .bl _,.non=>true | .non,.str _=>true | .str _,.non=>true
 |.int _,.int _=>true | .bl _,.bl _=>true | .str _,.str _=>true | .byt _,.byt _=>true
 |.int _,.str _=>true | .str _,.int _=>true | .bl _,.str _=>true | .str _,.bl _=>true
 |_,_=>false
def rEq:R2:=fun x y H Q=>zge x y=true∧Q (.bl (decide (x=y))) H
def rNe:R2:=fun x y H Q=>zge x y=true∧Q (.bl (!decide (x=y))) H
theorem Yg {i j:Int}:decide (V.int i=V.int j)=(i == j):=by
 rw[Bool.eq_iff_iff]
 simp
theorem XS {i j:Bool}:decide (V.bl i=V.bl j)=(i == j):=by
 rw[Bool.eq_iff_iff]
 simp
theorem Yf {i j:Str}:decide (V.str i=V.str j)=(i == j):=by
 rw[Bool.eq_iff_iff]
 simp
theorem Yh {i j:Array UInt8}:decide (V.byt i=V.byt j)=(i.toList == j.toList):=by
 rw[Bool.eq_iff_iff]
 cases i
 cases j
 simp
section
variable {X:Cx}{a b c:Expr}{ta tb tc:TE}{pos:Pos}
theorem zH {pins:List (Addr×Obj)}{σ:St}{H:Hp}{s:Shared}{Q:VK}{k k':Bool}(I:Inv X pins σ H s) (q:Q (.bl k) H) (e:k=k'):EP X pins σ Q (.bool k') s:=by
 subst e
 exact⟨.bl k,H,I,rfl,q⟩
theorem xc:OpR X (compareOp .Eq) rEq:=by
 intro pins s σ H x y v u Q I rx ry h
 obtain⟨hs,q⟩:=h
 cases x with
 |non =>
  cases rx
  cases y with
  |non=>cases ry;exact PySem.EqNone.eq_none_none (zH I q (by simp))
  |bl j=>cases ry;exact PySem.EqNone.eq_none_bool (zH I q (by simp))
  |int j=>obtain⟨t',rfl⟩:=ry;exact PySem.EqNone.eq_none_int (zH I q (by simp))
  |str j=>obtain⟨t',rfl⟩:=ry;exact PySem.EqNone.eq_none_str (zH I q (by simp))
  |_=>exact absurd (show false=true from hs) Bool.false_ne_true
 |bl i =>
  cases rx
  cases y with
  |non=>cases ry;exact PySem.EqNone.eq_bool_none (zH I q (by simp))
  |bl j=>cases ry;exact eq_bool (zH I q XS)
  |str j=>obtain⟨t',rfl⟩:=ry;exact PySem.EqMixed.eq_bool_str (zH I q (by simp))
  |_=>exact absurd (show false=true from hs) Bool.false_ne_true
 |int i =>
  obtain⟨t,rfl⟩:=rx
  cases y with
  |non=>cases ry;exact PySem.EqNone.eq_int_none (zH I q (by simp))
  |int j=>obtain⟨t',rfl⟩:=ry;exact eq_int (zH I q Yg)
  |str j=>obtain⟨t',rfl⟩:=ry;exact PySem.EqMixed.eq_int_str (zH I q (by simp))
  |_=>exact absurd (show false=true from hs) Bool.false_ne_true
 |str i =>
  obtain⟨t,rfl⟩:=rx
  cases y with
  |non=>cases ry;exact PySem.EqNone.eq_str_none (zH I q (by simp))
  |bl j=>cases ry;exact PySem.EqMixed.eq_str_bool (zH I q (by simp))
  |int j=>obtain⟨t',rfl⟩:=ry;exact PySem.EqMixed.eq_str_int (zH I q (by simp))
  |str j=>obtain⟨t',rfl⟩:=ry;exact eq_str (zH I q Yf)
  |_=>exact absurd (show false=true from hs) Bool.false_ne_true
 |byt i =>
  obtain⟨t,rfl⟩:=rx
  cases y with
  |byt j=>obtain⟨t',rfl⟩:=ry;exact PySem.W.eq_bytes (zH I q Yh)
  |_=>exact absurd (show false=true from hs) Bool.false_ne_true
 |_=>cases y<;>exact absurd (show false=true from hs) Bool.false_ne_true
theorem wt:OpR X (compareOp .NotEq) rNe:=by
 intro pins s σ H x y v u Q I rx ry h
 obtain⟨hs,q⟩:=h
 cases x with
 |non =>
  cases rx
  cases y with
  |non=>cases ry;exact PySem.EqNone.ne_none_none (zH I q (by simp))
  |bl j=>cases ry;exact PySem.EqNone.ne_none_bool (zH I q (by simp))
  |int j=>obtain⟨t',rfl⟩:=ry;exact PySem.EqNone.ne_none_int (zH I q (by simp))
  |str j=>obtain⟨t',rfl⟩:=ry;exact PySem.EqNone.ne_none_str (zH I q (by simp))
  |_=>exact absurd (show false=true from hs) Bool.false_ne_true
 |bl i =>
  cases rx
  cases y with
  |non=>cases ry;exact PySem.EqNone.ne_bool_none (zH I q (by simp))
  |bl j=>cases ry;exact ne_bool (zH I q (congrArg not XS))
  |str j=>obtain⟨t',rfl⟩:=ry;exact PySem.EqMixed.ne_bool_str (zH I q (by simp))
  |_=>exact absurd (show false=true from hs) Bool.false_ne_true
 |int i =>
  obtain⟨t,rfl⟩:=rx
  cases y with
  |non=>cases ry;exact PySem.EqNone.ne_int_none (zH I q (by simp))
  |int j=>obtain⟨t',rfl⟩:=ry;exact ne_int (zH I q (congrArg not Yg))
  |str j=>obtain⟨t',rfl⟩:=ry;exact PySem.EqMixed.ne_int_str (zH I q (by simp))
  |_=>exact absurd (show false=true from hs) Bool.false_ne_true
 |str i =>
  obtain⟨t,rfl⟩:=rx
  cases y with
  |non=>cases ry;exact PySem.EqNone.ne_str_none (zH I q (by simp))
  |bl j=>cases ry;exact PySem.EqMixed.ne_str_bool (zH I q (by simp))
  |int j=>obtain⟨t',rfl⟩:=ry;exact PySem.EqMixed.ne_str_int (zH I q (by simp))
  |str j=>obtain⟨t',rfl⟩:=ry;exact ne_str (zH I q (congrArg not Yf))
  |_=>exact absurd (show false=true from hs) Bool.false_ne_true
 |byt i =>
  obtain⟨t,rfl⟩:=rx
  cases y with
  |byt j=>obtain⟨t',rfl⟩:=ry;exact PySem.W.ne_bytes (zH I q (congrArg not Yh))
  |_=>exact absurd (show false=true from hs) Bool.false_ne_true
 |_=>cases y<;>exact absurd (show false=true from hs) Bool.false_ne_true
theorem wS:OpR X (compareOp .Lt) (rI0 fun i j=>.bl (decide (i<j))):=Uo fun _ _ _ _ _ _ _ q=>lt_int q
theorem zbi:OpR X (compareOp .LtE) (rI0 fun i j=>.bl (decide (i≤j))):=Uo fun _ _ _ _ _ _ _ q=>le_int q
theorem vt:OpR X (compareOp .Gt) (rI0 fun i j=>.bl (decide (j<i))):=Uo fun _ _ _ _ _ _ _ q=>gt_int q
theorem zbj:OpR X (compareOp .GtE) (rI0 fun i j=>.bl (decide (j≤i))):=Uo fun _ _ _ _ _ _ _ q=>ge_int q
theorem XJ:OpR X (compareOp .Is) (fun x y H Q=>y=.non∧Q (.bl (decide (x=.non))) H):=by
 intro pins s σ H x y v u Q I rx ry h
 obtain⟨rfl,q⟩:=h
 cases ry
 refine is_none_gen (zH I q ?_)
 cases x<;>first
  |(cases rx;rfl)
  |(obtain⟨t,rfl⟩:=rx;rfl)
theorem xI:OpR X (compareOp .IsNot) (fun x y H Q=>y=.non∧Q (.bl (!decide (x=.non))) H):=by
 intro pins s σ H x y v u Q I rx ry h
 obtain⟨rfl,q⟩:=h
 cases ry
 refine isnot_none_gen (zH I q ?_)
 cases x<;>first
  |(cases rx;rfl)
  |(obtain⟨t,rfl⟩:=rx;rfl)
theorem zv (b:Expr){op:CmpOp}(h:op≠.In:=by decide) (h2:op≠.NotIn:=by decide):behindInMarks op b=false:=by
 have e1:(op == CmpOp.In)=false:=by cases op<;>first | rfl | exact absurd rfl h
 have e2:(op == CmpOp.NotIn)=false:=by cases op<;>first | rfl | exact absurd rfl h2
 cases b<;>simp[behindInMarks,e1,e2]
theorem wq {op:CmpOp}{r:R2}(ho:OpR X (compareOp op) r) (ha:PE X a ta) (hb:PE X b tb) (hm:behindInMarks op b=false):PE X (.Compare a [op] [b] pos) (tOp r ta tb):=by
 intro pins s σ H Q I h
 exact wpAny_Compare1 (binT ha hb I h fun v u s2 x y H2 I2 rx ry q=>ho pins s2 σ H2 x y v u Q I2 rx ry q) hm
def Va (t:TE):TT:=fun σ H Q=>t σ H fun x H'=>∃ k,x=.bl k∧Q k H'
theorem xo {op:CmpOp}{r:R2}(ho:OpR X (compareOp op) r) (ha:PE X a ta) (hb:PE X b tb) (hm:behindInMarks op b=false):PT X (.Compare a [op] [b] pos) (Va (tOp r ta tb)):=by
 intro pins s σ H Q I h
 refine wpAny_isTrue_Compare1 (thn (ha pins s σ H _ I h) fun v s1 ⟨x,H1,I1,r1,q1⟩=>thn (hb pins s1 σ H1 _ I1 q1) fun u s2 ⟨y,H2,I2,r2,q2⟩ =>
  thn (ho pins s2 σ H2 x y v u _ I2 r1 r2 q2) fun c s3 ⟨z,H3,I3,r3,k,e,q3⟩=>?_) hm
 subst e
 cases r3
 exact wpAny_truthy_bool ⟨H3,I3,q3⟩
theorem ZV:(sizeLine:Nat)<2 ^ 63:=by rw[sizeLine_eq];decide
theorem Yz {x:V}{us:List Value}(r:Vals [x] us):∃ u,us=[u]∧RelV x u:=by
 cases r with
 |cons r1 r2=>cases r2;exact⟨_,rfl,r1⟩
theorem zaL {x y:V}{us:List Value}(r:Vals [x,y] us):∃ u w',us=[u,w']∧RelV x u∧RelV y w':=by
 cases r with
 |cons r1 r2 =>
  cases r2 with
  |cons r3 r4=>cases r4;exact⟨_,_,rfl,r1,r3⟩
theorem Ym (hc:X.calm=true):yY X (.builtin "max") (fun xs H Q=>∃ i j,xs=[.int i,.int j]∧Q (.int (if j>i then j else i)) H):=by
 intro pins s σ H xs us Q I r h
 obtain⟨i,j,rfl,q⟩:=h
 obtain⟨u,w',rfl,⟨t,rfl⟩,⟨t',rfl⟩⟩:=zaL r
 refine max_two_ints (I.ok.hd hc) fun h' tk k=>⟨_,H,I.kept k,?_,q⟩
 by_cases hj:j>i
 ·rw[if_pos hj,if_pos hj];exact⟨_,rfl⟩
 ·rw[if_neg hj,if_neg hj];exact⟨_,rfl⟩
end
structure ObjM (h:Heap) (x dx C:Addr) (mA:Str→Option Value):Prop where
 obj:h.get? x=some (PySem.W.instObj C dx)
 ns:h.Ns1 dx mA
 ne:dx≠x
theorem ZU {h:Heap}{dx:Addr}{mA:Str→Option Value}(n:h.Ns1 dx mA):∃ od,h.get? dx=some od∧∀ name,PySem.W.lookIn name od=some (mA name):=by
 obtain⟨o,es,ep,ho,hd,hk,_,hm⟩:=n
 refine⟨o,ho,fun name=>?_⟩
 have e:=hm name
 unfold nsFind findBy at e
 rw[← Array.find?_toList] at e
 unfold PySem.W.lookIn
 rw[hd]
 dsimp only
 split
 ·rename_i y q
  rw[q] at e
  exact congrArg some e
 ·rename_i q
  rw[q] at e
  have a:es.toList.any (·.refKey)=false:=by
   rw[List.any_eq_false]
   intro y hy
   obtain⟨z,t,hkey⟩:=hk y (Array.mem_toList_iff.mp hy)
   simp[DictEntry.refKey,hkey]
  have a':¬ es.toList.any (·.refKey)=true:=by rw[a];exact Bool.false_ne_true
  rw[if_neg a']
  exact congrArg some e
theorem ObjM.look {h:Heap}{x dx C:Addr}{mA:Str→Option Value}(I:ObjM h x dx C mA):∃ od,PySem.W.InstAt h x (PySem.W.instObj C dx) C (some od)∧∀ name,PySem.W.lookIn name od=some (mA name) :=
 let ⟨od,ho,hl⟩:=ZU I.ns
 ⟨od,⟨I.obj,rfl,rfl,ho⟩,hl⟩
section
variable {prog:Program}{w:World}{A:Around}{E:Value→Shared→Prop}{s:Shared}{K:PySem.W.Frag}{x dx C f:Addr}{mA:Str→Option Value}{name:Str}{v:Value}
theorem WF {expr:Bool}{Q:Value→Shared→Prop}(X:K.In s.heap) (I:ObjM s.heap x dx C mA) (hg:PySem.W.plainGet K C name=true) (hh:PySem.W.hasDictIn K C=true)
  (ha:PySem.W.findIn K (.ref C) name=some none) (hv:mA name=some v) (hv':PySem.W.handedIn v=true) (h:Q v { s with toks:=s.toks+1 }) :
  wpAny (model prog w) A (getAttr (.ref x) name expr) Q E s:=by
 obtain⟨od,J,hl⟩:=I.look
 exact PySem.W.get_value X J (PySem.W.plainGet_of hg).1 (PySem.W.findObj_own hh ha rfl (by rw[hl,hv])) hv' h
theorem Xd {pl:Sem Bool}{Q:Value×List Value→Shared→Prop}(X:K.In s.heap) (I:ObjM s.heap x dx C mA) (hg:PySem.W.plainGet K C name=true)
  (hf:PySem.W.findIn K (.ref C) name=some (some (.ref f))) (ht:PySem.W.isFn K (.ref f)=true) (hv:mA name=none) (h:Q (.ref f,[.ref x]) s) :
  wpAny (model prog w) A (getMethod (.ref x) name pl) Q E s:=by
 obtain⟨od,J,hl⟩:=I.look
 exact PySem.W.method_fn X J (PySem.W.plainGet_of hg).1 (PySem.W.plainGet_of hg).2 hf (beq_iff_eq.mp ht) (by show(PySem.W.lookIn name od).map (·.isSome)=some false;rw[hl,hv];rfl) h
theorem X8 {ns:List Str}{Q:Unit→Shared→Prop}(X:K.In s.heap) (I:ObjM s.heap x dx C mA)
  (hs:PySem.W.findIn K (.ref C) "__setattr__" = some (some (.builtin "object.__setattr__"))) (hp:PySem.W.plainOver K C=true) (ht:PySem.W.takerIn K C name=some none) (hh:PySem.W.hasDictIn K C=true)
  (hw:PySem.Within mA ns) (hsz:ns.length≤sizeLine)
  (h:∀ h',ObjM h' x dx C (fun y=>if y=name then some v else mA y)→Heap.SameBut dx s.heap h'→Q () { s with heap:=h',toks:=s.toks+2 }) :
  wpAny (model prog w) A (setAttr (.ref x) name v) Q E s:=by
 obtain⟨od,J,hl⟩:=I.look
 refine PySem.W.set_plain X J hs (PySem.W.osa_open (s:={ s with toks:=s.toks+1 }) (r:=none) X J hp ht fun b=>?_)
 obtain⟨cd,hc,hd'⟩:=PySem.W.any_some hh
 have hx:s.heap.get? x=some ⟨.ref C,some dx,.plain,#[]⟩:=I.obj
 refine wpAny_bind (wpAny_pure (wpAny_bind (wpAny_bind (wpAny_loadPart hx (wpAny_bind (PySem.W.Looks.here (s:={ s with toks:=s.toks+1 }) (PySem.W.looks_clsIn X hc) ?_))))))
 rw[hd']
 refine wpAny_pure (a:=some dx) (wpAny_bind (wpAny_pure (wpAny_bind ?_)))
 refine wpAny_nsSet1 (s:={ s with toks:=s.toks+1 }) I.ns fun h' hn2 hs2=>?_
 obtain⟨oD,esD,epD,hoD,hdD,hcD⟩:=hn2.count (PySem.Within.cons name v hw)
 refine wpAny_bind (wpAny_lookBehind hoD (by rw[hdD];exact pastItsLine_dict (Nat.le_trans hcD (by rw[List.length_cons];omega))) ?_)
 exact wpAny_pure (h _ ⟨(hs2.2 _ (Ne.symm I.ne)).trans I.obj,hn2,I.ne⟩ hs2)
theorem Y7 {R:Result→Shared→Prop}{vs:List Value}{kw:List (Str×Value)}(X:K.In s.heap) (hm:PySem.W.makesIn K C=true)
  (hi:PySem.W.findIn K (.ref C) "__init__" = some (some (.ref f))) (hf:PySem.W.typeIn K (.ref f)=some (.type "function"))
  (h:codeAny (model prog w) (A.under (.builtin "type.__call__" ⟨.ref C::vs,kw⟩)) (.call (.ref f) ⟨.ref (s.heap.objs.size+1)::vs,kw⟩) (PySem.W.InitBack (s.heap.objs.size+1) R)
   { s with heap:=(s.heap.push PySem.W.emptyDict).push (PySem.W.instObj C s.heap.objs.size) }) :
  codeAny (model prog w) A (.call (.ref C) ⟨vs,kw⟩) R s:=by
 obtain⟨hh,g,d,t,os⟩:=s
 exact PySem.W.make_core (PySem.W.makes_of X hm) (PySem.W.looks_findIn X hi) (fun self=>PySem.W.bind_fn X self hf) (.inl rfl) h
end
def vb (f:Str) (v:V):List (Str×V)→List (Str×V)
 |[]=>[(f,v)]
 |(g,x)::r=>if g=f then(g,v)::r else(g,x)::vb f v r
theorem xJ (f g:Str) (v:V):∀ fs:List (Str×V),(vb f v fs).lookup g=if g=f then some v else fs.lookup g
 |[]=>by
  show List.lookup g [(f,v)]=_
  by_cases h:g=f
  ·have hb:(g == f)=true:=beq_iff_eq.mpr h
   simp only[List.lookup,hb,if_pos h]
  ·have hb:(g == f)=false:=beq_eq_false_iff_ne.mpr h
   simp only[List.lookup,hb,if_neg h]
 |(k,x)::r=>by
  have ih:=xJ f g v r
  rw[show vb f v ((k,x)::r)=(if k=f then(k,v)::r else(k,x)::vb f v r) from rfl]
  by_cases hk:k=f
  ·rw[if_pos hk]
   by_cases h:g=k
   ·have hb:(g == k)=true:=beq_iff_eq.mpr h
    simp only[List.lookup,hb,if_pos (h.trans hk)]
   ·have hb:(g == k)=false:=beq_eq_false_iff_ne.mpr h
    simp only[List.lookup,hb,if_neg (fun e:g=f=>h (e.trans hk.symm))]
  ·rw[if_neg hk]
   by_cases h:g=k
   ·have hb:(g == k)=true:=beq_iff_eq.mpr h
    simp only[List.lookup,hb,if_neg (fun e:g=f=>hk (h.symm.trans e))]
   ·have hb:(g == k)=false:=beq_eq_false_iff_ne.mpr h
    simp only[List.lookup,hb]
    exact ih
theorem xL (f:Str) (v:V):∀ fs:List (Str×V),f∈(vb f v fs).map (·.1)∧∀ g,g∈fs.map (·.1)→g∈(vb f v fs).map (·.1)
 |[]=>⟨by simp[vb],fun g h=>by simp at h⟩
 |(k,x)::r=>by
  obtain⟨i1,i2⟩:=xL f v r
  rw[show vb f v ((k,x)::r)=(if k=f then(k,v)::r else(k,x)::vb f v r) from rfl]
  by_cases hk:k=f
  ·rw[if_pos hk]
   subst hk
   exact⟨by simp,fun g h=>by simpa using h⟩
  ·rw[if_neg hk]
   refine⟨?_,fun g h=>?_⟩
   ·rw[List.map_cons]
    exact List.mem_cons_of_mem _ i1
   ·rw[List.map_cons] at h ⊢
    rcases List.mem_cons.mp h with e | e
    ·exact List.mem_cons.mpr (.inl e)
    ·exact List.mem_cons_of_mem _ (i2 g e)
theorem xK (f:Str) (v:V):∀ fs:List (Str×V),(vb f v fs).length≤fs.length+1
 |[]=>by simp[vb]
 |(k,x)::r=>by
  have ih:=xK f v r
  rw[show vb f v ((k,x)::r)=(if k=f then(k,v)::r else(k,x)::vb f v r) from rfl]
  by_cases hk:k=f
  ·rw[if_pos hk,List.length_cons,List.length_cons];omega
  ·rw[if_neg hk,List.length_cons,List.length_cons];omega
theorem RelO.some_of {v:V}{o:Option Value}(r:RelO (some v) o):∃ u,o=some u∧RelV v u:=by
 cases o with
 |none=>exact(show False from r).elim
 |some u=>exact⟨u,rfl,r⟩
theorem RelO.none_of {o:Option Value}(r:RelO none o):o=none:=by
 cases o with
 |none=>rfl
 |some u=>exact(show False from r).elim
theorem Ya {v:V}{u:Value}(r:RelV v u):PySem.W.handedIn u=true:=by
 cases v with
 |non=>cases (show u=Value.none from r);rfl
 |bl b=>cases (show u=Value.bool b from r);rfl
 |int i=>obtain⟨t,e⟩:=(show ∃ t,u=Value.int i t from r);cases e;rfl
 |str x=>obtain⟨t,e⟩:=(show ∃ t,u=Value.str x t from r);cases e;rfl
 |byt b=>obtain⟨t,e⟩:=(show ∃ t,u=Value.bytes b t from r);cases e;rfl
 |flt b=>obtain⟨t,e⟩:=(show ∃ t,u=Value.float b t from r);cases e;rfl
 |ref a=>cases (show u=Value.ref a from r);rfl
 |ty n=>cases (show u=Value.type n from r);rfl
section
variable {P:Program}{w:World}{H H':Hp}{h h':Heap}{a C dx:Addr}{fs fs':List (Str×V)}
theorem wz (hok:HOk P w H h) (e:H a=some (.ins C dx fs)):∃ mA,ObjM h a dx C mA∧(∀ f,RelO (fs.lookup f) (mA f))∧PySem.Within mA (fs.map (·.1))∧fs.length≤1000∧H dx=some (.own a):=by
 obtain⟨d,z,ne,ob,mA,n,r,q⟩:=(show ObjOk P w H h a (.ins C dx fs) from hok a _ e)
 exact⟨mA,⟨ob,n,ne⟩,r,q,z,d⟩
end
structure Cls (K:PySem.W.Frag) (C:Addr):Prop where
 pg:PySem.W.plainGet K C Str.empty=true
 hd:PySem.W.hasDictIn K C=true
 po:PySem.W.plainOver K C=true
 sa:PySem.W.findIn K (.ref C) "__setattr__" = some (some (.builtin "object.__setattr__"))
theorem Cls.get {K:PySem.W.Frag}{C:Addr}(c:Cls K C) (f:Str):PySem.W.plainGet K C f=true:=c.pg
def NoAttr (K:PySem.W.Frag) (C:Addr) (f:Str):Prop:=PySem.W.findIn K (.ref C) f=some none
theorem NoAttr.taker {K:PySem.W.Frag}{C:Addr}{f:Str}(n:NoAttr K C f):PySem.W.takerIn K C f=some none:=by
 unfold PySem.W.takerIn
 rw[show PySem.W.findIn K (.ref C) f=some none from n]
 rfl
structure Meth (K:PySem.W.Frag) (C:Addr) (m:Str) (f:Addr):Prop where
 at_:PySem.W.findIn K (.ref C) m=some (some (.ref f))
 fn:PySem.W.isFn K (.ref f)=true
 kp:PySem.W.keepIn K (.ref f)=true
section
variable {X:Cx}{pins:List (Addr×Obj)}{σ:St}{H:Hp}{s:Shared}{a C dx:Addr}{fs:List (Str×V)}{f:Str}{v:V}{A:Around}{E:Value→Shared→Prop}
theorem uw {b:Bool}{Q:Value→Shared→Prop}(I:Inv X pins σ H s) (e:H a=some (.ins C dx fs)) (c:Cls X.K C) (n:NoAttr X.K C f) (l:fs.lookup f=some v)
  (h:∀ u s',Inv X pins σ H s'→RelV v u→Q u s'):wpAny (model X.prog X.w) A (getAttr (.ref a) f b) Q E s:=by
 obtain⟨mA,O,r,_,_,_⟩:=wz I.hok e
 obtain⟨u,hu,ru⟩:=RelO.some_of (v:=v) (o:=mA f) (by rw[← l];exact r f)
 exact WF I.kIn O (c.get f) c.hd n hu (Ya ru) (h u _ (I.tok _) ru)
theorem yP {m:Str}{g:Addr}{pl:Sem Bool}{Q:Value×List Value→Shared→Prop}(I:Inv X pins σ H s) (e:H a=some (.ins C dx fs)) (c:Cls X.K C) (k:Meth X.K C m g) (l:fs.lookup m=none)
  (h:Q (.ref g,[.ref a]) s):wpAny (model X.prog X.w) A (getMethod (.ref a) m pl) Q E s:=by
 obtain⟨mA,O,r,_,_,_⟩:=wz I.hok e
 have hn:mA m=none:=RelO.none_of (by rw[← l];exact r m)
 exact Xd I.kIn O (c.get m) k.at_ k.fn hn h
theorem uq {y:V}{u:Value}{Q:Unit→Shared→Prop}(I:Inv X pins σ H s) (e:H a=some (.ins C dx fs)) (c:Cls X.K C) (n:NoAttr X.K C f) (hl:fs.length<1000) (ry:RelV y u)
  (h:∀ s',Inv X pins σ (upd H a (.ins C dx (vb f y fs))) s'→Q () s'):wpAny (model X.prog X.w) A (setAttr (.ref a) f u) Q E s:=by
 obtain⟨mA,O,r,wi,_,ho⟩:=wz I.hok e
 have hz:(fs.map (·.1)).length≤sizeLine:=by rw[List.length_map,sizeLine_eq];omega
 refine X8 I.kIn O c.sa c.po n.taker c.hd wi hz fun h' O' sb=>h _ ?_
 have hd:∃ o,h'.get? dx=some o:=let ⟨o,_,_,e',_⟩:=O'.ns;⟨o,e'⟩
 refine I.write (x:=a) (e:=dx) (by rw[e];exact True.intro) (.inr ho) (fun b q hb z=>(sb.2 b hb).trans z) hd ?_
 refine⟨by rw[upd_ne O.ne];exact ho,?_,O.ne,O'.obj,_,O'.ns,fun g=>?_,fun g hg=>?_⟩
 ·have:=xK f y fs;omega
 ·show RelO ((vb f y fs).lookup g) (if g=f then some u else mA g)
  rw[xJ]
  by_cases q:g=f
  ·rw[if_pos q,if_pos q];exact ry
  ·rw[if_neg q,if_neg q];exact r g
 ·by_cases q:g=f
  ·rw[q];exact(xL f y fs).1
  ·refine(xL f y fs).2 g (wi g fun z=>hg ?_)
   show(if g=f then some u else mA g)=none
   rw[if_neg q];exact z
theorem Inv.made (I:Inv X pins σ H s):Inv X pins σ (upd (upd H s.heap.objs.size (.own (s.heap.objs.size+1))) (s.heap.objs.size+1) (.ins C s.heap.objs.size []))
  { s with heap:=(s.heap.push PySem.W.emptyDict).push (PySem.W.instObj C s.heap.objs.size) }:=by
 have e1:(s.heap.push PySem.W.emptyDict).get? s.heap.objs.size=some PySem.W.emptyDict:=Heap.get?_push_size s.heap rfl
 have e2:((s.heap.push PySem.W.emptyDict).push (PySem.W.instObj C s.heap.objs.size)).get? (s.heap.objs.size+1)=some (PySem.W.instObj C s.heap.objs.size):=by
  have:=Heap.get?_push_size (s.heap.push PySem.W.emptyDict) (o:=PySem.W.instObj C s.heap.objs.size) rfl
  rwa [Heap.size_push] at this
 have e3:(s.heap.push PySem.W.emptyDict).Ns s.heap.objs.size (fun _=>none):=⟨PySem.W.emptyDict,#[],_,e1,rfl,(fun e he=>absurd he (by simp)),fun _=>rfl⟩
 have I1:=I.laid (a:=s.heap.objs.size) (o:=.own (s.heap.objs.size+1)) (h':=s.heap.push PySem.W.emptyDict) (t':=s.toks) (fun b u q=>Heap.get?_push_of_some _ q) (Nat.le_refl _) ⟨_,e1⟩
 refine I1.laid (a:=s.heap.objs.size+1) (o:=.ins C s.heap.objs.size []) (t':=s.toks) (fun b u q=>Heap.get?_push_of_some _ q) (Nat.le_of_eq (Heap.size_push _ _)) ?_
 have ne:s.heap.objs.size≠s.heap.objs.size+1:=Nat.ne_of_lt (Nat.lt_succ_self _)
 refine⟨by rw[upd_ne ne,upd_same],Nat.zero_le _,ne,e2,fun _=>none,(Heap.Ns1.of_empty e3).at fun o q=>Heap.get?_push_of_some _ q,fun _=>True.intro,fun y hy=>absurd rfl hy⟩
theorem attr_of {prog:Program}{w:World}{env:Env}{e:Expr}{f:Str}{pos:Pos}{s:Shared}{Q:Value→Shared→Prop}(hb:attributeBase e f env (eval e env)=eval e env)
  (h:wpAny (model prog w) A (eval e env) (fun o s₁=>wpAny (model prog w) A (getAttr o f true) Q E s₁) E s):wpAny (model prog w) A (eval (.Attribute e f pos) env) Q E s :=
 Attribute_any_ h (by rw[arm_eval_Attribute,hb])
end
def zdW (K:PySem.W.Frag) (ta:TE) (f:Str):TE:=fun σ H Q=>ta σ H fun x H1=>∃ a C dx fs v,x=.ref a∧H1 a=some (.ins C dx fs)∧Cls K C∧NoAttr K C f∧fs.lookup f=some v∧Q v H1
def zgf (K:PySem.W.Frag) (ta tv:TE) (f:Str):TS:=fun D σ H=>tv σ H fun y H1=>ta σ H1 fun x H2=>∃ a C dx fs,x=.ref a∧H2 a=some (.ins C dx fs)∧Cls K C∧NoAttr K C f∧fs.length<1000 ∧
 D.nx σ (upd H2 a (.ins C dx (vb f y fs)))
section
variable {X:Cx}{o e value:Expr}{f:Str}{pos pos' tpos:Pos}{ta tv:TE}
theorem VD (he:PE X e ta) (hb:attributeBase e f X.env (eval e X.env)=eval e X.env):PE X (.Attribute e f pos) (zdW X.K ta f):=by
 intro pins s σ H Q I h
 refine attr_of hb (thn (he pins s σ H _ I h) fun u s1 hq0=>?_)
 obtain⟨x,H1,I1,rx,a,C,dx,fs,v,ex,ea,c,n,l,q⟩:=hq0
 subst ex
 obtain rfl:u=Value.ref a:=rx
 exact uw I1 ea c n l fun u' s2 I2 ru=>⟨v,H1,I2,ru,q⟩
theorem vV (ha:PE X o ta) (hv:PE X value tv) (hs:swapsWith value (some (.Attribute o f pos')) pos.line X.env=pure false):PS X (.Assign [.Attribute o f pos'] value pos) (zgf X.K ta tv f):=by
 intro pins s σ H D I h
 refine plainObj_wpAny_Assign_Attribute (thn (hv pins s σ H _ I h) fun u s1 ⟨y,H1,I1,ry,q⟩=>thn (ha pins s1 σ H1 _ I1 q) fun ov s2 hq0=>?_) hs
 obtain⟨x,H2,I2,rx,a,C,dx,fs,ex,ea,c,n,l,q2⟩:=hq0
 subst ex
 obtain rfl:ov=Value.ref a:=rx
 exact uq I2 ea c n l ry fun s3 I3=>⟨σ,_,I3,q2⟩
theorem WB {pl:Sem Bool}{m:Str}{apos:Pos}{args:List Expr}{pins:List (Addr×Obj)}{s:Shared}{σ:St}{H:Hp}{Q:Value→Shared→Prop}{te:TE}(he:PE X e te) (I:Inv X pins σ H s)
  (h:te σ H fun x H1=>∃ a C dx fs g,x=.ref a∧H1 a=some (.ins C dx fs)∧Cls X.K C∧Meth X.K C m g∧fs.lookup m=none ∧
   ∀ s1,Inv X pins σ H1 s1→wpAny (model X.prog X.w) X.A (callWith pos (.ref g) [.ref a] (backTo pos (starEach args X.env)) (backToKw pos (keywordEach [] X.env))) Q X.xe s1)
  (ht:eval (.Call (.Attribute e m apos) args [] pos) X.env=(do
   let ov ← eval e X.env
   standAt apos.atName
   let (f,first) ← holding [ov] (getMethod ov m pl)
   callWith pos f first (backTo pos (starEach args X.env)) (backToKw pos (keywordEach [] X.env)))) :
  wpAny (model X.prog X.w) X.A (eval (.Call (.Attribute e m apos) args [] pos) X.env) Q X.xe s:=by
 refine PySem.W.methodCall_KW (pl:=pl) (thn (he pins s σ H _ I h) fun u s1 hq0=>?_) ht
 obtain⟨x,H1,I1,rx,a,C,dx,fs,g,ex,ea,c,k,l,q⟩:=hq0
 subst ex
 obtain rfl:u=Value.ref a:=rx
 exact yP I1 ea c k l (q s1 I1)
end
section
variable {X:Cx}{pins:List (Addr×Obj)}{σ:St}{H:Hp}{s:Shared}{A:Around}{E:Value→Shared→Prop}{Q:Value→Shared→Prop}{c:Value}{b:Bool}
inductive TyOf (K:PySem.W.Frag) (H:Hp):V→Value→Prop where
 |non:TyOf K H .non (.type "NoneType")
 |bl (x:Bool):TyOf K H (.bl x) (.type "bool")
 |int (i:Int):TyOf K H (.int i) (.type "int")
 |str (x:Str):TyOf K H (.str x) (.type "str")
 |flt (x:UInt64):TyOf K H (.flt x) (.type "float")
 |lst {a:Addr}{xs:List V}(e:H a=some (.lst xs)):TyOf K H (.ref a) (.type "list")
 |frz {a:Addr}{o:Obj}{xs:List V}(e:H a=some (.frz o (.lst xs))):TyOf K H (.ref a) (.type "list")
 |tup {a:Addr}{xs:List V}(e:H a=some (.tup xs)):TyOf K H (.ref a) (.type "tuple")
 |dK {a:Addr}{kvs:List (Key×V)}(e:H a=some (.dK kvs)):TyOf K H (.ref a) (.type "dict")
 |dT {a:Addr}{kvs:List (List Key×V)}(e:H a=some (.dT kvs)):TyOf K H (.ref a) (.type "dict")
 |ins {a C dx:Addr}{fs:List (Str×V)}(e:H a=some (.ins C dx fs)) (cl:Cls K C) (ha:PySem.W.findIn K (.ref C) "__class__" = some (some (.builtin "object.__class__")))
   (hn:PySem.W.specialIn K (.builtin "object.__class__") "__get__" = some (some (.builtin "getset_descriptor.__get__"))) (htk:PySem.W.takesIn K (.builtin "object.__class__")=some true)
   (hm:PySem.W.mroIn K C (.type "object")=some true):TyOf K H (.ref a) (.ref C)
theorem Z3 {x:V}{u t:Value}(I:Inv X pins σ H s) (rx:RelV x u) (ty:TyOf X.K H x t) (e:PySem.W.kitOne X.K t c=some b) (h:∀ tk,Q (.bool b) { s with toks:=tk }) :
  wpAny (model X.prog X.w) A (call (.builtin "isinstance") [u,c]) Q E s:=by
 cases ty with
 |non=>cases (show u=Value.none from rx);exact PySem.W.kia_one PySem.W.kitx_none I.kIn True.intro e (fun z=>nomatch z) h
 |bl y=>cases (show u=Value.bool y from rx);exact PySem.W.kia_one PySem.W.kitx_bool I.kIn True.intro e (fun z=>nomatch z) h
 |int i=>obtain⟨t,q⟩:=(show ∃ t,u=Value.int i t from rx);cases q;exact PySem.W.kia_one PySem.W.kitx_int I.kIn True.intro e (fun z=>nomatch z) h
 |str y=>obtain⟨t,q⟩:=(show ∃ t,u=Value.str y t from rx);cases q;exact PySem.W.kia_one PySem.W.kitx_str I.kIn True.intro e (fun z=>nomatch z) h
 |flt y=>obtain⟨t,q⟩:=(show ∃ t,u=Value.float y t from rx);cases q;exact PySem.W.kia_one PySem.W.kitx_float I.kIn True.intro e (fun z=>nomatch z) h
 | @lst a xs ea =>
  cases (show u=Value.ref a from rx)
  obtain⟨_,_,n,_,h1⟩:=(show ObjOk X.prog X.w H s.heap a (.lst xs) from I.hok a _ ea)
  exact PySem.W.kia_one PySem.W.kitx_list I.kIn ⟨_,h1,rfl⟩ e (fun z=>nomatch z) h
 | @frz a ob xs ea =>
  cases (show u=Value.ref a from rx)
  obtain⟨_,_,_,n,_,h1⟩:=(show ObjOk X.prog X.w H s.heap a (.frz ob (.lst xs)) from I.hok a _ ea)
  exact PySem.W.kia_one PySem.W.kitx_list I.kIn ⟨_,h1,rfl⟩ e (fun z=>nomatch z) h
 | @tup a xs ea =>
  cases (show u=Value.ref a from rx)
  obtain⟨_,_,_,p⟩:=(show ObjOk X.prog X.w H s.heap a (.tup xs) from I.hok a _ ea)
  obtain⟨o,h1,h2,_⟩:=p
  exact PySem.W.kia_one PySem.W.kitx_tuple I.kIn ⟨o,h1,h2⟩ e (fun z=>nomatch z) h
 | @dK a kvs ea =>
  cases (show u=Value.ref a from rx)
  obtain⟨_,_,vs,_,p⟩:=(show ObjOk X.prog X.w H s.heap a (.dK kvs) from I.hok a _ ea)
  obtain⟨o,es,ep,h1,h2,_⟩:=p
  exact PySem.W.kia_one PySem.W.kitx_dict I.kIn ⟨o,h1,h2.1⟩ e (fun z=>nomatch z) h
 | @dT a kvs ea =>
  cases (show u=Value.ref a from rx)
  obtain⟨_,_,xs,_,o,es,ep,h1,h2,_⟩:=(show ObjOk X.prog X.w H s.heap a (.dT kvs) from I.hok a _ ea)
  exact PySem.W.kia_one PySem.W.kitx_dict I.kIn ⟨o,h1,h2.1⟩ e (fun z=>nomatch z) h
 | @ins a C dx fs ea cl ha hn htk hm =>
  cases (show u=Value.ref a from rx)
  obtain⟨mA,O,_⟩:=wz I.hok ea
  obtain⟨od,J,_⟩:=O.look
  exact PySem.W.kia_one (PySem.W.kitx_own (cl.get _) cl.hd ha hn htk hm) I.kIn J e (fun z=>nomatch z) h
end
structure Room (k:Nat) (A:Around):Prop where
 hd:A.handled=none
 dp:A.depth+3*k+5<recursionLimit
 un:A.units+16*k+200<cLine
theorem Room.mono {j k:Nat}{A:Around}(r:Room k A) (h:j≤k):Room j A:=⟨r.hd,by have:=r.dp;omega,by have:=r.un;omega⟩
theorem Room.deeper {k:Nat}{A:Around}(r:Room (k+1) A) (env:Env):Room k (A.deeper env) :=
 ⟨r.hd,by have:=r.dp;show A.depth+1+3*k+5<_;omega,by have:=r.un;show A.units+3+16*k+200<_;omega⟩
theorem uv {A:Around}{C:Addr}{us:List Value}{kw:List (Str×Value)}:(A.under (.builtin "type.__call__" ⟨.ref C::us,kw⟩)).depth=A.depth+1:=by
 first | rfl | simp[Around.under,Code.weight,Code.isCreation,Code.isGuard,Code.isCaller,Code.frames,Code.isFrame,guardIds]
theorem uu {A:Around}{C:Addr}{us:List Value}{kw:List (Str×Value)}:(A.under (.builtin "type.__call__" ⟨.ref C::us,kw⟩)).units=A.units+1:=by
 first | rfl | simp[Around.under,Code.cUnits,Code.frames,Code.isFrame]
theorem Room.make {k:Nat}{A:Around}(r:Room (k+1) A) (C:Addr) (us:List Value) (kw:List (Str×Value)):Room k (A.under (.builtin "type.__call__" ⟨.ref C::us,kw⟩)) :=
 ⟨r.hd,by have:=r.dp;rw[uv];omega,by have:=r.un;rw[uu];omega⟩
theorem Room.depth {k:Nat}{A:Around}(r:Room k A):A.depth<recursionLimit:=by have:=r.dp;omega
theorem Room.units {k:Nat}{A:Around}(r:Room k A):A.units+64<cLine:=by have:=r.un;omega
def Uk:TA:=fun _ H Q=>Q [] H
def xv (ta:TE) (tr:TA):TA:=fun σ H Q=>ta σ H fun x H1=>tr σ H1 fun xs H2=>Q (x::xs) H2
section
variable {X:Cx}{e:Expr}{es:List Expr}{te:TE}{t:TA}{pos:Pos}
theorem zT:PA X [] Uk:=fun _ _ _ _ H Q I h=>Calls.spliced_nil ⟨[],H,I,.nil,h⟩
theorem yF (ha:PE X e te) (hr:PA X es t) (hs:starEach (e::es) X.env=(false,eval e X.env)::starEach es X.env:=by rfl):PA X (e::es) (xv te t):=by
 intro pos pins s σ H Q I h
 rw[hs]
 show wpAny _ _ (spliced ((false,eval e X.env)::backTo pos (starEach es X.env))) _ _ s
 refine Calls.spliced_cons (thn (ha pins s σ H _ I h) fun u s1 hq0=>?_)
 obtain⟨x,H1,I1,r1,q1⟩:=hq0
 exact thn (hr pos pins s1 σ H1 _ I1 q1) fun us s2 ⟨xs,H2,I2,r2,q2⟩=>⟨x::xs,H2,I2,.cons r1 r2,q2⟩
def zdN (t:TA):TE:=fun σ H Q=>t σ H fun xs H1=>xs.length≤sizeLine∧∀ p,H1 p=none→Q (.ref p) (upd H1 p (.tup xs))
def zdT (t:TA):TE:=fun σ H Q=>t σ H fun xs H1=>xs.length≤sizeLine∧∀ p,H1 p=none→Q (.ref p) (upd H1 p (.lst xs))
theorem VB {x1}(h:PA X es t):PE X (.Tuple es x1 pos) (zdN t):=by
 intro pins s σ H Q I hq
 refine wpAny_Tuple_spliced (thn (h pos pins s σ H _ I hq) fun us s1 ⟨xs,H1,I1,r,z,q⟩=>⟨by rw[← r.length];exact z,?_⟩)
 have hf:H1 s1.heap.objs.size=none:=I1.hok.fresh (Nat.le_refl _)
 refine⟨.ref s1.heap.objs.size,upd H1 s1.heap.objs.size (.tup xs),I1.laid (t':=s1.toks) (fun b u e=>Heap.get?_push_of_some _ e) (Nat.le_refl _) ?_,rfl,q _ hf⟩
 exact⟨z,us,r,⟨_,Heap.get?_push_size _ rfl,rfl,_,rfl⟩⟩
theorem XE (h:PA X es t):PE X (.List es pos) (zdT t):=by
 intro pins s σ H Q I hq
 refine wpAny_List_spliced (thn (h pos pins s σ H _ I hq) fun us s1 ⟨xs,H1,I1,r,z,q⟩=>⟨by rw[← r.length];exact z,?_⟩)
 have hf:H1 s1.heap.objs.size=none:=I1.hok.fresh (Nat.le_refl _)
 refine⟨.ref s1.heap.objs.size,upd H1 s1.heap.objs.size (.lst xs),I1.laid (t':=s1.toks) (fun b u e=>Heap.get?_push_of_some _ e) (Nat.le_refl _) ?_,rfl,q _ hf⟩
 exact⟨z,us,0,r,Heap.get?_push_size _ rfl⟩
end
abbrev Sp:=List V→Hp→VK→XK→Prop
abbrev CXT:=List Env→Hp→Shared→XK→Value→Shared→Prop
structure Env0 (P:Program) (w:World) (K:PySem.W.Frag) (mg:Str→Option Value) (base:Heap) (A:Around) (outer:List Env) (s:Shared) (H:Hp):Prop where
 frames:A.frames=some outer
 mod:Mod K mg base
 bs:∀ b o,base.get? b=some o→s.heap.get? b=some o∧H b=none
 bsz:base.objs.size≤s.heap.objs.size
 funs:s.heap.FunFrames base outer
 frf:∀ b∈frs outer,H b=none
 hok:HOk P w H s.heap
 bare:AllBare s.gens
def CE (outer:List Env) (P:Program) (w:World) (H:Hp) (s:Shared) (Q:VK) (u:Value) (s':Shared):Prop :=
 ∃ v H',s'.os=s.os∧AllBare s'.gens∧Un (frs outer) [] H H' s.heap s'.heap∧HOk P w H' s'.heap∧RelV v u∧Q v H'
def CR (CX:CXT) (outer:List Env) (P:Program) (w:World) (H:Hp) (s:Shared) (Q:VK) (E:XK) (r:Result) (s':Shared):Prop :=
 match r with
 |.ok (.ret u)=>CE outer P w H s Q u s'
 |.ok _=>False
 |.error e=>CX outer H s E e s'
structure FnOk (P:Program) (w:World) (K:PySem.W.Frag) (mg:Str→Option Value) (base:Heap) (CX:CXT) (k:Nat) (f:Addr) (fd:FuncData) (ps:List Str) (sp:Sp):Prop where
 len:∀ vs H Q E,sp vs H Q E→vs.length=ps.length
 run:∀ (A:Around) (outer:List Env) (s:Shared) (H:Hp) (args:Args) (us:List Value) (vs:List V) (Q:VK) (E:XK),Room k A→Env0 P w K mg base A outer s H→BindsTo s fd args (ps.zip us)→Vals vs us→sp vs H Q E →
  codeAny (model P w) A (.call (.ref f) args) (CR CX outer P w H s Q E) s
theorem FnOk.imp {P:Program}{w:World}{K:PySem.W.Frag}{mg:Str→Option Value}{base:Heap}{CX:CXT}{k:Nat}{f:Addr}{fd:FuncData}{ps:List Str}{sp sp':Sp}(F:FnOk P w K mg base CX k f fd ps sp)
  (h:∀ vs H Q E,sp' vs H Q E→sp vs H Q E):FnOk P w K mg base CX k f fd ps sp' :=
 ⟨fun vs H Q E q=>F.len vs H Q E (h _ _ _ _ q),fun A outer s H args us vs Q E hr he hb hv hs=>F.run A outer s H args us vs Q E hr he hb hv (h _ _ _ _ hs)⟩
theorem Env0.make {P:Program}{w:World}{K:PySem.W.Frag}{mg:Str→Option Value}{base:Heap}{A:Around}{outer:List Env}{s:Shared}{H:Hp}(e:Env0 P w K mg base A outer s H) (C:Addr) (us:List Value) (kw:List (Str×Value)) :
  Env0 P w K mg base (A.under (.builtin "type.__call__" ⟨.ref C::us,kw⟩)) outer s H:=⟨by first | exact e.frames | (simpa[Around.under,Code.envs,Code.isFrame,pushEnvs] using e.frames),e.mod,e.bs,e.bsz,e.funs,e.frf,e.hok,e.bare⟩
section
variable {X:Cx}{pins:List (Addr×Obj)}{σ:St}{H:Hp}{s s':Shared}
theorem Inv.env0 (I:Inv X pins σ H s):Env0 X.prog X.w X.K X.mg X.base X.A X.stack s H :=
 ⟨I.ok.frames,I.ok.mod,I.bs,Nat.le_trans I.ok.bsz I.sz,I.stack,I.stkFree,I.hok,I.bare⟩
theorem Inv.after {Q:VK}{u:Value}(I:Inv X pins σ H s) (h:CE X.stack X.prog X.w H s Q u s'):EP X pins σ Q u s':=by
 obtain⟨v,H',os,bare,un,hok,r,q⟩:=h
 obtain⟨hh,g,d,t,os'⟩:=s'
 obtain rfl:os'=s.os:=os
 exact⟨v,H',I.call (h':=hh) (g':=g) (d':=d) (t':=t) (ch:=[]) un hok bare (fun b z=>absurd z (by simp)),r,q⟩
end
def X0 (sp:Sp) (dvs:List V) (E:XK) (t:TA):TE:=fun σ H Q=>t σ H fun vs H1=>sp (vs++dvs) H1 Q E
def Vg (C:Addr) (m:Str) (sp:Sp) (dvs:List V) (E:XK) (ta:TE) (t:TA):TE:=fun σ H Q=>ta σ H fun x H1=>∃ a dx fs,x=.ref a∧H1 a=some (.ins C dx fs)∧fs.lookup m=none ∧
 t σ H1 fun vs H2=>sp (x::(vs++dvs)) H2 Q E
def XZ (C:Addr) (sp:Sp) (dvs:List V) (E:XK) (t:TA):TE:=fun σ H Q=>t σ H fun vs H1=>∀ x dx,H1 x=none→H1 dx=none→dx≠x →
 sp (.ref x::(vs++dvs)) (upd (upd H1 dx (.own x)) x (.ins C dx [])) (fun v H2=>v=.non∧Q (.ref x) H2) E
def Binds (K:PySem.W.Frag) (fd:FuncData) (ps:List Str) (ds:List Value):Prop :=
 ∀ (s:Shared) (us:List Value),K.In s.heap→(us++ds).length=ps.length→BindsTo s fd ⟨us,[]⟩ (ps.zip (us++ds))
theorem Binds.all {K:PySem.W.Frag}{fd:FuncData}{ps:List Str}(h:∀ us:List Value,us.length=ps.length→bindArgs fd ⟨us,[]⟩=pure (ps.zip us)):Binds K fd ps []:=fun s us _ hl=>by
 rw[List.append_nil] at hl ⊢
 exact .of_eq (h us hl)
def xS (CX:CXT) (X:Cx) (E:XK):Prop:=∀ (pins:List (Addr×Obj)) (σ:St) (H:Hp) (s:Shared) (e:Value) (s':Shared),Inv X pins σ H s→CX X.stack H s E e s'→X.xe e s'
section
variable {X:Cx}{CX:CXT}{k:Nat}{f C:Addr}{fd:FuncData}{ps:List Str}{sp:Sp}{dvs:List V}{ds:List Value}{E:XK}{x m:Str}{p pos apos:Pos}{e o:Expr}{es:List Expr}{ta:TE}{t:TA}
theorem vT {pins:List (Addr×Obj)}{σ:St}{H:Hp}{s:Shared}{Q:VK}{us:List Value}{vs:List V}(F:FnOk X.prog X.w X.K X.mg X.base CX k f fd ps sp) (hr:Room k X.A) (hb:Binds X.K fd ps ds) (hd:Vals dvs ds) (hx:xS CX X E)
  (I:Inv X pins σ H s) (r:Vals vs us) (h:sp (vs++dvs) H Q E):wpAny (model X.prog X.w) X.A (call (.ref f) us) (EP X pins σ Q) X.xe s:=by
 have r2:Vals (vs++dvs) (us++ds):=r.append hd
 have hl:(us++ds).length=ps.length:=by rw[← r2.length];exact F.len _ _ _ _ h
 refine wpAny_call (codeAny_mono (F.run X.A X.stack s H ⟨us,[]⟩ (us++ds) (vs++dvs) Q E hr I.env0 (hb s us I.kIn hl) r2 h) fun r s' hq=>?_)
 cases r with
 |error e=>exact hx pins σ H s e s' I hq
 |ok fl =>
  cases fl with
  |ret u=>exact I.after hq
  |next=>exact False.elim hq
  |brk=>exact False.elim hq
  |cont=>exact False.elim hq
theorem Wr (F:FnOk X.prog X.w X.K X.mg X.base CX k f fd ps sp) (hr:Room k X.A) (hg:Gl X x) (hm:X.mg x=some (.ref f)) (hk:PySem.W.keepIn X.K (.ref f)=true) (hb:Binds X.K fd ps ds) (hd:Vals dvs ds) (hx:xS CX X E)
  (ha:PA X (e::es) t) (hdb:(x == ("__debug__" : Str))=false:=by decide) (he:starEach (e::es) X.env=(false,eval e X.env)::starEach es X.env:=by rfl) (hpl:(backTo pos (starEach es X.env)).any (·.1)=false:=by rfl) :
  PE X (.Call (.Name x p) (e::es) [] pos) (X0 sp dvs E t):=by
 intro pins s σ H Q I h
 refine wpAny_Call_Name_kw (ld_glob I hg hm ?_ hdb)
 refine PySem.W.callWith_K (h₀:=X.base) I.ok.mod.kin hk (thn (ha pos pins s σ H _ I h) fun us s1 ⟨vs,H1,I1,r,q⟩=>⟨I1.kIn,?_⟩) he hpl
 exact vT F hr hb hd hx I1 r q
theorem Wn {pl:Sem Bool}(he:PE X o ta) (c:Cls X.K C) (hm:Meth X.K C m f) (F:FnOk X.prog X.w X.K X.mg X.base CX k f fd ps sp) (hr:Room k X.A) (hb:Binds X.K fd ps ds) (hd:Vals dvs ds) (hx:xS CX X E) (ha:PA X (e::es) t)
  (hst:starEach (e::es) X.env=(false,eval e X.env)::starEach es X.env:=by rfl) (hpl:(backTo pos (starEach es X.env)).any (·.1)=false:=by rfl)
  (ht:eval (.Call (.Attribute o m apos) (e::es) [] pos) X.env=(do
   let ov ← eval o X.env
   standAt apos.atName
   let (f,first) ← holding [ov] (getMethod ov m pl)
   callWith pos f first (backTo pos (starEach (e::es) X.env)) (backToKw pos (keywordEach [] X.env))):=by rfl) :
  PE X (.Call (.Attribute o m apos) (e::es) [] pos) (Vg C m sp dvs E ta t):=by
 intro pins s σ H Q I h
 refine PySem.W.methodCall_KW (pl:=pl) (thn (he pins s σ H _ I h) fun u s1 hq0=>?_) ht
 obtain⟨x,H1,I1,rx,a,dx,fs,ex,ea,l,q⟩:=hq0
 subst ex
 obtain rfl:u=Value.ref a:=rx
 refine yP I1 ea c hm l ?_
 refine PySem.W.callWith_K (first:=[.ref a]) (h₀:=X.base) I.ok.mod.kin hm.kp (thn (ha pos pins s1 σ H1 _ I1 q) fun us s2 ⟨vs,H2,I2,r,q2⟩=>⟨I2.kIn,?_⟩) hst hpl
 exact vT (us:=.ref a::us) (vs:=.ref a::vs) F hr hb hd hx I2 (.cons rfl r) q2
structure Mk (K:PySem.W.Frag) (C f:Addr):Prop where
 makes:PySem.W.makesIn K C=true
 init:PySem.W.findIn K (.ref C) "__init__" = some (some (.ref f))
 fn:PySem.W.isFn K (.ref f)=true
 kp:PySem.W.keepIn K (.ref C)=true
theorem YG {pins:List (Addr×Obj)}{σ:St}{H:Hp}{s:Shared}{Q:VK}{us:List Value}{vs:List V}(M:Mk X.K C f) (F:FnOk X.prog X.w X.K X.mg X.base CX k f fd ps sp) (hr:Room (k+1) X.A) (hb:Binds X.K fd ps ds) (hd:Vals dvs ds)
  (hx:xS CX X E) (I:Inv X pins σ H s) (r:Vals vs us)
  (h:∀ x dx,H x=none→H dx=none→dx≠x→sp (.ref x::(vs++dvs)) (upd (upd H dx (.own x)) x (.ins C dx [])) (fun v H2=>v=.non∧Q (.ref x) H2) E) :
  wpAny (model X.prog X.w) X.A (call (.ref C) us) (EP X pins σ Q) X.xe s:=by
 have hq:=h (s.heap.objs.size+1) s.heap.objs.size (I.hok.fresh (Nat.le_succ _)) (I.hok.fresh (Nat.le_refl _)) (Nat.ne_of_lt (Nat.lt_succ_self _))
 have I2:=Inv.made (C:=C) I
 have r2:Vals (V.ref (s.heap.objs.size+1)::(vs++dvs)) (Value.ref (s.heap.objs.size+1)::(us++ds)):=.cons rfl (r.append hd)
 have hl:(Value.ref (s.heap.objs.size+1)::us++ds).length=ps.length:=by
  have e:=r2.length
  rw[F.len _ _ _ _ hq] at e
  exact e.symm
 refine wpAny_call (Y7 (f:=f) I.kIn M.makes M.init (beq_iff_eq.mp M.fn) (codeAny_mono (F.run _ X.stack _ _ ⟨Value.ref (s.heap.objs.size+1)::us,[]⟩ (Value.ref (s.heap.objs.size+1)::(us++ds)) _ _ E (hr.make C us [])
  (I2.env0.make C us []) (hb _ (Value.ref (s.heap.objs.size+1)::us) I2.kIn hl) r2 hq) fun r s' hq'=>?_))
 cases r with
 |error e=>exact hx pins σ _ _ e s' I2 hq'
 |ok fl =>
  cases fl with
  |ret u =>
   obtain⟨v,H',I3,rv,ev,q3⟩:=I2.after hq'
   subst ev
   exact⟨rv,⟨V.ref (s.heap.objs.size+1),H',I3,rfl,q3⟩⟩
  |next=>exact False.elim hq'
  |brk=>exact False.elim hq'
  |cont=>exact False.elim hq'
theorem Wo (M:Mk X.K C f) (F:FnOk X.prog X.w X.K X.mg X.base CX k f fd ps sp) (hr:Room (k+1) X.A) (hg:Gl X x) (hm:X.mg x=some (.ref C)) (hb:Binds X.K fd ps ds) (hd:Vals dvs ds) (hx:xS CX X E)
  (ha:PA X (e::es) t) (hdb:(x == ("__debug__" : Str))=false:=by decide) (he:starEach (e::es) X.env=(false,eval e X.env)::starEach es X.env:=by rfl) (hpl:(backTo pos (starEach es X.env)).any (·.1)=false:=by rfl) :
  PE X (.Call (.Name x p) (e::es) [] pos) (XZ C sp dvs E t):=by
 intro pins s σ H Q I h
 refine wpAny_Call_Name_kw (ld_glob I hg hm ?_ hdb)
 refine PySem.W.callWith_K (h₀:=X.base) I.ok.mod.kin M.kp (thn (ha pos pins s σ H _ I h) fun us s1 ⟨vs,H1,I1,r,q⟩=>⟨I1.kIn,?_⟩) he hpl
 exact YG M F hr hb hd hx I1 r q
end
structure FnScope (N P:List Str) (sc:Scope):Prop where
 kind:sc.kind=.function
 co:sc.isCoroutine=false
 gen:sc.isGenerator=false
 nd:N.Nodup
 pre:N.take P.length=P
 par:∀ x∈P,sc.names.lookup x=some .local∨sc.names.lookup x=some .cell
 nofree:∀ y∈sc.names,y.2≠.free
theorem w8 {kindOf:Str→Option NameKind}{x:Str}:∀ {binds:List (Str×Value)}{m:Str→Option Value},(∀ v,(x,v)∉binds)→bindL kindOf binds m x=m x
 |[],_,_=>rfl
 |(n,v)::r,m,h=>by
  unfold bindL
  rw[w8 fun w hw=>h w (List.mem_cons_of_mem _ hw)]
  split
  ·have:x≠n:=by rintro rfl;exact h v List.mem_cons_self
   simp[this]
  ·rfl
theorem bindC_out {kindOf:Str→Option NameKind}{x:Str}:∀ {binds:List (Str×Value)}{m:Str→Option Value},(∀ v,(x,v)∉binds)→bindC kindOf binds m x=m x
 |[],_,_=>rfl
 |(n,v)::r,m,h=>by
  unfold bindC
  rw[bindC_out fun w hw=>h w (List.mem_cons_of_mem _ hw)]
  split
  ·rfl
  ·have:x≠n:=by rintro rfl;exact h v List.mem_cons_self
   simp[this]
theorem bindL_get {kindOf:Str→Option NameKind}{x:Str}{v:Value}:∀ {P:List Str}{vs:List Value}{i:Nat}{m:Str→Option Value},P.Nodup→P[i]?=some x→vs[i]?=some v→kindOf x=some .local →
  bindL kindOf (P.zip vs) m x=some v
 |[],_,_,_,_,h,_,_=>by simp at h
 |_::_,[],_,_,_,_,h,_=>by simp at h
 |p::P,w::vs,0,m,nd,h1,h2,hk=>by
  simp at h1 h2;subst h1;subst h2
  show bindL kindOf ((p,w)::P.zip vs) m p=_
  unfold bindL
  rw[w8 fun v hv=>(List.nodup_cons.mp nd).1 (List.of_mem_zip hv).1,if_pos hk]
  simp
 |p::P,w::vs,i+1,m,nd,h1,h2,hk=>by
  show bindL kindOf ((p,w)::P.zip vs) m x=_
  unfold bindL
  exact bindL_get (i:=i) (List.nodup_cons.mp nd).2 (by simpa using h1) (by simpa using h2) hk
theorem va {kindOf:Str→Option NameKind}{x:Str}{v:Value}:∀ {P:List Str}{vs:List Value}{i:Nat}{m:Str→Option Value},P.Nodup→P[i]?=some x→vs[i]?=some v→kindOf x≠some .local →
  bindC kindOf (P.zip vs) m x=some v
 |[],_,_,_,_,h,_,_=>by simp at h
 |_::_,[],_,_,_,_,h,_=>by simp at h
 |p::P,w::vs,0,m,nd,h1,h2,hk=>by
  simp at h1 h2;subst h1;subst h2
  show bindC kindOf ((p,w)::P.zip vs) m p=_
  unfold bindC
  rw[bindC_out fun v hv=>(List.nodup_cons.mp nd).1 (List.of_mem_zip hv).1,if_neg hk]
  simp
 |p::P,w::vs,i+1,m,nd,h1,h2,hk=>by
  show bindC kindOf ((p,w)::P.zip vs) m x=_
  unfold bindC
  exact va (i:=i) (List.nodup_cons.mp nd).2 (by simpa using h1) (by simpa using h2) hk
def start (N:List Str) (vs:List V):St:=vs.map some++List.replicate (N.length-vs.length) none
def WY (CX:CXT) (P:Program) (w:World) (K:PySem.W.Frag) (mg:Str→Option Value) (base:Heap) (N:List Str) (qual:Str) (scope:Scope) (f:Addr) (cd:Value) (A:Around) (outer:List Env) (s:Shared) (H:Hp) (E:XK):Cx where
 prog:=P
 w:=w
 K:=K
 mg:=mg
 base:=base
 A:=A.deeper (envOfC qual scope s.heap.objs.size f cd)
 N:=N
 s₀:=s
 H₀:=H
 env:=envOfC qual scope s.heap.objs.size f cd
 outer:=outer
 stack:=envOfC qual scope s.heap.objs.size f cd::outer
 ex:=[]
 calm:=true
 fn:=fun _=>true
 pn:=[]
 xe:=fun e s'=>wpAny (model P w) (A.deeper (envOfC qual scope s.heap.objs.size f cd)) (leaving (envOfC qual scope s.heap.objs.size f cd) e) (fun _ s''=>CX outer H s E e s'') (fun e' s''=>CX outer H s E e' s'') s'
theorem ua {sc:Scope}{n:Nat}{x:Str}(h:sc.names.lookup x=some .cell):∃ c,(cellsFrom n sc.names []).lookup x=some c:=by
 have q:=PySem.W.cellsFrom_some sc.names n [] (.inl h)
 exact Option.isSome_iff_exists.mp q
theorem Z6 {CX:CXT}{P:Program}{w:World}{K:PySem.W.Frag}{mg:Str→Option Value}{base:Heap}{N ps:List Str}{qual:Str}{scope:Scope}{f:Addr}{cd:Value}{A:Around}{outer:List Env}{s s1:Shared}{H:Hp}{E:XK}{us:List Value}{vs:List V}
  (S:FnScope N ps scope) (hd:A.handled=none) (e0:Env0 P w K mg base A outer s H) (hl:vs.length=ps.length) (r:Vals vs us)
  (x:InCallC s s.heap.objs.size (bindL (envOfC qual scope s.heap.objs.size f cd).kindOf (ps.zip us) fun _=>none) (cellsFrom (s.heap.objs.size+1) scope.names []) (bindC (envOfC qual scope s.heap.objs.size f cd).kindOf (ps.zip us) fun _=>none) s1) :
  Inv (WY CX P w K mg base N qual scope f cd A outer s H E) [] (start N vs) H s1:=by
 have hpl:ps.length≤N.length:=by have:=congrArg List.length S.pre;rw[List.length_take] at this;omega
 obtain⟨h1,tk,rfl,hk⟩:=x.done
 have noA:∀ b:Addr,b∉(WY CX P w K mg base N qual scope f cd A outer s H E).ex:=fun b z=>absurd (show b∈([]:List Addr) from z) (by simp)
 refine⟨⟨e0.mod,S.kind,rfl,rfl,Nat.le_refl _,fun y z c h1 h2=>?_,fun y hy=>?_,fun y c _ h=>?_,fun _=>hd,Around.frames_deeper e0.frames,.inr ⟨rfl,rfl⟩,fun b z=>absurd z (noA b),e0.bs,e0.bsz,fun b _ _=>noA b,fun b z=>absurd z (noA b),e0.funs,e0.frf⟩,
  rfl,e0.bare,Un.kept hk,⟨_,x.toInCall.ns,fun i y v h1 h2 h3=>?_⟩,fun y c h=>⟨_,x.cell y c h⟩,e0.hok.fresh (Nat.le_refl _),fun y c h=>?_,fun p hp=>absurd (show p∈([]:List (Addr×Obj)) from hp) (by simp),e0.hok.kept hk,?_⟩
 ·exact name_of_addr x.apart (PySem.mem_of_lookup h1) (PySem.mem_of_lookup h2)
 ·have hy:scope.names.lookup y=some .cell∨scope.names.lookup y=some .free:=hy
  rcases hy with hy | hy
  ·exact ua hy
  ·exact absurd rfl (S.nofree _ (PySem.mem_of_lookup hy))
 ·exact Nat.le_of_lt (x.above y c (PySem.mem_of_lookup h))
 ·have hi:i<vs.length:=by
   unfold start at h2
   by_cases hi:i<vs.length
   ·exact hi
   ·rw[List.getElem?_append_right (by simpa using hi)] at h2
    rw[List.getElem?_replicate] at h2
    split at h2<;>cases h2
  have ha:vs[i]?=some v:=by
   unfold start at h2
   rw[List.getElem?_append_left (by simpa using hi),List.getElem?_map] at h2
   cases e:vs[i]? with
   |none=>rw[e] at h2;cases h2
   |some a=>rw[e] at h2;cases h2;rfl
  obtain⟨u,hu,rv⟩:=r.get ha
  have hp:ps[i]?=some y:=by
   rw[← S.pre,List.getElem?_take_of_lt (by omega)];exact h1
  have ndP:ps.Nodup:=by rw[← S.pre];exact S.nd.sublist (List.take_sublist _ _)
  refine⟨u,rv,?_⟩
  rcases S.par y (List.mem_of_getElem? hp) with k | k
  ·exact .inl ⟨k,bindL_get ndP hp hu k⟩
  ·obtain⟨c,e⟩:=ua (n:=s.heap.objs.size+1) k
   refine .inr ⟨.inl k,c,e,?_⟩
   have q:=x.cell y c e
   rw[va ndP hp hu (by show scope.names.lookup y≠_;rw[k];decide)] at q
   exact q
 ·exact e0.hok.fresh (Nat.le_of_lt (x.above y c (PySem.mem_of_lookup h)))
 ·unfold start
  show _=N.length
  rw[List.length_append,List.length_map,List.length_replicate]
  omega
theorem zdF {CX:CXT}{P:Program}{w:World}{K:PySem.W.Frag}{mg:Str→Option Value}{base:Heap}{k:Nat}{f:Addr}{name qual:Str}{params:Arguments}{body:List Stmt}{scope:Scope}{dV kV doc pm cdv ct oc:Value}{an od:Option Addr}
  {osl:Array (Option Value)}{N ps:List Str}{sp:Sp}(lk:K.lookup f=some ⟨oc,od,.func (PySem.W.fnOf name qual params body scope dV kV doc pm an cdv ct),osl⟩) (hcd:PySem.W.codeIn K cdv qual=true) (S:FnScope N ps scope)
  (len:∀ vs H Q E,sp vs H Q E→vs.length=ps.length)
  (hbody:∀ (A:Around) (outer:List Env) (s:Shared) (H:Hp) (vs:List V) (Q:VK) (E:XK),Room k (A.deeper (envOfC qual scope s.heap.objs.size f cdv))→sp vs H Q E →
   ∃ t,PSs (WY CX P w K mg base N qual scope f cdv A outer s H E) body t∧t { nx:=fun _ H'=>Q .non H',rt:=Q } (start N vs) H) :
  FnOk P w K mg base CX (k+1) f (PySem.W.fnOf name qual params body scope dV kV doc pm an cdv ct) ps sp:=by
 refine⟨len,fun A outer s H args us vs Q E hr e0 hb r hsp=>?_⟩
 have hl:=len _ _ _ _ hsp
 have KX:K.In s.heap:=e0.mod.kin.keeps fun b o e=>(e0.bs b o e).1
 have lim:s.heap.NoLimit:=e0.mod.nolimit.keeps fun b o e=>(e0.bs b o e).1
 have hkind:∀ y∈ps.zip us,scope.names.lookup y.1=some .local∨(scope.names.lookup y.1=some .cell∧((cellsFrom (s.heap.objs.size+1) scope.names []).lookup y.1).isSome=true):=fun⟨n,v⟩ hy=>by
  rcases S.par n (List.of_mem_zip hy).1 with q | q
  ·exact .inl q
  ·exact .inr ⟨q,PySem.W.cellsFrom_some _ _ _ (.inl q)⟩
 refine codeAny_call_function hr.depth (KX _ _ lk) rfl S.co S.gen rfl (PySem.W.codeRec_of KX hcd) (hb _ _ _ _ ?_)
 refine wpAny_newFunctionEnv_cells S.kind hkind fun env he s1 x=>?_
 subst he
 refine⟨lim.keeps x.toInCall.keep,codeAny_func ?_⟩
 obtain⟨t,ht,hq⟩:=hbody A outer s H vs Q E (hr.deeper _) hsp
 have I:Inv (WY CX P w K mg base N qual scope f cdv A outer s H E) [] (start N vs) H s1:=Z6 S hr.hd e0 hl r x
 refine wpAny_mono (ht [] s1 (start N vs) H _ I hq) (fun fl s' hs=>?_) fun e s' hs=>hs
 have fin:∀ {σ':St}{H':Hp}{v:V}{u:Value},Inv (WY CX P w K mg base N qual scope f cdv A outer s H E) [] σ' H' s'→RelV v u→Q v H'→CE outer P w H s Q u s' :=
  fun {σ' H' v u} J rv q=>⟨v,H',J.os,J.bare,J.base,J.hok,rv,q⟩
 cases fl with
 |ret u =>
  obtain⟨v,σ',H',J,rv,q⟩:=hs
  exact fin J rv q
 |next =>
  obtain⟨σ',H',J,q⟩:=hs
  exact fin (v:=V.non) (u:=Value.none) J rfl q
 |brk =>
  obtain⟨_,_,_,q⟩:=hs
  exact False.elim q
 |cont =>
  obtain⟨_,_,_,q⟩:=hs
  exact False.elim q
section
variable {X:Cx}{x:Str}{p pos:Pos}{e:Expr}{es:List Expr}{t:TA}{id T:String}{r:List V→Hp→VK→Prop}
def tCB (r:List V→Hp→VK→Prop) (t:TA):TE:=fun σ H Q=>t σ H fun vs H1=>r vs H1 Q
theorem ya (hc:yY X (.builtin id) r) (hg:Gl X x) (hm:X.mg x=none) (hv:bootBuiltins x=some (.builtin id)) (ha:PA X (e::es) t) (hn:x ≠ "__name__" := by decide) (hdb:(x == ("__debug__" : Str))=false:=by decide)
  (he:starEach (e::es) X.env=(false,eval e X.env)::starEach es X.env:=by rfl) (hpl:(backTo pos (starEach es X.env)).any (·.1)=false:=by rfl):PE X (.Call (.Name x p) (e::es) [] pos) (tCB r t):=by
 intro pins s σ H Q I h
 refine wpAny_Call_Name_kw (ld_blt I hg hm hv ?_ hn hdb)
 exact PyProof.Rows.callWith_builtin1 (thn (ha pos pins s σ H _ I h) fun us s1 ⟨vs,H1,I1,r1,q1⟩=>hc pins s1 σ H1 vs us Q I1 r1 q1) he hpl
theorem wQ (hc:yY X (.type T) r) (hg:Gl X x) (hm:X.mg x=none) (hv:bootBuiltins x=some (.type T)) (ha:PA X (e::es) t) (hn:x ≠ "__name__" := by decide) (hdb:(x == ("__debug__" : Str))=false:=by decide)
  (he:starEach (e::es) X.env=(false,eval e X.env)::starEach es X.env:=by rfl) (hpl:(backTo pos (starEach es X.env)).any (·.1)=false:=by rfl):PE X (.Call (.Name x p) (e::es) [] pos) (tCB r t):=by
 intro pins s σ H Q I h
 refine wpAny_Call_Name_kw (ld_blt I hg hm hv ?_ hn hdb)
 exact PyProof.Rows.callWith_type1 (thn (ha pos pins s σ H _ I h) fun us s1 ⟨vs,H1,I1,r1,q1⟩=>hc pins s1 σ H1 vs us Q I1 r1 q1) he hpl
end
end L2
namespace HT
open PySem PyProof.Rows
section
variable {prog:Program}{w:World}{A:Around}{E:Value→Shared→Prop}{s:Shared}
def sIx (n d:Nat):Option Int→Nat
 |none=>d
 |some v=>if v<0 then(v+(n:Int)).toNat else min v.toNat n
end
end HT
namespace L2
open PySem PySem.Spec PyProof.Rows
abbrev TO:=St→Hp→(Option Int→Hp→Prop)→Prop
def PO (X:Cx) (e:Option Expr) (t:TO):Prop :=
 ∀ (pins:List (Addr×Obj)) (s:Shared) (σ:St) (H:Hp) (Q:Option Int→Hp→Prop),Inv X pins σ H s→t σ H Q →
  wpAny (model X.prog X.w) X.A (evalPart e X.env) (fun u s'=>∃ o H',Inv X pins σ H' s'∧IsPart u o∧Q o H') X.xe s
def uP:TO:=fun _ H Q=>Q none H
def Vc (t:TE):TO:=fun σ H Q=>t σ H fun x H1=>∃ i,x=.int i∧Q (some i) H1
section
variable {X:Cx}{e:Expr}{te:TE}{lo hi:Option Expr}{tl th:TO}{pos p2:Pos}
theorem Wl:PO X none uP:=by
 intro pins s σ H Q I h
 rw[evalPart_none]
 exact wpAny_pure ⟨none,H,I,.none,h⟩
theorem po_some (h:PE X e te):PO X (some e) (Vc te):=by
 intro pins s σ H Q I hw
 rw[evalPart_some]
 refine thn (h pins s σ H _ I hw) fun u s1 hq0=>?_
 obtain⟨x,H1,I1,r1,q1⟩:=hq0
 obtain⟨i,rfl,q⟩:=q1
 obtain⟨t,rfl⟩:=r1
 exact⟨some i,H1,I1,.int i t,q⟩
def SlR (X:Cx) (r:V→Option Int→Option Int→Hp→VK→Prop):Prop :=
 ∀ (pins:List (Addr×Obj)) (s:Shared) (σ:St) (H:Hp) (x:V) (v vl vu:Value) (lo hi:Option Int) (sl:Addr) (Q:VK),Inv X pins σ H s→RelV x v→s.heap.IsSliceOf sl vl vu .none→IsPart vl lo→IsPart vu hi→r x lo hi H Q →
  ∃ T id,typeLookup (.type T) "__getitem__" = pure (some (.builtin id))∧s.TypeIs v T∧wpAny (model X.prog X.w) X.A (getItem v (.ref sl)) (EP X pins σ Q) X.xe s
def tSl (r:V→Option Int→Option Int→Hp→VK→Prop) (te:TE) (tl th:TO):TE:=fun σ H Q=>te σ H fun x H1=>tl σ H1 fun l H2=>th σ H2 fun u H3=>r x l u H3 Q
theorem YK {r:V→Option Int→Option Int→Hp→VK→Prop}(hr:SlR X r) (he:PE X e te) (hl:PO X lo tl) (hu:PO X hi th):PE X (.Subscript e (.Slice lo hi none p2) pos) (tSl r te tl th):=by
 intro pins s σ H Q I h
 refine Subscript_ (thn (he pins s σ H _ I h) fun v s1 hq0=>?_)
 obtain⟨x,H1,I1,r1,q1⟩:=hq0
 refine wpAny_Slice (thn (hl pins s1 σ H1 _ I1 q1) fun vl s2 ⟨l,H2,I2,pl,q2⟩=>thn (hu pins s2 σ H2 _ I2 q2) fun vu s3 hq0=>?_)
 obtain⟨u,H3,I3,pu,q3⟩:=hq0
 rw[evalPart_none]
 refine wpAny_pure ?_
 have I4:Inv X pins σ H3 { s3 with heap:=s3.heap.push { cls:=.type "slice",data:=.fields #[vl,vu,.none] } }:=I3.kept (t':=s3.toks) fun b ob q=>Heap.get?_push_of_some _ q
 obtain⟨T,id,hT,ht,hg⟩:=hr pins { s3 with heap:=s3.heap.push { cls:=.type "slice",data:=.fields #[vl,vu,.none] } } σ H3 x v vl vu l u s3.heap.objs.size Q I4 r1 (Heap.IsSliceOf.new ..) pl pu q3
 show wpAny (model X.prog X.w) X.A (subscriptTail e (.Slice lo hi none p2) v (.ref s3.heap.objs.size)) (EP X pins σ Q) X.xe { s3 with heap:=s3.heap.push { cls:=.type "slice",data:=.fields #[vl,vu,.none] } }
 exact tail_any (ops:=[.ref s3.heap.objs.size,v]) ht hT hg (by with_unfolding_all rfl)
def cutV (xs:List V) (lo hi:Option Int):List V:=(xs.drop (HT.sIx xs.length 0 lo)).take (HT.sIx xs.length xs.length hi-HT.sIx xs.length 0 lo)
theorem yy (xs:List V) (lo hi:Option Int):(cutV xs lo hi).length≤xs.length:=by
 unfold cutV
 rw[List.length_take,List.length_drop]
 omega
end
def ixN (n:Nat) (i:Int):Option Nat:=if 0≤i then(if i<n then some i.toNat else none) else if -(n:Int)≤i then some (i+n).toNat else none
def atI {α:Type}(xs:List α) (i:Int):Option α:=(ixN xs.length i).bind fun j=>xs[j]?
theorem WD {n:Nat}{i:Int}{j:Nat}(h:ixN n i=some j):seqIndex? i n=some j∧j<n∧-(n:Int)≤i∧i<n:=by
 unfold ixN at h
 by_cases h0:0≤i
 ·rw[if_pos h0] at h
  by_cases h1:i<n
  ·rw[if_pos h1] at h
   have e:i.toNat=j:=Option.some.inj h
   exact⟨by rw[seqIndex_of h0 h1,e],by omega,by omega,h1⟩
  ·rw[if_neg h1] at h;cases h
 ·rw[if_neg h0] at h
  by_cases h1 : -(n:Int)≤i
  ·rw[if_pos h1] at h
   have e:(i+n).toNat=j:=Option.some.inj h
   exact⟨by rw[seqIndex_neg (by omega) h1,e],by omega,h1,by omega⟩
  ·rw[if_neg h1] at h;cases h
theorem Yp {α:Type}{xs:List α}{i:Int}{v:α}(h:atI xs i=some v):∃ j,seqIndex? i xs.length=some j∧xs[j]?=some v∧j<xs.length∧-(xs.length:Int)≤i∧i<xs.length:=by
 unfold atI at h
 cases e:ixN xs.length i with
 |none=>rw[e] at h;cases h
 |some j =>
  rw[e] at h
  obtain⟨h1,h2,h3,h4⟩:=WD e
  exact⟨j,h1,h,h2,h3,h4⟩
theorem xQ {α:Type}{xs:List α}{j:Nat}{v:α}(h:xs[j]?=some v):atI xs (j:Int)=some v:=by
 have hj:j<xs.length:=(List.getElem?_eq_some_iff.mp h).1
 have e:ixN xs.length (j:Int)=some j:=by
  unfold ixN
  rw[if_pos (by omega),if_pos (by omega)];simp
 unfold atI;rw[e];exact h
def Yt (b:Expr):Prop:=∀ o i,subscripted b false o i=operate [o,i] (getItem o i)
def IxR (X:Cx) (r:R2):Prop :=
 ∀ (value slice:Expr) (pins:List (Addr×Obj)) (s:Shared) (σ:St) (H:Hp) (x y:V) (v u:Value) (Q:VK),Inv X pins σ H s→RelV x v→RelV y u→r x y H Q →
  subscripted slice false v u=operate [v,u] (getItem v u)→wpAny (model X.prog X.w) X.A (subscriptTail value slice v u) (EP X pins σ Q) X.xe s
def MtR (X:Cx) (id:String) (r:V→List V→Hp→VK→Prop):Prop :=
 ∀ (pins:List (Addr×Obj)) (s:Shared) (σ:St) (H:Hp) (x:V) (xs:List V) (v:Value) (us:List Value) (Q:VK),Inv X pins σ H s→RelV x v→Vals xs us→r x xs H Q →
  wpAny (model X.prog X.w) X.A (call (.builtin id) (v::us)) (EP X pins σ Q) X.xe s
section
variable {X:Cx}{a b:Expr}{ta tb:TE}{pos:Pos}
theorem vn {r:R2}(hr:IxR X r) (ha:PE X a ta) (hb:PE X b tb) (hs:Yt b):PE X (.Subscript a b pos) (tOp r ta tb):=by
 intro pins s σ H Q I h
 exact Subscript_ (binT ha hb I h fun v u s2 x y H2 I2 rx ry q=>hr a b pins s2 σ H2 x y v u Q I2 rx ry q (hs _ _))
def zhR (K:PySem.W.Frag):R2:=fun x y H Q=>∃ p xs i v,x=.ref p∧y=.int i∧SqL K H p xs∧atI xs i=some v∧Q v H
def zhQ (K:PySem.W.Frag):R2:=fun x y H Q=>∃ p xs i v,x=.ref p∧y=.int i∧SqT K H p xs∧atI xs i=some v∧Q v H
theorem z7:IxR X (zhR X.K):=by
 intro value slice pins s σ H x y v u Q I rx ry h hs
 obtain⟨p,xs,i,z,rfl,rfl,hq,he,q⟩:=h
 cases rx
 obtain⟨t,rfl⟩:=ry
 obtain⟨its,r,pl,hz⟩:=I.list hq
 obtain⟨j,h1,h2,h3,h4,h5⟩:=Yp he
 obtain⟨w,ew,rw'⟩:=r.get h2
 have hl:=r.length
 have hn:=ZV
 have fin:EP X pins σ Q w s:=⟨z,H,I,rw',q⟩
 by_cases h0:0≤i
 ·have hj:i.toNat=j:=by
   rw[seqIndex_of h0 h5] at h1
   exact Option.some.inj h1
  exact item_listR pl.isList h0 (by omega) (by rw[hj];simpa using ew) fin hs
 ·have hj:(i+(its.toArray.size:Int)).toNat=j:=by
   rw[seqIndex_neg (by omega) h4] at h1
   rw[List.size_toArray,← hl]
   exact Option.some.inj h1
  exact subscriptTail_builtinR (x:=w) pl.isList.typeIs slot_list_getitem.lookup
   (wpAny_getItem_list_neg (Q:=fun r s'=>r=w∧EP X pins σ Q r s') pl.isList (by omega) (by rw[List.size_toArray]<;>omega) (by omega) (by rw[hj];simpa using ew) ⟨rfl,fin⟩) hs
theorem zP:IxR X (zhQ X.K):=by
 intro value slice pins s σ H x y v u Q I rx ry h hs
 obtain⟨p,xs,i,z,rfl,rfl,hq,he,q⟩:=h
 cases rx
 obtain⟨t,rfl⟩:=ry
 obtain⟨its,r,pl,hz⟩:=I.tuple hq
 obtain⟨j,h1,h2,h3,h4,h5⟩:=Yp he
 obtain⟨w,ew,rw'⟩:=r.get h2
 have hl:=r.length
 have hn:=ZV
 have fin:EP X pins σ Q w s:=⟨z,H,I,rw',q⟩
 exact subscriptTail_builtinR (x:=w) pl.typeIs slot_tuple_getitem.lookup
  (getItem_tuple (j:=j) (Q:=fun r s'=>r=w∧EP X pins σ Q r s') pl (by omega) (by omega) (by rw[List.size_toArray,← hl];exact h1) (by simpa using ew) ⟨rfl,fin⟩) hs
theorem wK (lo hi:Option Int) (n:Nat):(sliceBounds lo hi none n).1=((HT.sIx n 0 lo:Nat):Int)∧(sliceBounds lo hi none n).2.1=((HT.sIx n n hi:Nat):Int)∧(sliceBounds lo hi none n).2.2=1:=by
 refine⟨?_,?_,rfl⟩
 ·cases lo with
  |none=>simp[sliceBounds,HT.sIx]
  |some i =>
   simp only[sliceBounds,HT.sIx,Option.getD_none,show(1:Int)>0 by decide,if_true]
   by_cases h:i<0
   ·simp only[h,if_true]<;>omega
   ·simp only[h,if_false]<;>omega
 ·cases hi with
  |none=>simp[sliceBounds,HT.sIx]
  |some i =>
   simp only[sliceBounds,HT.sIx,Option.getD_none,show(1:Int)>0 by decide,if_true]
   by_cases h:i<0
   ·simp only[h,if_true]<;>omega
   ·simp only[h,if_false]<;>omega
theorem wn (its:List Value) (lo hi:Option Int):slicePick its.toArray lo hi none=((its.drop (HT.sIx its.length 0 lo)).take (HT.sIx its.length its.length hi-HT.sIx its.length 0 lo)).toArray:=by
 obtain⟨h1,h2,h3⟩:=wK lo hi its.toArray.size
 unfold slicePick
 rw[h1,h2,h3]
 simp only[sliceRange_one,pick_run,List.size_toArray]<;>rfl
def zhP (K:PySem.W.Frag):V→Option Int→Option Int→Hp→VK→Prop:=fun x lo hi H Q=>∃ a xs,x=.ref a∧SqL K H a xs∧∀ p,H p=none→Q (.ref p) (upd H p (.lst (cutV xs lo hi)))
theorem vj:SlR X (zhP X.K):=by
 intro pins s σ H x v vl vu lo hi sl Q I rx hs pl pu h
 obtain⟨a,xs,rfl,hx,q⟩:=h
 cases rx
 obtain⟨its,r,ht,hz⟩:=I.list hx
 have hlen:=r.length
 refine⟨"list",_,slot_list_getitem.lookup,ht.isList.typeIs,?_⟩
 refine wpAny_getItem_list_slice ht.isList hs pl pu .none (by simp) ?_ (by rw[List.size_toArray]<;>omega)
 rw[wn,← hlen]
 refine⟨.ref s.heap.objs.size,_,I.laid (t':=s.toks) (o:=.lst (cutV xs lo hi)) (fun b ob q=>Heap.get?_push_of_some _ q) (Nat.le_refl _) ?_,rfl,q _ (I.hok.fresh (Nat.le_refl _))⟩
 exact⟨Nat.le_trans (yy xs lo hi) hz,_,0,(r.drop (HT.sIx xs.length 0 lo)).take (HT.sIx xs.length xs.length hi-HT.sIx xs.length 0 lo),Heap.get?_push_size _ rfl⟩
def xO:V→Bool
 |.non=>true
 |.bl _=>true
 |.int _=>true
 |.str _=>true
 |_=>false
def eqV:V→V→Bool
 |.non,.non=>true
 |.bl a,.bl b=>a == b
 |.bl a,.int b=>(if a then 1 else 0) == b
 |.int a,.bl b=>a == (if b then 1 else 0)
 |.int a,.int b=>a == b
 |.str a,.str b=>a == b
 |_,_=>false
theorem eqAt_V {A:Around}{s:Shared}{y x:V}{u v:Value}(ry:RelV y u) (rx:RelV x v) (fy:xO y=true) (fx:xO x=true):SeqAt.EqAt A s u v (eqV y x):=by
 cases y with
 |non =>
  cases ry
  cases x with
  |non=>cases rx;exact SeqAt.EqAt.same _
  |bl b=>cases rx;exact SeqAt.EqAt.none_bool b
  |int b=>obtain⟨t,rfl⟩:=rx;exact SeqAt.EqAt.none_int b t
  |str b=>obtain⟨t,rfl⟩:=rx;exact SeqAt.EqAt.none_str b t
  |_=>exact absurd (show false=true from fx) Bool.false_ne_true
 |bl a =>
  cases ry
  cases x with
  |non=>cases rx;exact SeqAt.EqAt.bool_none a
  |bl b=>cases rx;exact SeqAt.EqAt.bool_bool a b
  |int b=>obtain⟨t,rfl⟩:=rx;exact SeqAt.EqAt.bool_int a b t
  |str b=>obtain⟨t,rfl⟩:=rx;exact SeqAt.EqAt.bool_str a b t
  |_=>exact absurd (show false=true from fx) Bool.false_ne_true
 |int a =>
  obtain⟨t',rfl⟩:=ry
  cases x with
  |non=>cases rx;exact SeqAt.EqAt.int_none a t'
  |bl b=>cases rx;exact SeqAt.EqAt.int_bool a t' b
  |int b=>obtain⟨t,rfl⟩:=rx;exact SeqAt.EqAt.int_int a t' b t
  |str b=>obtain⟨t,rfl⟩:=rx;exact SeqAt.EqAt.int_str a t' b t
  |_=>exact absurd (show false=true from fx) Bool.false_ne_true
 |str a =>
  obtain⟨t',rfl⟩:=ry
  cases x with
  |non=>cases rx;exact SeqAt.EqAt.str_none a t'
  |bl b=>cases rx;exact SeqAt.EqAt.str_bool a t' b
  |int b=>obtain⟨t,rfl⟩:=rx;exact SeqAt.EqAt.str_int a t' b t
  |str b=>obtain⟨t,rfl⟩:=rx;exact SeqAt.EqAt.str_str a t' b t
  |_=>exact absurd (show false=true from fx) Bool.false_ne_true
 |_=>exact absurd (show false=true from fy) Bool.false_ne_true
def eqU (x:V) (u:Value):Bool:=match u with
 |.none=>eqV .non x
 |.bool b=>eqV (.bl b) x
 |.int i _=>eqV (.int i) x
 |.str z _=>eqV (.str z) x
 |_=>false
theorem XR {x y:V}{u:Value}(r:RelV y u) (f:xO y=true):eqU x u=eqV y x:=by
 cases y with
 |non=>cases r;rfl
 |bl b=>cases r;rfl
 |int i=>obtain⟨t,rfl⟩:=r;rfl
 |str z=>obtain⟨t,rfl⟩:=r;rfl
 |_=>exact absurd (show false=true from f) Bool.false_ne_true
theorem xR {x:V}:∀ {xs:List V}{us:List Value},Vals xs us→xs.all xO=true→us.any (eqU x)=xs.any fun y=>eqV y x
 |_,_,.nil,_=>rfl
 |y::xs,u::us,.cons r t,f=>by
  rw[List.all_cons,Bool.and_eq_true] at f
  rw[List.any_cons,List.any_cons,XR r f.1,xR t f.2]
theorem xg {A:Around}{s:Shared}{x:V}{v:Value}(rx:RelV x v) (fx:xO x=true):∀ {xs:List V}{us:List Value},Vals xs us→xs.all xO=true→∀ u∈us,SeqAt.EqAt A s u v (eqU x u)
 |_,_,.nil,_=>fun u hu=>by cases hu
 |y::xs,u::us,.cons r t,f=>fun u' hu=>by
  rw[List.all_cons,Bool.and_eq_true] at f
  rcases List.mem_cons.mp hu with rfl | hu
  ·rw[XR r f.1];exact eqAt_V r rx f.1 fx
  ·exact xg rx fx t f.2 u' hu
def inV (x:V) (xs:List V):Bool:=xs.any fun y=>eqV y x
def rIn (K:PySem.W.Frag) (neg:Bool):R2:=fun x y H Q=>∃ p xs,y=.ref p∧(SqL K H p xs∨SqT K H p xs)∧xO x=true∧xs.all xO=true∧Q (.bl (if neg then !inV x xs else inV x xs)) H
theorem xb:OpR X (compareOp .In) (rIn X.K false):=by
 intro pins s σ H x y v u Q I rx ry h
 obtain⟨p,xs,rfl,hq,fx,fs,q⟩:=h
 cases ry
 rcases hq with hq | hq
 ·obtain⟨its,r,pl,hz⟩:=I.list hq
  refine SeqAt.in_listAt (eqU x) pl.isList (fun w hw=>xg rx fx r fs w (by simpa using hw)) ⟨.bl _,H,I,rfl,?_⟩
  rw[show its.toArray.any (eqU x)=its.any (eqU x) by simp,xR r fs]
  exact q
 ·obtain⟨its,r,pl,hz⟩:=I.tuple hq
  refine SeqAt.in_tupleAt (eqU x) pl (fun w hw=>xg rx fx r fs w (by simpa using hw)) ⟨.bl _,H,I,rfl,?_⟩
  rw[show its.toArray.any (eqU x)=its.any (eqU x) by simp,xR r fs]
  exact q
theorem yG:OpR X (compareOp .NotIn) (rIn X.K true):=by
 intro pins s σ H x y v u Q I rx ry h
 obtain⟨p,xs,rfl,hq,fx,fs,q⟩:=h
 cases ry
 rcases hq with hq | hq
 ·obtain⟨its,r,pl,hz⟩:=I.list hq
  refine SeqAt.notIn_listAt (eqU x) pl.isList (fun w hw=>xg rx fx r fs w (by simpa using hw)) ⟨.bl _,H,I,rfl,?_⟩
  rw[show its.toArray.any (eqU x)=its.any (eqU x) by simp,xR r fs]
  exact q
 ·obtain⟨its,r,pl,hz⟩:=I.tuple hq
  refine SeqAt.notIn_tupleAt (eqU x) pl (fun w hw=>xg rx fx r fs w (by simpa using hw)) ⟨.bl _,H,I,rfl,?_⟩
  rw[show its.toArray.any (eqU x)=its.any (eqU x) by simp,xR r fs]
  exact q
theorem zw:yY X (.builtin "len") (fun xs H Q=>∃ p ys,xs=[.ref p]∧(SqL X.K H p ys∨SqT X.K H p ys)∧Q (.int ys.length) H):=by
 intro pins s σ H xs us Q I r h
 obtain⟨p,ys,rfl,hq,q⟩:=h
 obtain⟨u,rfl,rx⟩:=Yz r
 cases rx
 have hn:=ZV
 rcases hq with hq | hq
 ·obtain⟨its,r',pl,hz⟩:=I.list hq
  have hlen:=r'.length
  exact Calls.call_len_list pl.isList (by simp only[List.size_toArray]<;>omega) ⟨.int ys.length,H,I.tok _,⟨s.toks+1,by rw[List.size_toArray,hlen]⟩,q⟩
 ·obtain⟨its,r',pl,hz⟩:=I.tuple hq
  have hlen:=r'.length
  exact len_tuple pl (by simp only[List.size_toArray]<;>omega) ⟨.int ys.length,H,I.tok _,⟨s.toks+1,by rw[List.size_toArray,hlen]⟩,q⟩
theorem yJ:yY X (.type "list") (fun xs H Q=>∃ p ys,xs=[.ref p]∧(SqL X.K H p ys∨SqT X.K H p ys)∧∀ l,H l=none→Q (.ref l) (upd H l (.lst ys))):=by
 intro pins s σ H xs us Q I r h
 obtain⟨p,ys,rfl,hq,q⟩:=h
 obtain⟨u,rfl,rx⟩:=Yz r
 cases rx
 have fin:∀ (its:List Value),Vals ys its→ys.length≤sizeLine→∀ (h':Heap) (c':Nat),(∀ b o',s.heap.get? b=some o'→h'.get? b=some o') →
   h'.get? s.heap.objs.size=some { cls:=.type "list",dict:=none,data:=.seq its.toArray c',slots:=#[] }→EP X pins σ Q (.ref s.heap.objs.size) { s with heap:=h' }:=fun its r' hz h' c' kp e =>
  ⟨.ref s.heap.objs.size,_,I.laid (t':=s.toks) kp (Nat.le_refl _) (show ObjOk X.prog X.w _ h' _ (.lst ys) from⟨hz,its,c',r',e⟩),rfl,q _ (I.hok.fresh (Nat.le_refl _))⟩
 rcases hq with hq | hq
 ·obtain⟨its,r',pl,hz⟩:=I.list hq
  have hlen:=r'.length
  obtain⟨o,ho,hc,n,hd⟩:=pl.isList
  exact call_list_seq p (.inl rfl) ho hc hd (fun h' c' kp e=>fin its r' hz h' c' kp e) (by simp only[List.size_toArray]<;>omega)
 ·obtain⟨its,r',pl,hz⟩:=I.tuple hq
  have hlen:=r'.length
  obtain⟨o,ho,hc,n,hd⟩:=pl
  exact call_list_seq p (.inr rfl) ho hc hd (fun h' c' kp e=>fin its r' hz h' c' kp e) (by simp only[List.size_toArray]<;>omega)
theorem yz:yY X (.type "tuple") (fun xs H Q=>∃ p ys,xs=[.ref p]∧((SqL X.K H p ys∧∀ l,H l=none→Q (.ref l) (upd H l (.tup ys)))∨(SqT X.K H p ys∧Q (.ref p) H))):=by
 intro pins s σ H xs us Q I r h
 obtain⟨p,ys,rfl,h⟩:=h
 obtain⟨u,rfl,rx⟩:=Yz r
 cases rx
 rcases h with⟨hq,q⟩ | ⟨hq,q⟩
 ·obtain⟨its,r',pl,hz⟩:=I.list hq
  have hlen:=r'.length
  refine call_tuple_list pl.isList (fun h' kp=>?_) (by simp only[List.size_toArray]<;>omega)
  have I1:Inv X pins σ H { s with heap:=h' }:=I.kept (t':=s.toks) kp
  have I2:Inv X pins σ (upd H h'.objs.size (.tup ys)) { s with heap:=h'.push { cls:=.type "tuple",data:=.seq its.toArray } } :=
   I1.laid (t':=s.toks) (fun b o e=>Heap.get?_push_of_some _ e) (Nat.le_refl _) (show ObjOk X.prog X.w _ _ _ (.tup ys) from⟨hz,its,r',IsTup.new _ _⟩)
  exact⟨.ref h'.objs.size,_,I2,rfl,q _ (I1.hok.fresh (Nat.le_refl _))⟩
 ·obtain⟨its,r',pl,hz⟩:=I.tuple hq
  exact call_tuple_same pl ⟨.ref p,H,I,rfl,q⟩
def tyV (K:PySem.W.Frag) (T:String) (x:V) (H:Hp):Prop:=match x with
 |.str _=>T = "str"
 |.int _=>T = "int"
 |.ref p=>(T = "list" ∧ ∃ xs,SqL K H p xs)∨(T = "tuple" ∧ ∃ o,K.lookup p=some o∧o.cls=.type "tuple" ∧ o.dict=none) ∨
   (T = "dict" ∧ ((∃ kvs,H p=some (.dK kvs))∨∃ kvs,H p=some (.dT kvs)))∨(T = "set" ∧ ∃ S n,H p=some (.set S n))
 |_=>False
theorem W5 {pins:List (Addr×Obj)}{σ:St}{H:Hp}{s:Shared}{T:String}{x:V}{v:Value}(I:Inv X pins σ H s) (r:RelV x v) (ty:tyV X.K T x H) :
  s.TypeIs v T∧∀ a,v=.ref a→∃ ob,s.heap.get? a=some ob∧ob.dict=none:=by
 cases x with
 |str z =>
  obtain⟨t,rfl⟩:=r
  cases (show T = "str" from ty)
  exact⟨typeIs_str s z t,fun _ e=>nomatch e⟩
 |int i =>
  obtain⟨t,rfl⟩:=r
  cases (show T = "int" from ty)
  exact⟨typeIs_int s i t,fun _ e=>nomatch e⟩
 |ref p =>
  cases r
  rcases ty with⟨rfl,xs,hq⟩ | ⟨rfl,o,hk,hc,hd⟩ | ⟨rfl,hk⟩ | ⟨rfl,S,n,hk⟩
  ·obtain⟨its,_,pl,_⟩:=I.list hq
   refine⟨pl.isList.typeIs,fun a e=>?_⟩
   cases e
   obtain⟨o,n,e,c,hd,_⟩:=pl
   exact⟨o,e,hd⟩
  ·refine⟨⟨o,I.kIn p o hk,hc⟩,fun a e=>?_⟩
   cases e
   exact⟨o,I.kIn _ o hk,hd⟩
  ·have z:∃ o,s.heap.get? p=some o∧o.ExactDict:=by
    rcases hk with⟨kvs,hk⟩ | ⟨kvs,hk⟩
    ·obtain⟨_,_,_,_,o,_,_,e,ex,_⟩:=I.hok p _ hk
     exact⟨o,e,ex⟩
    ·obtain⟨_,_,_,_,o,_,_,e,ex,_⟩:=I.hok p _ hk
     exact⟨o,e,ex⟩
   obtain⟨o,e,ex⟩:=z
   refine⟨⟨o,e,ex.1⟩,fun a e2=>?_⟩
   cases e2
   exact⟨o,e,ex.2.1⟩
  ·obtain⟨o,_,_,_,e,ex,_⟩:=I.hok p _ hk
   refine⟨⟨o,e,ex.1⟩,fun a e2=>?_⟩
   cases e2
   exact⟨o,e,ex.2.1⟩
 |_=>exact False.elim ty
def tBM (K:PySem.W.Frag) (T:String) (r:V→List V→Hp→VK→Prop) (to:TE) (t:TA):TE:=fun σ H Q=>to σ H fun x H1=>tyV K T x H1∧t σ H1 fun xs H2=>r x xs H2 Q
variable {o e:Expr}{es:List Expr}{to:TE}{t:TA}{name:Str}{apos cpos:Pos}{T id:String}{r:V→List V→Hp→VK→Prop}
theorem Ws (pa:PlainAttrs T) (slot:Slot T name id) (hty:typeOf (.builtin id)=pure (.type "method_descriptor")) (hm:MtR X id r) (ho:PE X o to) (ha:PA X (e::es) t)
  (hbase:attributeBase o name X.env (eval o X.env)=eval o X.env:=by rfl)
  (hfew:((backTo cpos (starEach (e::es) X.env)).all (fun x=>!x.1)&&(backToKw cpos (keywordEach [] X.env)).all (fun x=>x.1.isSome)
   && decide ((e::es).length+([]:List Keyword).length+(if ([]:List Keyword).isEmpty then 0 else 1)<30))=true:=by rfl)
  (hline:(apos.endLine == cpos.line)=true:=by rfl) (hs:starEach (e::es) X.env=(false,eval e X.env)::starEach es X.env:=by rfl) (hplain:(backTo cpos (starEach es X.env)).any (·.1)=false:=by rfl) :
  PE X (.Call (.Attribute o name apos) (e::es) [] cpos) (tBM X.K T r to t):=by
 intro pins s σ H Q I h
 refine wpAny_Call_method_late hbase hfew hline rfl (thn (ho pins s σ H _ I h) fun v s1 hq0=>?_)
 obtain⟨x,H1,I1,r1,ty,q1⟩:=hq0
 obtain⟨h1,h2⟩:=W5 I1 r1 ty
 refine⟨T,id,pa,slot,hty,h1,h2,?_⟩
 have hA:=ha cpos pins s1 σ H1 _ I1 q1
 rw[hs] at hA ⊢
 refine Calls.callWith_builtin (by show(false||(backTo cpos (starEach es X.env)).any (·.1))=false;rw[hplain]<;>rfl) (Calls.evalArgs_plain ?_)
 exact thn hA fun us s2 ⟨vs,H2,I2,r2,q2⟩=>hm pins s2 σ H2 x vs v us Q I2 r1 r2 q2
end
def MtM (X:Cx) (id:String) (r:V→List V→Hp→VK→Prop):Prop :=
 ∀ (pins:List (Addr×Obj)) (s:Shared) (σ:St) (H:Hp) (x:V) (xs:List V) (v:Value) (us:List Value) (Q:VK),Inv X pins σ H s→RelV x v→Vals xs us→r x xs H Q →
  wpAny (model X.prog X.w) X.A (call (.builtin id) (v::us)) (EP X pins σ Q) X.xe s
theorem Vals.one:∀ {x:V}{us:List Value},Vals [x] us→∃ u,us=[u]∧RelV x u
 |_,_,.cons r .nil=>⟨_,rfl,r⟩
theorem Vals.two:∀ {x y:V}{us:List Value},Vals [x,y] us→∃ u v,us=[u,v]∧RelV x u∧RelV y v
 |_,_,_,.cons r (.cons q .nil)=>⟨_,_,rfl,r,q⟩
theorem Vals.eraseIdx:∀ {xs:List V}{us:List Value}(i:Nat),Vals xs us→Vals (xs.eraseIdx i) (us.eraseIdx i)
 |_,_,_,.nil=>.nil
 |_,_,0,.cons _ t=>t
 |_,_,i+1,.cons r t=>.cons r (Vals.eraseIdx i t)
theorem wV {α:Type}:∀ (l:List α) (i:Nat),(l.eraseIdx i).length≤l.length
 |[],_=>Nat.le_refl _
 |_::_,0=>Nat.le_succ _
 |_::r,i+1=>Nat.succ_le_succ (wV r i)
section
variable {X:Cx}{pins:List (Addr×Obj)}{σ:St}{H:Hp}{s:Shared}{l b:Addr}{xs ys zs:List V}
theorem Inv.lset {its its':List Value}{n:Nat}{f:Array Value→Array Value}{t':Nat}(I:Inv X pins σ H s) (hH:H l=some (.lst xs))
  (e:s.heap.get? l=some { cls:=.type "list",data:=.seq its.toArray n }) (hf:f its.toArray=its'.toArray) (hv:Vals ys its') (hz:ys.length≤sizeLine) :
  Inv X pins σ (upd H l (.lst ys)) { s with heap:=s.heap.update l (Obj.mapSeq f),toks:=t' }:=by
 have q:=PySem.IsL.update e f
 rw[hf] at q
 refine I.write (x:=l) (e:=l) (by rw[hH];exact trivial) (.inl rfl) (fun b' u hb hu=>(Heap.get?_update_other s.heap (Obj.mapSeq f) (Ne.symm hb)).trans hu) ⟨_,q⟩ ?_
 exact⟨hz,its',_,hv,q⟩
theorem Inv.lnew {its:List Value}{t':Nat}(I:Inv X pins σ H s) (hv:Vals ys its) (hz:ys.length≤sizeLine) :
  Inv X pins σ (upd H s.heap.objs.size (.lst ys)) { s with heap:=s.heap.push { cls:=.type "list",data:=.seq its.toArray },toks:=t' } :=
 I.laid (fun _ _ q=>Heap.get?_push_of_some _ q) (Nat.le_refl _) ⟨hz,its,0,hv,Heap.get?_push_size _ rfl⟩
theorem Inv.fresh (I:Inv X pins σ H s):H s.heap.objs.size=none:=I.hok.fresh (Nat.le_refl _)
theorem Inv.lstM (I:Inv X pins σ H s) (hH:H l=some (.lst xs)):xs.length≤sizeLine∧∃ (its:List Value) (n:Nat),Vals xs its∧xs.length=its.length∧s.heap.get? l=some { cls:=.type "list",data:=.seq its.toArray n }:=by
 obtain⟨z,its,n,r,e⟩:=I.hok l _ hH
 exact⟨z,its,n,r,r.length,e⟩
theorem YW {n:Nat}(h:n≤sizeLine):Builtin.List.listTooLong n=false:=by
 unfold Builtin.List.listTooLong
 exact decide_eq_false (by omega)
end
section
variable {X:Cx}
def Wd:V→List V→Hp→VK→Prop:=fun x vs H Q=>∃ l xs y,x=.ref l∧vs=[y]∧H l=some (.lst xs)∧xs.length<sizeLine∧Q .non (upd H l (.lst (xs++[y])))
theorem zQ:MtM X "list.append" Wd:=by
 intro pins s σ H x vs v us Q I rx rv h
 obtain⟨l,xs,y,rfl,rfl,hH,hz,q⟩:=h
 cases rx
 obtain⟨u,rfl,ru⟩:=rv.one
 obtain⟨z,its,n,r,hl,e⟩:=I.lstM hH
 refine call_meets F.slot_list_append ⟨_,e,rfl⟩ F.entry_list_append (F.args_list_append_2 _ _) (PySem.list_append l its.toArray n u (by rw[List.size_toArray];omega)) ⟨e,?_⟩
 refine⟨.non,_,I.lset (its':=its++[u]) hH e (by simp) (r.append (.cons ru .nil)) ?_,rfl,q⟩
 rw[List.length_append,List.length_singleton]
 omega
def Wc:V→List V→Hp→VK→Prop:=fun x vs H Q=>∃ l b xs zs,x=.ref l∧vs=[.ref b]∧H l=some (.lst xs)∧H b=some (.lst zs)∧xs.length+zs.length≤sizeLine∧Q .non (upd H l (.lst (xs++zs)))
theorem V1:MtM X "list.extend" Wc:=by
 intro pins s σ H x vs v us Q I rx rv h
 obtain⟨l,b,xs,zs,rfl,rfl,hH,hB,hz,q⟩:=h
 cases rx
 obtain⟨u,rfl,ru⟩:=rv.one
 cases ru
 obtain⟨z,its,n,r,hl,e⟩:=I.lstM hH
 obtain⟨z2,its2,n2,r2,hl2,e2⟩:=I.lstM hB
 have hsz:its.toArray.size+its2.toArray.size≤sizeLine:=by rw[List.size_toArray,List.size_toArray];omega
 have hlong:¬ (!its.toArray.isEmpty&&Builtin.List.listTooLong (its.toArray.size+its2.toArray.size))=true:=by
  rw[YW hsz,Bool.and_false]
  exact Bool.false_ne_true
 refine call_meets F.slot_list_extend ⟨_,e,rfl⟩ F.entry_list_extend (F.args_list_extend_2 _ _)
  (AutoSeq1.list_extend_list_list_0 l its.toArray n b its2.toArray n2 hlong (by rw[List.size_toArray];omega) (by omega)) ⟨e,e2,?_⟩
 refine⟨.non,_,I.lset (its':=its++its2) hH e (by simp) (r.append r2) ?_,rfl,q⟩
 rw[List.length_append]
 omega
def Vt:V→List V→Hp→VK→Prop:=fun x vs H Q=>∃ l xs i k y,x=.ref l∧vs=[.int i]∧H l=some (.lst xs)∧-(2 ^ 63)≤i∧i<2 ^ 63∧seqIndex? i xs.length=some k∧xs[k]?=some y∧Q y (upd H l (.lst (xs.eraseIdx k)))
theorem YZ:MtM X "list.pop" Vt:=by
 intro pins s σ H x vs v us Q I rx rv h
 obtain⟨l,xs,i,k,y,rfl,rfl,hH,h1,h2,hk,hy,q⟩:=h
 cases rx
 obtain⟨u,rfl,ru⟩:=rv.one
 obtain⟨t,rfl⟩:=ru
 obtain⟨z,its,n,r,hl,e⟩:=I.lstM hH
 obtain⟨w,hw,rw'⟩:=r.get hy
 refine call_meets F.slot_list_pop ⟨_,e,rfl⟩ F.entry_list_pop (F.args_list_pop_2 _ _)
  (MeetsSeq.list_pop_at l its.toArray n i t k w (fitsIndex_both h1 h2) (by rw[List.size_toArray,← hl];exact hk) (by rw[← Array.getElem?_toList];exact hw) (by rw[List.size_toArray];omega)) ⟨e,?_⟩
 refine⟨y,_,I.lset (its':=its.eraseIdx k) hH e ?_ (r.eraseIdx k) ?_,rw',q⟩
 ·show its.toArray.eraseIdxIfInBounds k=(its.eraseIdx k).toArray
  rw[List.eraseIdxIfInBounds_toArray]
 ·have:=wV xs k
  omega
def zhT:R2:=fun x y H Q=>∃ l b xs zs,x=.ref l∧y=.ref b∧H l=some (.lst xs)∧H b=some (.lst zs)∧xs.length+zs.length≤sizeLine∧∀ p,H p=none→Q (.ref p) (upd H p (.lst (xs++zs)))
theorem ZK:OpR X (binaryOp .Add) zhT:=by
 intro pins s σ H x y v u Q I rx ry h
 obtain⟨l,b,xs,zs,rfl,rfl,hH,hB,hz,q⟩:=h
 cases rx
 cases ry
 obtain⟨z,its,n,r,hl,e⟩:=I.lstM hH
 obtain⟨z2,its2,n2,r2,hl2,e2⟩:=I.lstM hB
 refine PySem.P.add_list e e2 ?_ (by rw[List.size_toArray,List.size_toArray];omega)
 have ea:its.toArray++its2.toArray=(its++its2).toArray:=by simp
 rw[ea]
 exact⟨.ref _,_,I.lnew (t':=s.toks) (r.append r2) (by rw[List.length_append];omega),rfl,q _ I.fresh⟩
end
section
variable {κ:Type} [DecidableEq κ]
def yV (kvs:List (κ×V)) (k:κ):Option V:=(kvs.find? fun kv=>decide (kv.1=k)).map (·.2)
def putK (kvs:List (κ×V)) (k:κ) (v:V):List (κ×V) :=
 if (kvs.any fun kv=>decide (kv.1=k))=true then kvs.map (fun kv=>if kv.1=k then(kv.1,v) else kv) else kvs++[(k,v)]
theorem xy {p:κ×V}{r:List (κ×V)}{k:κ}(e:p.1=k):yV (p::r) k=some p.2:=by simp[yV,List.find?_cons,e]
theorem xz {p:κ×V}{r:List (κ×V)}{k:κ}(e:¬ p.1=k):yV (p::r) k=yV r k:=by simp[yV,List.find?_cons,e]
theorem yM (k:κ):∀ kvs:List (κ×V),(kvs.any fun kv=>decide (kv.1=k))=(yV kvs k).isSome
 |[]=>rfl
 |p::r=>by
  rw[List.any_cons]
  by_cases e:p.1=k
  ·simp only[xy e,decide_eq_true e,Bool.true_or,Option.isSome_some]
  ·rw[xz e,decide_eq_false e,Bool.false_or];exact yM k r
theorem yw (kvs:List (κ×V)) (k:κ) (v:V):(putK kvs k v).length≤kvs.length+1:=by
 unfold putK
 split
 ·rw[List.length_map];omega
 ·rw[List.length_append,List.length_cons,List.length_nil];omega
theorem putK_new {kvs:List (κ×V)}{k:κ}(v:V) (h:yV kvs k=none):putK kvs k v=kvs++[(k,v)]:=by
 unfold putK
 rw[yM,h]
 exact if_neg (by decide)
theorem RelO.isSome_eq {o:Option V}{u:Option Value}(r:RelO o u):o.isSome=u.isSome:=by
 cases o with
 |none=>cases u with
  |none=>rfl
  |some _=>exact(show False from r).elim
 |some _=>cases u with
  |none=>exact(show False from r).elim
  |some _=>rfl
theorem RelO.getD {o:Option V}{u:Option Value}{d:V}{d':Value}(r:RelO o u) (rd:RelV d d'):RelV (o.getD d) (u.getD d'):=by
 cases o with
 |none=>cases u with
  |none=>exact rd
  |some _=>exact(show False from r).elim
 |some _=>cases u with
  |none=>exact(show False from r).elim
  |some _=>exact r
theorem KV.val {kvs:List (κ×V)}{vs:List (κ×Value)}(r:KV kvs vs) (k:κ):RelO (yV kvs k) (valueAt vs k):=by
 unfold KV at r
 induction r with
 |nil=>exact True.intro
 | @cons p q ps qs h t ih =>
  obtain⟨h1,h2⟩:=h
  by_cases e:p.1=k
  ·have e':q.1=k:=h1.symm.trans e
   have b:valueAt (q::qs) k=some q.2:=by simp[valueAt,List.find?_cons,e']
   rw[xy e,b];exact h2
  ·have e':¬ q.1=k:=fun z=>e (h1.trans z)
   have b:valueAt (q::qs) k=valueAt qs k:=by simp[valueAt,List.find?_cons,e']
   rw[xz e,b];exact ih
theorem KV.any {kvs:List (κ×V)}{vs:List (κ×Value)}(r:KV kvs vs) (k:κ):(kvs.any fun kv=>decide (kv.1=k))=vs.any fun kv=>decide (kv.1=k):=by
 unfold KV at r
 induction r with
 |nil=>rfl
 |cons h t ih=>rw[List.any_cons,List.any_cons,ih,h.1]
theorem KV.repl {kvs:List (κ×V)}{vs:List (κ×Value)}(r:KV kvs vs) (k:κ){y:V}{u:Value}(ry:RelV y u) :
  KV (kvs.map fun kv=>if kv.1=k then(kv.1,y) else kv) (vs.map fun kv=>if kv.1=k then(kv.1,u) else kv):=by
 unfold KV at r ⊢
 induction r with
 |nil=>exact .nil
 | @cons p q ps qs h t ih =>
  rw[List.map_cons,List.map_cons]
  refine .cons ?_ ih
  obtain⟨h1,h2⟩:=h
  by_cases e:p.1=k
  ·rw[if_pos e,if_pos (h1.symm.trans e)];exact⟨h1,ry⟩
  ·rw[if_neg e,if_neg (fun z=>e (h1.trans z))];exact⟨h1,h2⟩
theorem KV.put {kvs:List (κ×V)}{vs:List (κ×Value)}(r:KV kvs vs) (k:κ){y:V}{u:Value}(ry:RelV y u):KV (putK kvs k y) (stored vs k u):=by
 unfold putK stored
 rw[r.any k]
 by_cases e:(vs.any fun kv=>decide (kv.1=k))=true
 ·rw[if_pos e,if_pos e];exact r.repl k ry
 ·rw[if_neg e,if_neg e];exact Paired.snoc r ⟨rfl,ry⟩
theorem KV.length {kvs:List (κ×V)}{vs:List (κ×Value)}(r:KV kvs vs):kvs.length=vs.length:=Paired.length r
end
theorem wX {P:Program}{w:World}{k:Key}{u:Value}(r:RelV (kV k) u):(zA P w).is k u=true:=by
 cases k with
 |inl i=>obtain⟨t,e⟩:=(show ∃ t,u=Value.int i t from r);subst e;exact vx P w i t
 |inr x=>obtain⟨t,e⟩:=(show ∃ t,u=Value.str x t from r);subst e;exact vw P w x t
theorem wY {P:Program}{w:World}:∀ {ks:List Key}{us:List Value},Vals (ks.map kV) us→ItemsAre (zA P w) ks us
 |[],_,r=>by rw[List.map_nil] at r;cases r;exact .nil
 |k::ks,_,r=>by
  rw[List.map_cons] at r
  cases r with
  |cons h t=>exact .cons (wX h) (wY t)
abbrev KT (H:Hp):List (List Key×V)→List (List Key×Addr×Value)→Prop:=Paired fun p q=>p.1=q.1∧H q.2.1=some (.tup (p.1.map kV))∧RelV p.2 q.2.2
theorem KT.val {H:Hp}{kvs:List (List Key×V)}{xs:List (List Key×Addr×Value)}(r:KT H kvs xs) (k:List Key):RelO (yV kvs k) ((atKey xs k).map (·.2)):=by
 induction r with
 |nil=>exact True.intro
 | @cons p q ps qs h t ih =>
  obtain⟨h1,_,h2⟩:=h
  by_cases e:p.1=k
  ·have e':q.1=k:=h1.symm.trans e
   have b:atKey (q::qs) k=some q.2:=by simp[atKey,List.find?_cons,e']
   rw[xy e,b];exact h2
  ·have e':¬ q.1=k:=fun z=>e (h1.trans z)
   have b:atKey (q::qs) k=atKey qs k:=by simp[atKey,List.find?_cons,e']
   rw[xz e,b];exact ih
theorem KT.repl {H:Hp}{kvs:List (List Key×V)}{xs:List (List Key×Addr×Value)}(r:KT H kvs xs) (k:List Key){y:V}{u:Value}(ry:RelV y u) :
  KT H (kvs.map fun kv=>if kv.1=k then(kv.1,y) else kv) (xs.map (putAt k u)):=by
 induction r with
 |nil=>exact .nil
 | @cons p q ps qs h t ih =>
  rw[List.map_cons,List.map_cons]
  refine .cons ?_ ih
  obtain⟨h1,h2,h3⟩:=h
  unfold putAt
  by_cases e:p.1=k
  ·rw[if_pos e,if_pos (h1.symm.trans e)];exact⟨h1,h2,ry⟩
  ·rw[if_neg e,if_neg (fun z=>e (h1.trans z))];exact⟨h1,h2,h3⟩
theorem KT.put {H:Hp}{kvs:List (List Key×V)}{xs:List (List Key×Addr×Value)}(r:KT H kvs xs) (k:List Key){b:Addr}{y:V}{u:Value}(hb:H b=some (.tup (k.map kV))) (ry:RelV y u) :
  KT H (putK kvs k y) (storedH xs k b u):=by
 have e:(kvs.any fun kv=>decide (kv.1=k))=(atKey xs k).isSome:=by
  rw[yM,(r.val k).isSome_eq,Option.isSome_map]
 unfold putK storedH
 rw[e]
 by_cases q:(atKey xs k).isSome=true
 ·rw[if_pos q,if_pos q];exact r.repl k ry
 ·rw[if_neg q,if_neg q];exact Paired.snoc r ⟨rfl,hb,ry⟩
theorem KT.keeps {H H':Hp}{kvs:List (List Key×V)}{xs:List (List Key×Addr×Value)}(r:KT H kvs xs) (ht:∀ b ys,H b=some (.tup ys)→H' b=some (.tup ys)):KT H' kvs xs :=
 Paired.mapP r fun _ _ z=>⟨z.1,ht _ _ z.2.1,z.2.2⟩
section
variable {P:Program}{w:World}{H:Hp}{h:Heap}{a:Addr}
theorem Vq {u:HO}(ok:HOk P w H h) (e:Rd H a u):ObjOk P w H h a u:=e.ok ok
theorem wZ {kvs:List (Key×V)}(ok:HOk P w H h) (e:Rd H a (.dK kvs)):kvs.length≤sizeLine∧(a == sysModules)=false∧∃ vs,KV kvs vs∧h.DictOf (zA P w) a vs :=
 show ObjOk P w H h a (.dK kvs) from Vq ok e
theorem Xi {kvs:List (Key×V)}(ok:HOk P w H h) (e:H a=some (.dK kvs)):kvs.length≤sizeLine∧(a == sysModules)=false∧∃ vs,KV kvs vs∧h.DictOf (zA P w) a vs:=wZ ok (.inl e)
theorem xM {ks:List Key}(ok:HOk P w H h) (e:H a=some (.tup (ks.map kV))):(tupleKind (zA P w)).is h ks a:=by
 obtain⟨_,its,r,o,h1,h2,n,h3⟩:=(show ObjOk P w H h a (.tup (ks.map kV)) from ok a _ e)
 exact⟨o,its.toArray,n,h1,h2,h3,by simpa using wY r⟩
theorem vB {kvs:List (List Key×V)}(ok:HOk P w H h) (e:Rd H a (.dT kvs)):kvs.length≤sizeLine∧(a == sysModules)=false ∧
  ∃ xs,KT H kvs xs∧h.DictOfH (tupleKind (zA P w)) a xs:=by
 obtain⟨z,y,xs,r,o,es,ep,h1,h2,h3,h4,h5⟩:=(show ObjOk P w H h a (.dT kvs) from Vq ok e)
 refine⟨z,y,xs,r,o,es,ep,h1,h2,h3,h4,fun x hx=>?_,h5⟩
 have all:∀ {l:List (List Key×V)}{m:List (List Key×Addr×Value)},KT H l m→∀ x∈m,(tupleKind (zA P w)).is h x.1 x.2.1:=by
  intro l m q
  induction q with
  |nil=>intro x hx;exact nomatch hx
  | @cons p q ps qs hq t ih =>
   intro x hx
   rcases List.mem_cons.mp hx with e | hx
   ·subst e
    exact xM ok (by rw[← hq.1];exact hq.2.1)
   ·exact ih x hx
 exact all r x hx
theorem WJ {kvs:List (List Key×V)}(ok:HOk P w H h) (e:H a=some (.dT kvs)):kvs.length≤sizeLine∧(a == sysModules)=false ∧
  ∃ xs,KT H kvs xs∧h.DictOfH (tupleKind (zA P w)) a xs:=vB ok (.inl e)
end
def DGet (H:Hp) (a:Addr) (y:V) (r:Option V):Prop :=
 (∃ kvs k,Rd H a (.dK kvs)∧y=kV k∧r=yV kvs k)∨∃ kvs k b,Rd H a (.dT kvs)∧y=.ref b∧H b=some (.tup (k.map kV))∧r=yV kvs k
def DPut (H:Hp) (a:Addr) (y v:V) (H':Hp):Prop :=
 (∃ kvs k,H a=some (.dK kvs)∧y=kV k∧kvs.length<sizeLine∧H'=upd H a (.dK (putK kvs k v))) ∨
 ∃ kvs k b,H a=some (.dT kvs)∧y=.ref b∧H b=some (.tup (k.map kV))∧kvs.length<sizeLine∧H'=upd H a (.dT (putK kvs k v))
theorem DGet.k {H:Hp}{a:Addr}{kvs:List (Key×V)}{k:Key}(e:H a=some (.dK kvs)):DGet H a (kV k) (yV kvs k):=.inl ⟨kvs,k,.inl e,rfl,rfl⟩
theorem DGet.t {H:Hp}{a b:Addr}{kvs:List (List Key×V)}{k:List Key}(e:H a=some (.dT kvs)) (eb:H b=some (.tup (k.map kV))):DGet H a (.ref b) (yV kvs k):=.inr ⟨kvs,k,b,.inl e,rfl,eb,rfl⟩
theorem DPut.k {H:Hp}{a:Addr}{kvs:List (Key×V)}{k:Key}{v:V}(e:H a=some (.dK kvs)) (hl:kvs.length<sizeLine):DPut H a (kV k) v (upd H a (.dK (putK kvs k v))):=.inl ⟨kvs,k,e,rfl,hl,rfl⟩
theorem DPut.t {H:Hp}{a b:Addr}{kvs:List (List Key×V)}{k:List Key}{v:V}(e:H a=some (.dT kvs)) (eb:H b=some (.tup (k.map kV))) (hl:kvs.length<sizeLine) :
  DPut H a (.ref b) v (upd H a (.dT (putK kvs k v))):=.inr ⟨kvs,k,b,e,rfl,eb,hl,rfl⟩
section
variable {X:Cx}{pins:List (Addr×Obj)}{σ:St}{H:Hp}{s:Shared}{a:Addr}{y v:V}{u r:Value}{o:Option V}{A:Around}{E:Value→Shared→Prop}
theorem Inv.big (I:Inv X pins σ H s):sysModules<s.heap.objs.size:=by
 have h:mainGlobals<s.heap.objs.size:=(I.mod.glob.keeps I.bk).lt
 exact Nat.lt_trans (by decide) h
theorem Yj {Q:Value→Shared→Prop}(hu:A.units+1<cLine) (I:Inv X pins σ H s) (g:DGet H a y (some v)) (ry:RelV y u) (h:∀ w' s',Inv X pins σ H s'→RelV v w'→Q w' s') :
  wpAny (model X.prog X.w) A (getItem (.ref a) u) Q E s:=by
 rcases g with⟨kvs,k,e,ey,l⟩ | ⟨kvs,k,b,e,ey,eb,l⟩
 ·subst ey
  obtain⟨z,hd,vs,rel,dd⟩:=wZ I.hok e
  obtain⟨w',hw,rw'⟩:=RelO.some_of (v:=v) (o:=valueAt vs k) (by rw[l];exact rel.val k)
  exact wpAny_getItem_of (wX ry) dd.mapOf hw (h w' _ (I.tok _) rw')
 ·subst ey
  cases (show u=Value.ref b from ry)
  obtain⟨z,hd,xs,rel,dd⟩:=vB I.hok e
  obtain⟨w',hw,rw'⟩:=RelO.some_of (v:=v) (o:=(atKey xs k).map (·.2)) (by rw[l];exact rel.val k)
  obtain⟨p,hp,hp2⟩:=Option.map_eq_some_iff.mp hw
  refine wpAny_getItem_heap (tupleKind_room_in1 hu) (xM I.hok eb) dd hp ?_
  rw[hp2]
  exact h w' _ (I.tok _) rw'
theorem zh5 {Q:Value→Shared→Prop}(hu:A.units+1<cLine) (I:Inv X pins σ H s) (g:DGet H a y o) (ry:RelV y u) (h:∀ s',Inv X pins σ H s'→Q (.bool o.isSome) s') :
  wpAny (model X.prog X.w) A (compareOp .In u (.ref a)) Q E s:=by
 rcases g with⟨kvs,k,e,ey,l⟩ | ⟨kvs,k,b,e,ey,eb,l⟩
 ·subst ey
  obtain⟨z,hd,vs,rel,dd⟩:=wZ I.hok e
  refine wpAny_in_of (wX ry) hd dd.mapOf ?_
  rw[← (rel.val k).isSome_eq,← l]
  exact h _ (I.tok _)
 ·subst ey
  cases (show u=Value.ref b from ry)
  obtain⟨z,hd,xs,rel,dd⟩:=vB I.hok e
  refine wpAny_in_heap (tupleKind_room_in1 hu) (xM I.hok eb) hd dd ?_
  have q:=(rel.val k).isSome_eq
  rw[Option.isSome_map] at q
  rw[← q,← l]
  exact h _ (I.tok _)
theorem WK {Q:Value→Shared→Prop}(hu:A.units+1<cLine) (I:Inv X pins σ H s) (g:DGet H a y o) (ry:RelV y u) (h:∀ s',Inv X pins σ H s'→Q (.bool (!o.isSome)) s') :
  wpAny (model X.prog X.w) A (compareOp .NotIn u (.ref a)) Q E s:=by
 rcases g with⟨kvs,k,e,ey,l⟩ | ⟨kvs,k,b,e,ey,eb,l⟩
 ·subst ey
  obtain⟨z,hd,vs,rel,dd⟩:=wZ I.hok e
  refine wpAny_notIn_of (wX ry) hd dd.mapOf ?_
  rw[← (rel.val k).isSome_eq,← l]
  exact h _ (I.tok _)
 ·subst ey
  cases (show u=Value.ref b from ry)
  obtain⟨z,hd,xs,rel,dd⟩:=vB I.hok e
  refine wpAny_notIn_heap (tupleKind_room_in1 hu) (xM I.hok eb) hd dd ?_
  have q:=(rel.val k).isSome_eq
  rw[Option.isSome_map] at q
  rw[← q,← l]
  exact h _ (I.tok _)
theorem wA {h':Heap}{t':Nat}{ob:HO}(I:Inv X pins σ H s) (mu:Mut (H a)) (hs:Heap.SameBut a s.heap h') (he:∃ q,h'.get? a=some q) (new:ObjOk X.prog X.w (upd H a ob) h' a ob) :
  Inv X pins σ (upd H a ob) { s with heap:=h',toks:=t' } :=
 I.write (x:=a) (e:=a) mu (.inl rfl) (fun b q hb z=>(hs.2 b hb).trans z) he new
theorem Ye {P:Program}{w:World}{H':Hp}{h':Heap}{kvs:List (Key×V)}{vs:List (Key×Value)}(z:kvs.length≤sizeLine) (hd:(a == sysModules)=false) (rel:KV kvs vs) (dd:h'.DictOf (zA P w) a vs) :
  ObjOk P w H' h' a (.dK kvs):=⟨z,hd,vs,rel,dd⟩
theorem Yi {H':Hp}{Q:Unit→Shared→Prop}(hu:A.units+1<cLine) (I:Inv X pins σ H s) (g:DPut H a y v H') (ry:RelV y u) (rv:RelV v r) (h:∀ s',Inv X pins σ H' s'→Q () s') :
  wpAny (model X.prog X.w) A (setItem (.ref a) u r) Q E s:=by
 rcases g with⟨kvs,k,e,ey,l,eH⟩ | ⟨kvs,k,b,e,ey,eb,l,eH⟩
 ·subst ey eH
  obtain⟨z,hd,vs,rel,dd⟩:=Xi I.hok e
  have hz:vs.length≤sizeLine:=by rw[← rel.length];exact z
  have hl:(putK kvs k v).length≤sizeLine:=by have:=yw kvs k v;omega
  refine wpAny_setItem_pairs (hsz:=hz) (wX ry) dd fun h' dd' hs=>h _ ?_
  have he:∃ q,h'.get? a=some q:=let ⟨q,_,_,hq,_⟩:=dd';⟨q,hq⟩
  exact wA I (by rw[e];exact True.intro) hs he (Ye hl hd (rel.put k rv) dd')
 ·subst ey eH
  cases (show u=Value.ref b from ry)
  obtain⟨z,hd,xs,rel,dd⟩:=WJ I.hok e
  have hz:xs.length≤sizeLine:=by rw[← Paired.length rel];exact z
  have hl:(putK kvs k v).length≤sizeLine:=by have:=yw kvs k v;omega
  refine wpAny_setItem_heap (hsz:=hz) (tupleKind_room_in1 hu) (xM I.hok eb) dd fun h' dd' hs=>h _ ?_
  obtain⟨q,es,ep,hq,h2,h3,h4,_,h5⟩:=dd'
  refine wA I (by rw[e];exact True.intro) hs ⟨q,hq⟩ ⟨hl,hd,_,(rel.put k eb rv).keeps fun c ys ec=>?_,q,es,ep,hq,h2,h3,h4,h5⟩
  rw[upd_ne (Wz ec e (fun z=>nomatch z))]
  exact ec
end
section
variable {X:Cx}{pins:List (Addr×Obj)}{σ:St}{H:Hp}{s:Shared}{a:Addr}{kvs:List (Key×V)}{k:Key}{u:Value}{A:Around}{E:Value→Shared→Prop}
theorem zdG {Q:Value→Shared→Prop}(I:Inv X pins σ H s) (e:Rd H a (.dK kvs)) (h:∀ t s',Inv X pins σ H s'→Q (.int kvs.length t) s'):wpAny (model X.prog X.w) A (call (.builtin "len") [.ref a]) Q E s:=by
 obtain⟨z,hd,vs,rel,dd⟩:=wZ I.hok e
 refine call_len_dict hd dd (by rw[← rel.length];rw[sizeLine_eq] at z;omega) ?_
 rw[← rel.length]
 exact h _ _ (I.tok _)
end
def zdK (i:Expr):Prop:=∀ ov iv,subscripted i false ov iv=operate [ov,iv] (getItem ov iv)
theorem subD_of {prog:Program}{w:World}{A:Around}{E:Value→Shared→Prop}{s:Shared}{env:Env}{value slice:Expr}{pos:Pos}{T id:String}{Q:Value→Shared→Prop}
  (hl:typeLookup (.type T) "__getitem__" = pure (some (.builtin id))) (hs:zdK slice)
  (h:wpAny (model prog w) A (eval value env) (fun o s₁=>wpAny (model prog w) A (eval slice env) (fun i s₂=>s₂.TypeIs o T∧wpAny (model prog w) A (getItem o i) Q E s₂) E s₁) E s) :
  wpAny (model prog w) A (eval (.Subscript value slice pos) env) Q E s:=by
 refine Subscript_ (wpAny_mono h (fun o s₁ h₁=>wpAny_mono h₁ (fun i s₂ h₂=>?_) fun _ _ x=>x) fun _ _ x=>x)
 obtain⟨hT,h₂⟩:=h₂
 unfold subscriptTail
 refine wpAny_bind ?_
 rw[getitemInPython_of_ne hT.not_modules]
 refine wpAny_bind (wpAny_specialOf hT hl ?_)
 have fin:wpAny (model prog w) A (subscripted slice false o i) (fun r s₃=>wpAny (model prog w) A (letTemporaryGo value o r >>= fun _=>pure r) Q E s₃) E s₂:=by
  rw[hs o i]
  exact wpAny_operating (wpAny_mono h₂ (fun r s₃ h₃=>wpAny_bind (wpAny_letTemporaryGo (wpAny_pure h₃))) fun _ _ x=>x)
 first
  |exact wpAny_pure (wpAny_bind fin)
  |exact wpAny_bind (wpAny_pure (wpAny_bind fin))
  |exact wpAny_bind fin
theorem vC {X:Cx}{pins:List (Addr×Obj)}{σ:St}{H:Hp}{s:Shared}{a:Addr}{y:V}{o:Option V}(I:Inv X pins σ H s) (g:DGet H a y o):s.TypeIs (.ref a) "dict" := by
 rcases g with⟨kvs,k,e,_,_⟩ | ⟨kvs,k,b,e,_,_,_⟩
 ·obtain⟨_,_,vs,_,dd⟩:=wZ I.hok e
  exact dd.typeIs
 ·obtain⟨_,_,xs,_,dd⟩:=vB I.hok e
  exact dd.typeIs
def Vj (td ty:TE):TE:=fun σ H Q=>td σ H fun x H1=>ty σ H1 fun y H2=>∃ a v,x=.ref a∧DGet H2 a y (some v)∧Q v H2
def zdX (ty td:TE):TE:=fun σ H Q=>ty σ H fun y H1=>td σ H1 fun x H2=>∃ a o,x=.ref a∧DGet H2 a y o∧Q (.bl o.isSome) H2
def uQ (ty td:TE):TE:=fun σ H Q=>ty σ H fun y H1=>td σ H1 fun x H2=>∃ a o,x=.ref a∧DGet H2 a y o∧Q (.bl (!o.isSome)) H2
def Vp (td ty tv:TE):TS:=fun D σ H=>tv σ H fun v H1=>td σ H1 fun x H2=>ty σ H2 fun y H3=>∃ a H4,x=.ref a∧DPut H3 a y v H4∧D.nx σ H4
section
variable {X:Cx}{o i e value:Expr}{pos pos' tpos:Pos}{td ty tv:TE}
theorem vp (hu:X.A.units+1<cLine) (ho:PE X o td) (hi:PE X i ty) (hs:zdK i):PE X (.Subscript o i pos) (Vj td ty):=by
 intro pins s σ H Q I h
 refine subD_of PySem.F.slot_dict_getitem.lookup hs (thn (ho pins s σ H _ I h) fun u s1 ⟨x,H1,I1,rx,q1⟩=>thn (hi pins s1 σ H1 _ I1 q1) fun iv s2 hq0=>?_)
 obtain⟨y,H2,I2,ry,a,v,ex,g,q2⟩:=hq0
 subst ex
 obtain rfl:u=Value.ref a:=rx
 exact⟨vC I2 g,Yj hu I2 g ry fun w' s3 I3 rw'=>⟨v,H2,I3,rw',q2⟩⟩
theorem XG (hu:X.A.units+1<cLine) (hi:PE X i ty) (ho:PE X o td):PC X .In i o (zdX ty td):=by
 intro pins s σ H Q I h
 refine thn (hi pins s σ H _ I h) fun iv s1 ⟨y,H1,I1,ry,q1⟩=>thn (ho pins s1 σ H1 _ I1 q1) fun u s2 hq0=>?_
 obtain⟨x,H2,I2,rx,a,ov,ex,g,q2⟩:=hq0
 subst ex
 obtain rfl:u=Value.ref a:=rx
 exact zh5 hu I2 g ry fun s3 I3=>⟨.bl ov.isSome,H2,I3,rfl,q2⟩
theorem ZH (hu:X.A.units+1<cLine) (hi:PE X i ty) (ho:PE X o td):PC X .NotIn i o (uQ ty td):=by
 intro pins s σ H Q I h
 refine thn (hi pins s σ H _ I h) fun iv s1 ⟨y,H1,I1,ry,q1⟩=>thn (ho pins s1 σ H1 _ I1 q1) fun u s2 hq0=>?_
 obtain⟨x,H2,I2,rx,a,ov,ex,g,q2⟩:=hq0
 subst ex
 obtain rfl:u=Value.ref a:=rx
 exact WK hu I2 g ry fun s3 I3=>⟨.bl (!ov.isSome),H2,I3,rfl,q2⟩
theorem vm (hu:X.A.units+1<cLine) (ho:PE X o td) (hi:PE X i ty) (hv:PE X value tv) (hs:swapsWith value (some (.Subscript o i pos')) pos.line X.env=pure false) :
  PS X (.Assign [.Subscript o i pos'] value pos) (Vp td ty tv):=by
 intro pins s σ H D I h
 refine wpAny_Assign_Subscript (thn (hv pins s σ H _ I h) fun r s1 ⟨v,H1,I1,rv,q1⟩=>thn (ho pins s1 σ H1 _ I1 q1) fun u s2 ⟨x,H2,I2,rx,q2⟩=>thn (hi pins s2 σ H2 _ I2 q2) fun iv s3 hq0=>?_) hs
 obtain⟨y,H3,I3,ry,a,H4,ex,g,q3⟩:=hq0
 subst ex
 obtain rfl:u=Value.ref a:=rx
 exact Yi hu I3 g ry rv fun s4 I4=>⟨σ,H4,I4,q3⟩
end
theorem Xj {P:Program}{w:World}{H:Hp}(h:Heap) (hb:sysModules<h.objs.size):ObjOk P w H (h.push { cls:=.type "dict",data:=.dict #[] }) h.objs.size (.dK []) :=
 ⟨Nat.zero_le _,beq_eq_false_iff_ne.mpr (Ne.symm (Nat.ne_of_lt hb)),[],.nil,Heap.DictOf.new h⟩
theorem Xg {P:Program}{w:World}{H:Hp}(h:Heap) (hb:sysModules<h.objs.size):ObjOk P w H (h.push { cls:=.type "dict",data:=.dict #[] }) h.objs.size (.dT []) :=
 ⟨Nat.zero_le _,beq_eq_false_iff_ne.mpr (Ne.symm (Nat.ne_of_lt hb)),[],.nil,_,#[],0,Heap.get?_push_size _ rfl,⟨rfl,rfl,rfl⟩,rfl,rfl,List.nodup_nil⟩
def Xx:TE:=fun _ H Q=>∀ p,H p=none→Q (.ref p) (upd H p (.dK []))
def Xw:TE:=fun _ H Q=>∀ p,H p=none→Q (.ref p) (upd H p (.dT []))
section
variable {X:Cx}{pos:Pos}
theorem vX:PE X (.Dict [] [] pos) Xx:=fun pins s σ H Q I h =>
 wpAny_Dict_empty ⟨.ref s.heap.objs.size,_,I.laid (a:=s.heap.objs.size) (o:=.dK []) (t':=s.toks) (fun _ _ q=>Heap.get?_push_of_some _ q) (Nat.le_refl _) (Xj s.heap I.big),rfl,h _ (I.hok.fresh (Nat.le_refl _))⟩
theorem vW:PE X (.Dict [] [] pos) Xw:=fun pins s σ H Q I h =>
 wpAny_Dict_empty ⟨.ref s.heap.objs.size,_,I.laid (a:=s.heap.objs.size) (o:=.dT []) (t':=s.toks) (fun _ _ q=>Heap.get?_push_of_some _ q) (Nat.le_refl _) (Xg s.heap I.big),rfl,h _ (I.hok.fresh (Nat.le_refl _))⟩
end
def mergeK (kvs more:List (Key×V)):List (Key×V):=more.foldl (fun acc kv=>putK acc kv.1 kv.2) kvs
theorem KV.merge:∀ {more:List (Key×V)}{rs:List (Key×Value)}{kvs:List (Key×V)}{vs:List (Key×Value)},KV more rs→KV kvs vs→KV (mergeK kvs more) (merged vs rs):=by
 intro more rs kvs vs r
 unfold KV at r
 induction r generalizing kvs vs with
 |nil=>intro q;exact q
 | @cons p q ps qs h t ih =>
  intro r0
  have e:KV (putK kvs p.1 p.2) (stored vs q.1 q.2):=by
   have:=r0.put p.1 h.2
   rw[← h.1];exact this
  exact ih e
structure M1 (X:Cx) (o:Expr) (m:Str) (apos:Pos) (e:Expr) (cpos:Pos):Prop where
 base:attributeBase o m X.env (eval o X.env)=eval o X.env
 few:((backTo cpos (starEach [e] X.env)).all (fun x=>!x.1)&&(backToKw cpos (keywordEach [] X.env)).all (fun x=>x.1.isSome)
  && decide (([e]:List Expr).length+([]:List Keyword).length+(if ([]:List Keyword).isEmpty then 0 else 1)<30))=true
 line:(apos.endLine == cpos.line)=true
 trees:backTo cpos (starEach [e] X.env)=[(false,eval e X.env)]
structure M2 (X:Cx) (o:Expr) (m:Str) (apos:Pos) (e f:Expr) (cpos:Pos):Prop where
 base:attributeBase o m X.env (eval o X.env)=eval o X.env
 few:((backTo cpos (starEach [e,f] X.env)).all (fun x=>!x.1)&&(backToKw cpos (keywordEach [] X.env)).all (fun x=>x.1.isSome)
  && decide (([e,f]:List Expr).length+([]:List Keyword).length+(if ([]:List Keyword).isEmpty then 0 else 1)<30))=true
 line:(apos.endLine == cpos.line)=true
 trees:backTo cpos (starEach [e,f] X.env)=[(false,eval e X.env),(false,eval f X.env)]
def IsD (H:Hp) (a:Addr):Prop:=(∃ kvs,Rd H a (.dK kvs))∨∃ kvs,Rd H a (.dT kvs)
theorem Z4 {X:Cx}{pins:List (Addr×Obj)}{σ:St}{H:Hp}{s:Shared}{a:Addr}(I:Inv X pins σ H s) (d:IsD H a) :
  s.TypeIs (.ref a) "dict" ∧ (∀ b,Value.ref a=.ref b→∃ ob,s.heap.get? b=some ob∧ob.dict=none)∧(a == sysModules)=false:=by
 rcases d with⟨kvs,e⟩ | ⟨kvs,e⟩
 ·obtain⟨_,hd,vs,_,dd⟩:=wZ I.hok e
  refine⟨dd.typeIs,fun b q=>?_,hd⟩
  cases q
  obtain⟨ob,_,_,h1,h2,_⟩:=dd
  exact⟨ob,h1,h2.2.1⟩
 ·obtain⟨_,hd,xs,_,dd⟩:=vB I.hok e
  refine⟨dd.typeIs,fun b q=>?_,hd⟩
  cases q
  obtain⟨ob,_,_,h1,h2,_⟩:=dd
  exact⟨ob,h1,h2.2.1⟩
section
variable {X:Cx}{pins:List (Addr×Obj)}{σ:St}{H:Hp}{s:Shared}{a:Addr}{y d:V}{u r:Value}{o:Option V}{A:Around}{E:Value→Shared→Prop}
theorem Ud {Q:Value→Shared→Prop}(hu:A.units+1<cLine) (I:Inv X pins σ H s) (g:DGet H a y o) (ry:RelV y u) (h:∀ w' s',Inv X pins σ H s'→RelV (o.getD .non) w'→Q w' s') :
  wpAny (model X.prog X.w) A (call (.builtin "dict.get") [.ref a,u]) Q E s:=by
 rcases g with⟨kvs,k,e,ey,l⟩ | ⟨kvs,k,b,e,ey,eb,l⟩
 ·subst ey
  obtain⟨z,hd,vs,rel,dd⟩:=wZ I.hok e
  refine call_meetsIn PySem.F.slot_dict_get dd.typeIs PySem.F.entry_dict_get (PySem.F.args_dict_get_2 _ _) (meets_dict_get (zA X.prog X.w) a (wX ry) hd) ⟨_,dd.mapOf,h _ _ (I.tok _) ?_⟩
  rw[l]
  exact(rel.val k).getD rfl
 ·subst ey
  cases (show u=Value.ref b from ry)
  obtain⟨z,hd,xs,rel,dd⟩:=vB I.hok e
  refine call_meetsIn PySem.F.slot_dict_get dd.typeIs PySem.F.entry_dict_get (PySem.F.args_dict_get_2 _ _) (meetsH_dict_get (tupleKind (zA X.prog X.w)) a b hd) ⟨tupleKind_room_in1 hu,k,xs,xM I.hok eb,dd,h _ _ (I.tok _) ?_⟩
  rw[l]
  exact(rel.val k).getD rfl
end
def Xy (td ty:TE):TE:=fun σ H Q=>td σ H fun x H1=>∃ a,x=.ref a∧IsD H1 a∧ty σ H1 fun y H2=>∃ o,DGet H2 a y o∧Q (o.getD .non) H2
section
variable {X:Cx}{o e f:Expr}{apos cpos:Pos}{td ty tx:TE}
theorem YN (hu:X.A.units+1<cLine) (ho:PE X o td) (he:PE X e ty) (m:M1 X o "get" apos e cpos):PE X (.Call (.Attribute o "get" apos) [e] [] cpos) (Xy td ty):=by
 intro pins s σ H Q I h
 refine wpAny_Call_method m.base m.few m.line PySem.F.plainAttrs_dict PySem.F.slot_dict_get PySem.F.type_dict_get (thn (ho pins s σ H _ I h) fun u s1 hq0=>?_)
 obtain⟨x,H1,I1,rx,a,ex,d,q1⟩:=hq0
 subst ex
 obtain rfl:u=Value.ref a:=rx
 obtain⟨t1,t2,_⟩:=Z4 I1 d
 refine⟨t1,t2,?_⟩
 rw[m.trees]
 refine Calls.callWith_builtin rfl (Calls.evalArgs_plain (Calls.spliced_cons (thn (he pins s1 σ H1 _ I1 q1) fun iv s2 ⟨y,H2,I2,ry,ov,g,q2⟩=>Calls.spliced_nil ?_)))
 exact Ud hu I2 g ry fun w' s3 I3 rw'=>⟨_,H2,I3,rw',q2⟩
end
end L2
namespace Att
open PySem PySem.W PySem.Calls PyProof.Rows
theorem xN {P:Params}{h:Heap}:∀ (ns:List Int) (vs:List Value),WellAll P h vs (ns.map WData.int)→IntsAre vs ns:=by
 intro ns
 induction ns with
 |nil =>
  intro vs w
  rw[List.map_nil] at w
  cases w
  exact .nil
 |cons n ns ih =>
  intro vs w
  rw[List.map_cons] at w
  cases w with
  |cons a b =>
   cases a
   exact .cons _ _ (ih _ b)
theorem Zx {l:OpenLaw}{n:Nat}(hn:l.most=some n){P:Params}{h:Heap}{args:List WData}{vals:List Value}
  (hpre:l.row.toRowW.claim.pre args=true) (hwl:WellAll P h vals args) :
  ∃ a vs ns,vals=[Value.ref a]∧args=[WData.list (ns.map WData.int)]∧h.get? a=some { cls:=.type "list",data:=.seq vs.toArray }∧IntsAre vs ns∧ns.length≤n:=by
 have hsh:WShape.hasAll [] args [.list .int]=true:=(pre_splitW hpre).1
 have hc:l.pre.holds [] { args:=args }=true:=(pre_splitW hpre).2
 obtain⟨d,r,rfl,h1,h2⟩:=hasAllW_cons hsh
 obtain rfl:=hasAllW_nil h2
 obtain⟨xs,rfl,h3⟩:=hasW_list h1
 obtain⟨ns,rfl⟩:=items_int h3
 have hlen:ns.length≤n:=by
  unfold OpenLaw.pre at hc
  have h4:(WTm.not (.lt (.lit (.int (n:Int))) (.len (.arg 0)))).holds [] { args:=[.list (ns.map .int)] }=true:=by
   have h4:=(holds_andW hc).1
   rw[hn] at h4
   exact h4
  have h5:=condW_of h4 (w_not (w_lt w_lit (w_len_list (w_arg rfl))))
  rw[List.length_map] at h5
  refine Nat.le_of_not_lt fun q=>?_
  have q':(n:Int)<((ns.length:Nat):Int):=by omega
  first
   |(rw[decide_eq_true q'] at h5;exact absurd h5 (by decide))
   |(simp at h5;omega)
 cases hwl with
 |cons w1 w2 =>
  cases w2
  cases w1 with
  |list ho hall=>exact⟨_,_,ns,rfl,rfl,ho,xN ns _ hall,hlen⟩
theorem Zz (l:OpenLaw) (args:List WData):l.row.toRowW.claim.post args (.bool true) args=true :=
 postW_of (r:=l.row.toRowW) (X:=(true == true))
  (show WShape.has [] (.bool true) .bool=true by first | rfl | decide | simp[WShape.has,WShape.arms,WShape.armsAll])
  (show(WTm.eq .res (.lit (.bool true))).value [] { args:=args,res:=some (.bool true),after:=args }=some (.bool (true == true)) from w_eq_bool (w_res rfl) w_lit) rfl
theorem attach_call {l:OpenLaw}{n:Nat}{q:Program}{loose:List Str}{XP:(Str→Option Value)→Heap→Prop}{YP:World→Heap→Prop}{d:DefRec}
  (hn:l.most=some n) (hdf:d.params.defaults=[])
  (call:∀ (w:World) (s₀ s₁:Shared) (mg mb:Str→Option Value) (fa:Addr) (o:Obj) (pm cd doc:Value) (a:Addr) (vs:List Value) (ns:List Int),
   Ground q loose [] XP w s₀ mg mb s₁.heap→YP w s₁.heap →
   s₁.heap.get? fa=some o→o.data=.func (docDef d.name d.params d.body d.scope pm cd doc)→s₁.heap.CodeRec cd d.name→mg d.name=some (.ref fa) →
   s₁.heap.get? a=some { cls:=.type "list",data:=.seq vs.toArray }→IntsAre vs ns→ns.length≤n→s₁.gens = #[] →
   codeAny (model l.prog w) callerA (.call (.ref fa) ⟨[.ref a],[]⟩) (fun r s'=>r=.ok (.ret (.bool true))∧OldK s₁.heap s'.heap∧s'.os=s₁.os∧AllBare s'.gens) s₁) :
  WalkO q loose XP YP l.row.toRowW d [] (fun f vs=>PySem.call f vs):=by
 intro w s₀ s₁ mg mb G Y fa o pm cd doc dV kV ho hd hcd hD hmg hg args vals as hpre hlay hrd hwl hlo
 obtain rfl:dV=.none:=Dflts.none hD hdf
 obtain rfl:kV=.none:=Dflts.noKw hD
 obtain⟨a,vs,ns,rfl,rfl,hobj,hints,hlen⟩:=Zx hn hpre hwl
 refine enter_call (codeAny_mono (call w s₀ s₁ mg mb fa o pm cd doc a vs ns G Y ho (fd_plain hd) hcd hmg hobj hints hlen hg) fun r s' hq=>?_)
 obtain⟨rfl,h2,h3,h4⟩:=hq
 exact⟨.inl ⟨.bool true,.bool true,[],rfl,fun _=>rfl,.bool true,Zz l _,fun _=>⟨List.Pairwise.nil,fun _ hm=>(nomatch hm)⟩⟩,h2,h3,h4⟩
end Att
namespace L2
open PySem PySem.Spec PyProof.Rows
theorem wE:∀ {vs:List Value}{ns:List Int},IntsAre vs ns→Vals (ns.map V.int) vs
 |_,_,.nil=>.nil
 |_,_,.cons n t h=>.cons ⟨t,rfl⟩ (wE h)
def Ui (H:Hp):Prop:=∀ b,H b=none∨∃ o xs,H b=some (.frz o (.lst xs))
theorem Xa {P:Program}{w:World}{K:PySem.W.Frag}{mg mb:Str→Option Value}{CX:CXT}{k:Nat}{fa a:Addr}{fd:FuncData}{x:Str}{sp:Sp}{s₁:Shared}{vs:List Value}{ns:List Int}
  (KX:K.In s₁.heap) (hns:s₁.heap.Ns mainGlobals mg) (hb:s₁.heap.Ns builtinsNs mb) (hbb:∀ x:Str,x ≠ "__name__" → mb x=bootBuiltins x) (hlim:s₁.heap.NoLimit) (hg:s₁.gens = #[])
  (ha:s₁.heap.get? a=some { cls:=.type "list",data:=.seq vs.toArray }) (hi:IntsAre vs ns) (hl:ns.length≤sizeLine) (hr:Room k callerA)
  (F:∀ base:Heap,K.In base→base.Ns mainGlobals mg→FnOk P w K mg base CX k fa fd [x] sp) (hbind:∀ (s:Shared) (u:Value),BindsTo s fd ⟨[u],[]⟩ [(x,u)])
  (hsp:∀ H:Hp,Ui H→SqL K H a (ns.map V.int)→sp [.ref a] H (fun v _=>v=.bl true) fun _ _ _=>False)
  (hCX:∀ H e s',CX [] H s₁ (fun _ _ _=>False) e s'→False) :
  codeAny (model P w) callerA (.call (.ref fa) ⟨[.ref a],[]⟩) (fun r s'=>r=.ok (.ret (.bool true))∧OldK s₁.heap s'.heap∧s'.os=s₁.os∧AllBare s'.gens) s₁:=by
 have rv:=wE hi
 have lenV:=hi.length
 -- from an abstract heap in which nothing but the script may be tracked
 have core:∀ H:Hp,Ui H→SqL K H a (ns.map V.int)→HOk P w H s₁.heap→(∀ b,H b≠none→b=a)→(H a≠none→K.lookup a=none) →
   codeAny (model P w) callerA (.call (.ref fa) ⟨[.ref a],[]⟩) (fun r s'=>r=.ok (.ret (.bool true))∧OldK s₁.heap s'.heap∧s'.os=s₁.os∧AllBare s'.gens) s₁:=by
  intro H hO hS hok hA hK
  have base_of:∀ {b:Addr}{o:Obj},s₁.heap.get? b=some o→H b=none→(Xc s₁.heap H).get? b=some o:=fun e n=>Xb e n
  have noA:∀ {b:Addr}{o:Obj}{es:Array DictEntry}{ep:Nat},s₁.heap.get? b=some o→o.data=.dict es ep→H b=none:=fun {b o es ep} e d=>by
   cases q:H b with
   |none=>rfl
   |some u =>
    have e':b=a:=hA b (by rw[q];simp)
    subst e'
    rw[ha] at e;cases e
    have d':Data.seq vs.toArray _=Data.dict es ep:=d
    cases d'
  have nsK:∀ {b:Addr}{m:Str→Option Value},s₁.heap.Ns b m→(Xc s₁.heap H).Ns b m:=fun {b m} ⟨o,es,ep,e,d,r⟩=>⟨o,es,ep,base_of e (noA e d),d,r⟩
  have hKb:K.In (Xc s₁.heap H):=fun b o e=>base_of (KX b o e) (by
   cases q:H b with
   |none=>rfl
   |some u =>
    have e':b=a:=hA b (by rw[q];simp)
    subst e'
    rw[hK (by rw[q];simp)] at e;cases e)
  have hM:Mod K mg (Xc s₁.heap H):=⟨hKb,nsK hns,⟨mb,nsK hb,hbb⟩,let ⟨mc,h1,h2⟩:=hlim;⟨mc,nsK h1,h2⟩⟩
  have e0:Env0 P w K mg (Xc s₁.heap H) callerA [] s₁ H:=⟨rfl,hM,fun b o e=>Wx e,Nat.le_of_eq (Z9 _ _),trivial,fun b hb=>absurd (show b∈([]:List Addr) from hb) (by simp),hok,.of_eq hg⟩
  refine codeAny_mono ((F _ hKb (nsK hns)).run callerA [] s₁ H ⟨[.ref a],[]⟩ [.ref a] [.ref a] _ _ hr e0 (hbind s₁ (.ref a)) (.cons rfl .nil) (hsp H hO hS)) fun r s' h=>?_
  cases r with
  |error e=>exact(hCX H e s' h).elim
  |ok fl =>
   cases fl with
   |next=>exact False.elim h
   |brk=>exact False.elim h
   |cont=>exact False.elim h
   |ret u =>
    obtain⟨v,H',os,bare,un,hok',r',q⟩:=h
    have q':v=.bl true:=q
    subst q'
    obtain rfl:u=Value.bool true:=r'
    refine⟨rfl,OldK.of_keep fun b o e=>?_,os,bare⟩
    cases q:H b with
    |none=>exact un.keep b o e q (by intro z;exact absurd (show b∈([]:List Addr) from z) (by simp)) (by simp)
    |some u =>
     rcases hO b with z | ⟨ob,xs,z⟩
     ·rw[q] at z;cases z
     ·have z2:=un.frzs b ob _ z
      obtain⟨e1,_⟩:=hok b _ z
      obtain⟨e2,_⟩:=hok' b _ z2
      rw[e] at e1;cases e1
      exact e2
 cases hk:K.lookup a with
 |some o =>
  -- the script is one of the module's own objects
  have e:=KX a o hk
  rw[ha] at e
  cases e
  refine core (fun _=>none) (fun _=>.inl rfl) (.inr ⟨_,vs.toArray,_,hk,rfl,rfl,rfl,by rw[List.size_toArray,lenV];exact hl,by simpa using rv⟩) (fun b u z=>by have z':(none:Option HO)=some u:=z;cases z') (fun b z=>absurd rfl z) fun z=>absurd rfl z
 |none =>
  refine core (fun b=>if b=a then some (.frz { cls:=.type "list",data:=.seq vs.toArray } (.lst (ns.map V.int))) else none) (fun b=>?_) (.inl (.inr ⟨{ cls:=.type "list",data:=.seq vs.toArray },if_pos rfl⟩)) (fun b u z=>?_) (fun b z=>?_) fun _=>hk
  ·by_cases hb:b=a
   ·exact .inr ⟨_,_,if_pos hb⟩
   ·exact .inl (if_neg hb)
  ·by_cases hb:b=a
   ·have z':=(if_pos hb).symm.trans z
    cases z'
    subst hb
    exact⟨ha,by rw[List.length_map];exact hl,vs,_,rv,ha⟩
   ·have z':=(if_neg hb).symm.trans z
    cases z'
  ·by_cases hb:b=a
   ·exact hb
   ·exact absurd (if_neg hb) z
abbrev KOf {K:PySem.W.Frag}{h:Heap}(_:K.In h):PySem.W.Frag:=K
theorem XU {l:PySem.W.OpenLaw}{n k:Nat}{q:Program}{loose:List Str}{XP:(Str→Option Value)→Heap→Prop}{YP:World→Heap→Prop}{d:DefRec}{K:Params→PySem.W.Frag}{CX:World→CXT}{sp:World→Sp}{x:Str}
  (hn:l.most=some n) (hn2:n≤sizeLine) (hdf:d.params.defaults=[]) (hr:Room k callerA)
  (hY:∀ (w:World) (h:Heap),YP w h→(K w.params).In h)
  (F:∀ (w:World) (mg:Str→Option Value) (fa:Addr) (h:Heap),(K w.params).In h→h.Ns mainGlobals mg→mg d.name=some (.ref fa) →
   ∃ fd:FuncData,(∀ (s:Shared) (u:Value),BindsTo s fd ⟨[u],[]⟩ [(x,u)]) ∧
    ∀ base:Heap,(K w.params).In base→base.Ns mainGlobals mg→FnOk l.prog w (K w.params) mg base (CX w) k fa fd [x] (sp w))
  (hsp:∀ (w:World) (H:Hp) (a:Addr) (ns:List Int),ns.length≤n→Ui H→SqL (K w.params) H a (ns.map V.int)→sp w [.ref a] H (fun v _=>v=.bl true) fun _ _ _=>False)
  (hCX:∀ (w:World) (H:Hp) (s:Shared) (e:Value) (s':Shared),CX w [] H s (fun _ _ _=>False) e s'→False) :
  PySem.W.WalkO q loose XP YP l.row.toRowW d [] (fun f vs=>PySem.call f vs):=by
 refine Att.attach_call hn hdf fun w s₀ s₁ mg mb fa o pm cd doc a vs ns G Y ho hd hcd hmg hobj hints hlen hg=>?_
 have KX:=hY w _ Y
 obtain⟨fd,hb,hF⟩:=F w mg fa _ KX G.T.g hmg
 exact Xa KX G.T.g G.T.b G.T.builtins G.T.nolimit hg hobj hints (Nat.le_trans hlen hn2) hr hF hb (fun H hO hS=>hsp w H a ns hlen hO hS) fun H e s'=>hCX w H s₁ e s'
theorem walk_ofK {l:PySem.W.OpenLaw}{n k:Nat}{q:Program}{loose:List Str}{XP:(Str→Option Value)→Heap→Prop}{YP:World→Heap→Prop}{d:DefRec}{K:Params→PySem.W.Frag}{CX:CXT}{sp:PySem.W.Frag→Sp}{x:Str}
  (hn:l.most=some n) (hn2:n≤sizeLine) (hdf:d.params.defaults=[]) (hr:Room k callerA)
  (hY:∀ (w:World) (h:Heap),YP w h→(K w.params).In h)
  (F:∀ (w:World) (mg:Str→Option Value) (fa:Addr) (h:Heap),(K w.params).In h→h.Ns mainGlobals mg→mg d.name=some (.ref fa) →
   ∃ fd:FuncData,(∀ (s:Shared) (u:Value),BindsTo s fd ⟨[u],[]⟩ [(x,u)]) ∧
    ∀ base:Heap,(K w.params).In base→base.Ns mainGlobals mg→FnOk l.prog w (K w.params) mg base CX k fa fd [x] (sp (K w.params)))
  (hsp:∀ (K:PySem.W.Frag) (H:Hp) (a:Addr) (ns:List Int),ns.length≤n→Ui H→SqL K H a (ns.map V.int)→sp K [.ref a] H (fun v _=>v=.bl true) fun _ _ _=>False)
  (hCX:∀ (H:Hp) (s:Shared) (e:Value) (s':Shared),CX [] H s (fun _ _ _=>False) e s'→False) :
  PySem.W.WalkO q loose XP YP l.row.toRowW d [] (fun f vs=>PySem.call f vs) :=
 XU (K:=K) (CX:=fun _=>CX) (sp:=fun w=>sp (K w.params)) hn hn2 hdf hr hY F (fun w H a ns h1 h2 h3=>hsp (K w.params) H a ns h1 h2 h3) fun _ H s e s'=>hCX H s e s'
def inClass (s:Stmt) (j:Nat):Stmt:=match s with
 |.ClassDef _ _ _ body _ _ _ _ _ _ _=>body.getD j (.Pass ⟨0,0,0,0⟩)
 |_=>.Pass ⟨0,0,0,0⟩
def defArgs (s:Stmt):Arguments:=match s with
 |.FunctionDef _ a _ _ _ _ _ _ _ _=>a
 |_=>{ posonlyargs:=[],args:=[],vararg:=none,kwonlyargs:=[],kw_defaults:=[],kwarg:=none,defaults:=[] }
def defBody (s:Stmt):List Stmt:=match s with
 |.FunctionDef _ _ b _ _ _ _ _ _ _=>b
 |_=>[]
def defScope (s:Stmt):Scope:=match s with
 |.FunctionDef _ _ _ _ _ _ sc _ _ _=>sc
 |_=>{ kind:=.function,names:=[],isGenerator:=false,isCoroutine:=false }
abbrev CX0:CXT:=fun _ _ _ _ _ _=>False
abbrev E0:XK:=fun _ _ _=>False
theorem YO {X:Cx}:xS CX0 X E0:=fun _ _ _ _ _ _ _ h=>h.elim
structure Fun (K:PySem.W.Frag) (x qual:Str) (st:Stmt) (f:Addr) (fd:FuncData):Prop where
 ex:∃ (oc:Value) (od:Option Addr) (kV doc pm:Value) (an:Option Addr) (cdv ct:Value) (osl:Array (Option Value)),
  fd=PySem.W.fnOf x qual (defArgs st) (defBody st) (defScope st) .none kV doc pm an cdv ct∧K.lookup f=some ⟨oc,od,.func fd,osl⟩∧PySem.W.codeIn K cdv qual=true
 kp:PySem.W.keepIn K (.ref f)=true
section
variable {P:Program}{w:World}{K:PySem.W.Frag}{mg:Str→Option Value}{base:Heap}
theorem Fun.ok {x qual:Str}{st:Stmt}{f:Addr}{fd:FuncData}{N ps:List Str}{k:Nat}{sp:Sp}(F:Fun K x qual st f fd) (S:FnScope N ps (defScope st)) (len:∀ vs H Q E,sp vs H Q E→vs.length=ps.length)
  (hbody:∀ (cdv:Value) (A:Around) (outer:List Env) (s:Shared) (H:Hp) (vs:List V) (Q:VK) (E:XK),Room k (A.deeper (envOfC qual (defScope st) s.heap.objs.size f cdv))→sp vs H Q E →
   ∃ t,PSs (WY CX0 P w K mg base N qual (defScope st) f cdv A outer s H E).nox (defBody st) t∧t { nx:=fun _ H'=>Q .non H',rt:=Q } (start N vs) H):FnOk P w K mg base CX0 (k+1) f fd ps sp:=by
 obtain⟨oc,od,kV,doc,pm,an,cdv,ct,osl,rfl,lk,hcd⟩:=F.ex
 refine zdF lk hcd S len fun A outer s H vs Q E hr hsp=>?_
 obtain⟨t,h,q⟩:=hbody cdv A outer s H vs Q E hr hsp
 exact⟨t,h.nox,q⟩
theorem Fun.binds {x qual:Str}{st:Stmt}{f:Addr}{fd:FuncData}{ps:List Str}(F:Fun K x qual st f fd)
  (h:∀ (kV doc pm:Value) (an:Option Addr) (cdv ct:Value) (us:List Value),us.length=ps.length→bindArgs (PySem.W.fnOf x qual (defArgs st) (defBody st) (defScope st) .none kV doc pm an cdv ct) ⟨us,[]⟩=pure (ps.zip us)):Binds K fd ps []:=by
 obtain⟨oc,od,kV,doc,pm,an,cdv,ct,osl,rfl,lk,hcd⟩:=F.ex
 exact .all (h kV doc pm an cdv ct)
theorem zC {x qual:Str}{st:Stmt}{f:Addr}{oc:Value}{od an:Option Addr}{osl:Array (Option Value)}{kV doc pm cdv ct:Value}(l:K.lookup f=some ⟨oc,od,.func (PySem.W.fnOf x qual (defArgs st) (defBody st) (defScope st) .none kV doc pm an cdv ct),osl⟩)
  (c:PySem.W.codeIn K cdv qual=true) (k:PySem.W.keepIn K (.ref f)=true):Fun K x qual st f (PySem.W.fnOf x qual (defArgs st) (defBody st) (defScope st) .none kV doc pm an cdv ct):=⟨⟨oc,od,kV,doc,pm,an,cdv,ct,osl,rfl,l,c⟩,k⟩
end
theorem xw {A:Around}{k:Nat}(hr:Room k A):A.units+1<cLine:=Nat.lt_of_le_of_lt (Nat.add_le_add_left (by decide:1≤64) _) hr.units
theorem zo {n:Nat}(h:n≤1000):n<sizeLine:=Nat.lt_of_le_of_lt h (by decide)
section
variable {X:Cx}
theorem pv (i:Nat){x:Str}{pos:Pos}(hN:X.N[i]?=some x:=by rfl) (hv:Vis X.env.scope x:=by first | exact Or.inl rfl | exact Or.inr (Or.inl rfl) | exact Or.inr (Or.inr rfl)) (hd:(x == ("__debug__" : Str))=false:=by decide)
  (hcd:(x == ("__classdict__" : Str))=false:=by decide):PE X (.Name x pos) (zaO i):=Vz hN hv hd hcd
theorem xP:yY X (.builtin "len") (fun xs H Q=>∃ a kvs,xs=[V.ref a]∧H a=some (.dK kvs)∧Q (.int kvs.length) H):=by
 intro pins s σ H xs us Q I r h
 obtain⟨a,kvs,rfl,ha,q⟩:=h
 obtain⟨u,rfl,ru⟩:=Yz r
 cases ru
 exact zdG I (.inl ha) fun t s' I'=>⟨.int kvs.length,H,I',⟨t,rfl⟩,q⟩
end
theorem zh4 {A B:Prop}(h:B):if false=true then A else B:=by
 rw[if_neg Bool.false_ne_true]
 exact h
theorem xh {A B:Prop}(h:A):if true=true then A else B:=by
 rw[if_pos rfl]
 exact h
theorem ite2 {c A B:Prop} [Decidable c] (h1:c→A) (h2:¬ c→B):if c then A else B:=by
 by_cases h:c
 ·rw[if_pos h]
  exact h1 h
 ·rw[if_neg h]
  exact h2 h
def Same (H H':Hp):Prop:=∀ b o,H b=some o→H' b=some o
theorem Same.trans {H H1 H2:Hp}(a:Same H H1) (b:Same H1 H2):Same H H2:=fun c o h=>b c o (a c o h)
theorem Same.free {H H':Hp}(e:Same H H'){l:Addr}(h:H' l=Option.none):H l=Option.none:=by
 cases q:H l with
 |none=>rfl
 |some o =>
  rw[e l o q] at h
  cases h
end L2
set_option maxHeartbeats 4000000
namespace L2
open PySem PySem.Spec PyProof.Rows
def Vb (t u:TS):TS:=fun D σ H=>∃ M:St→Hp→Prop,t { D with nx:=M } σ H∧∀ σ' H',M σ' H'→u D σ' H'
theorem Wh {X:Cx}{st:Stmt}{rest:List Stmt}{t u:TS}(h1:PS X st t) (h2:PSs X rest u):PSs X (st::rest) (Vb t u):=by
 intro pins s σ H D I h
 obtain⟨M,h,hM⟩:=h
 refine wpAny_execs_cons (thn (h1 pins s σ H { D with nx:=M } I h) fun f s1 q=>?_)
 cases f with
 |next =>
  obtain⟨σ',H',I',q⟩:=q
  exact h2 pins s1 σ' H' D I' (hM σ' H' q)
 |brk=>exact q
 |cont=>exact q
 |ret u=>exact q
theorem iteB {c:Bool}{A B:Prop}(hc:c=true) (h:A):if c=true then A else B:=by rw[if_pos hc];exact h
theorem iteN {c:Bool}{A B:Prop}(hc:c=false) (h:B):if c=true then A else B:=by rw[hc];exact zh4 h
def PTs (X:Cx) (ifs:List Expr) (t:TT):Prop :=
 ∀ (pins:List (Addr×Obj)) (s:Shared) (σ:St) (H:Hp) (Q:Bool→Hp→Prop),Inv X pins σ H s→t σ H Q →
  wpAny (model X.prog X.w) X.A (forIn ifs true fun c r=>if r=true then do let ok ← isTrue c X.env (eval c X.env);pure (ForInStep.yield ok) else pure (ForInStep.yield r)) (TP X pins σ Q) X.xe s
def W9:TT:=fun _ H Q=>Q true H
theorem WZ {τ:St}{H:Hp}{A B:Hp→Prop}(h:A H):W9 τ H (fun b H5=>if b=true then A H5 else B H5):=by
 show if true=true then A H else B H
 exact xh h
theorem Wg {X:Cx}:PTs X [] W9:=fun _ _ _ H _ I h=>wpAny_tests_nil ⟨H,I,h⟩
theorem Wf {X:Cx}{c:Expr}{t:TT}(h:PT X c t):PTs X [c] t:=fun pins s σ H Q I hw=>wpAny_tests_one (h pins s σ H Q I hw)
section
variable {prog:Program}{w:World}{A:Around}{R:Result→Shared→Prop}{s:Shared}
abbrev NoE:Value→Shared→Prop:=fun _ _=>False
theorem zbA {α:Type}{m:Sem α}{Q:α→Shared→Prop}{E:Value→Shared→Prop}{s:Shared}(h:wpAny (model prog w) A m Q NoE s):wpAny (model prog w) A m Q E s :=
 wpAny_mono h (fun _ _ q=>q) fun _ _ z=>z.elim
def Yr (prog:Program) (w:World) (A:Around) (env:Env) (tg:Expr) (ifs:List Expr) (elt:Expr) (it acc:Value) (again:Shared→Prop) (v:Value) (s1:Shared):Prop :=
 wpAny (model prog w) A (letOwnedTupleGo tg it v) (fun _ s2=>wpAny (model prog w) A (assign tg env v) (fun _ s3 =>
  wpAny (model prog w) A (forIn ifs true fun c r=>if r=true then do let ok ← isTrue c env (eval c env);pure (ForInStep.yield ok) else pure (ForInStep.yield r)) (fun ok s4 =>
   if ok=true then wpAny (model prog w) A (eval elt env) (fun x s5=>wpAny (model prog w) A (call (.builtin "list.append") [acc,x]) (fun _ s6=>again s6) NoE s5) NoE s4
   else again s4) NoE s3) NoE s2) NoE s1
theorem uz {elt tg iter:Expr}{ifs:List Expr}{scope:Scope}{pos:Pos}{it acc:Value}{env:Env}(J:Nat→Shared→Prop)
  (turn:∀ n s,J n s→wpAny (model prog w) A (pyNext it) (fun r s1=>match r with
   |none=>R (.ok .next) s1
   |some v=>Yr prog w A env tg ifs elt it acc (fun s6=>∃ m,m<n∧J m s6) v s1) NoE s)
  (n:Nat) (h:J n s):codeAny (model prog w) A (.compLoop (.ListComp elt [⟨tg,iter,ifs,0⟩] scope pos) 0 it acc env) R s:=by
 refine codeAny_loop rfl J (fun n s hJ=>?_) n h
 show wpAny _ A ((compTurn (.ListComp elt [⟨tg,iter,ifs,0⟩] scope pos) 0 it acc env).onRaise (fun x=>do noteFrame x env;theTreesLotGoes x)) _ _ s
 refine wpAny_noted (zbA ?_)
 rw[compTurn_list]
 refine wpAny_bind (wpAny_standAt (wpAny_bind (thn (turn n s hJ) fun r s1 h1=>?_)))
 cases r with
 |none=>exact wpAny_pure h1
 |some v =>
  refine wpAny_bind (thn h1 fun _ s2 h2=>wpAny_bind (thn h2 fun _ s3 h3=>wpAny_bind (thn h3 fun ok s4 h4=>?_)))
  cases ok with
  |false=>exact wpAny_pure ⟨rfl,h4⟩
  |true=>exact wpAny_bind (wpAny_bind (thn h4 fun x s5 h5=>wpAny_bind (thn h5 fun _ s6 h6=>wpAny_pure (wpAny_pure ⟨rfl,h6⟩))))
end
theorem vE {env:Env}:∀ (names:List (Str×NameKind)) (acc:List (Str×Addr)),(∀ y∈names,y.2=.free→∃ c,env.cells.lookup y.1=some c)→(∀ x c,acc.lookup x=some c→env.cells.lookup x=some c) →
  ∃ cl,(forIn names acc (fun(y:Str×NameKind) (cs:List (Str×Addr))=>(if (y.2 == NameKind.free)=true then(do let c ← cellOf env y.1;pure (ForInStep.yield ((y.1,c)::cs))) else pure (ForInStep.yield cs):Sem (ForInStep (List (Str×Addr))))))=(pure cl:Sem (List (Str×Addr))) ∧
   (∀ x c,cl.lookup x=some c→env.cells.lookup x=some c)∧(∀ x,(acc.lookup x).isSome=true→(cl.lookup x).isSome=true)∧(∀ y∈names,y.2=.free→(cl.lookup y.1).isSome=true)
 |[],acc,_,h2=>⟨acc,rfl,h2,fun _ h=>h,fun y hy=>by cases hy⟩
 |(n,k)::r,acc,h1,h2=>by
  have h1':∀ y∈r,y.2=.free→∃ c,env.cells.lookup y.1=some c:=fun y hy=>h1 y (List.mem_cons_of_mem _ hy)
  by_cases hk:k=.free
  ·subst hk
   obtain⟨c,hc⟩:=h1 (n,.free) List.mem_cons_self rfl
   have h2':∀ x c',(((n,c)::acc:List (Str×Addr)).lookup x)=some c'→env.cells.lookup x=some c':=fun x c' e=>by
    rw[List.lookup_cons] at e
    by_cases hx:(x == n)=true
    ·rw[hx] at e
     cases e
     rw[beq_iff_eq.mp hx]
     exact hc
    ·rw[Bool.not_eq_true] at hx
     rw[hx] at e
     exact h2 x c' e
   obtain⟨cl,e,p1,p2,p3⟩:=vE r ((n,c)::acc) h1' h2'
   refine⟨cl,?_,p1,fun x hx=>p2 x ?_,fun y hy hf=>?_⟩
   ·rw[List.forIn_cons]
    have q:cellOf env n=pure c:=by unfold cellOf;rw[hc]
    simp only[beq_self_eq_true,if_true,q,pure_bind]
    exact e
   ·rw[List.lookup_cons]
    cases q:x == n with
    |true=>rfl
    |false=>exact hx
   ·rcases List.mem_cons.mp hy with rfl | hy
    ·exact p2 n (by rw[List.lookup_cons,beq_self_eq_true];rfl)
    ·exact p3 y hy hf
  ·obtain⟨cl,e,p1,p2,p3⟩:=vE r acc h1' h2
   have hb:(k == NameKind.free)=false:=by simpa using hk
   refine⟨cl,?_,p1,p2,fun y hy hf=>?_⟩
   ·rw[List.forIn_cons]
    simp only[hb,Bool.false_eq_true,if_false,pure_bind]
    exact e
   ·rcases List.mem_cons.mp hy with rfl | hy
    ·exact absurd hf hk
    ·exact p3 y hy hf
structure Clos (env:Env) (scope:Scope) (cl:List (Str×Addr)):Prop where
 eq:closureFor scope env=pure cl
 sub:∀ x c,cl.lookup x=some c→env.cells.lookup x=some c
 all:∀ y∈scope.names,y.2=.free→(cl.lookup y.1).isSome=true
theorem Yk {env:Env}{scope:Scope}(h:∀ y∈scope.names,y.2=.free→∃ c,env.cells.lookup y.1=some c):∃ cl,Clos env scope cl:=by
 obtain⟨cl,e,p1,p2,p3⟩:=vE (env:=env) scope.names [] h (fun x c z=>by simp at z)
 refine⟨cl,⟨?_,p1,p3⟩⟩
 have q:closureFor scope env=(forIn scope.names [] (fun(y:Str×NameKind) (cs:List (Str×Addr))=>(if (y.2 == NameKind.free)=true then(do let c ← cellOf env y.1;pure (ForInStep.yield ((y.1,c)::cs))) else pure (ForInStep.yield cs):Sem (ForInStep (List (Str×Addr))))) >>= fun s=>pure s):=rfl
 rw[q,e,pure_bind]
abbrev yT (X:Cx) (scope:Scope) (N':List Str) (cl:List (Str×Addr)) (C:Addr) (s₀:Shared) (H₀:Hp) (fp:List Addr):Cx :=
 { X with N:=N',s₀:=s₀,H₀:=H₀,env:=compEnvC scope cl C X.env,outer:=X.stack,ex:=fp,fn:=fun _=>false,pn:=[],xe:=NoE }
structure Blk where
 cl:List (Str×Addr)
 C:Addr
 s₀:Shared
 H₀:Hp
 fp:List Addr
abbrev cxB (X:Cx) (scope:Scope) (N':List Str) (b:Blk):Cx:=yT X scope N' b.cl b.C b.s₀ b.H₀ b.fp
def Z5:Option NameKind→Bool
 |some .cell=>true
 |some .free=>true
 |_=>false
theorem xC {k:Option NameKind}(h:Z5 k=true):k=some .cell∨k=some .free:=by
 cases k with
 |none=>cases h
 |some k=>cases k<;>first | exact .inl rfl | exact .inr rfl | cases h
def Xo (N:List Str) (kd kd':Str→Option NameKind) (N':List Str) (t:Nat):List Nat→Nat→Bool
 |[],k=>N'.length == t+k
 |j::r,k=>(match N[j]?,N'[t+k]? with
  |some x,some y=>(x == y)&&Z5 (kd x)&&Z5 (kd' x)
  |_,_=>false)&&Xo N kd kd' N' t r (k+1)
theorem w6 {N:List Str}{kd kd':Str→Option NameKind}{N':List Str}{t:Nat}:∀ {caps:List Nat}{k:Nat},Xo N kd kd' N' t caps k=true→N'.length=t+k+caps.length
 |[],k,h=>by
  have:=beq_iff_eq.mp h
  simpa using this
 |j::r,k,h=>by
  have:=w6 (Bool.and_eq_true_iff.mp h).2
  rw[List.length_cons]
  omega
theorem ub {N:List Str}{kd kd':Str→Option NameKind}{N':List Str}{t:Nat}:∀ {caps:List Nat}{k i j:Nat},Xo N kd kd' N' t caps k=true→caps[i]?=some j →
  ∃ x,N[j]?=some x∧N'[t+k+i]?=some x∧Z5 (kd x)=true∧Z5 (kd' x)=true
 |[],_,_,_,_,e=>by simp at e
 |j::r,k,0,j',h,e=>by
  simp at e
  subst e
  have h1:=(Bool.and_eq_true_iff.mp h).1
  cases q:N[j]? with
  |none=>rw[q] at h1;cases h1
  |some x =>
   cases q':N'[t+k]? with
   |none=>rw[q,q'] at h1;cases h1
   |some y =>
    rw[q,q'] at h1
    obtain⟨h2,h3⟩:=Bool.and_eq_true_iff.mp h1
    obtain⟨h4,h5⟩:=Bool.and_eq_true_iff.mp h2
    obtain rfl:x=y:=beq_iff_eq.mp h4
    exact⟨x,rfl,rfl,h5,h3⟩
 |j::r,k,i+1,j',h,e=>by
  obtain⟨x,a,b,c,d⟩:=ub (i:=i) (Bool.and_eq_true_iff.mp h).2 (by simpa using e)
  refine⟨x,a,?_,c,d⟩
  have q:t+(k+1)+i=t+k+(i+1):=by omega
  rw[← q]
  exact b
structure CompOk (X:Cx) (scope:Scope) (N':List Str) (t:Nat) (caps:List Nat):Prop where
 kind:scope.kind=.function
 shape:(scope.names.all fun y=>(y.2 == .local&&scope.names.lookup y.1 == some .local)||(y.2 == .free&&Z5 (X.env.kindOf y.1))||(y.2 == .globalImplicit))=true
 cap:Xo X.N X.env.kindOf (compEnvC scope [] 0 X.env).kindOf N' t caps 0=true
theorem CompOk.at {X:Cx}{scope:Scope}{N':List Str}{t:Nat}{caps:List Nat}(S:CompOk X scope N' t caps){y:Str×NameKind}(hy:y∈scope.names) :
  y.2≠.cell∧(y.2=.local→scope.names.lookup y.1=some .local)∧(y.2=.free→Z5 (X.env.kindOf y.1)=true):=by
 have h:=List.all_eq_true.mp S.shape y hy
 obtain⟨n,k⟩:=y
 cases k<;>simp at h<;>simp[h]
def Ue (t:Nat) (caps:List Nat) (σ:St):St:=List.replicate t none++caps.map fun j=>(σ[j]?).join
theorem xn {scope:Scope}{env:Env}{x:Str}:∀ {names:List (Str×NameKind)},(∀ y∈names,y.2≠.cell)→Z5 ((names.map fun(y:Str×NameKind)=>if (y.2 == NameKind.free&&env.scope.kind == .function&&env.kindOf y.1 == some .cell)=true then(y.1,NameKind.cell) else(y.1,y.2)).lookup x)=true →
  (x,NameKind.free)∈names
 |[],_,h=>by simp[Z5] at h
 |(n,k)::r,hn,h=>by
  have hr:∀ y∈r,y.2≠.cell:=fun y hy=>hn y (List.mem_cons_of_mem _ hy)
  have hk:k≠.cell:=hn (n,k) List.mem_cons_self
  rw[List.map_cons] at h
  by_cases hx:(x == n)=true
  ·obtain rfl:x=n:=beq_iff_eq.mp hx
   have q:k=.free:=by
    by_cases hf:k=.free
    ·exact hf
    ·exfalso
     have hb:(k == NameKind.free)=false:=by simpa using hf
     simp only[hb,Bool.false_and,Bool.false_eq_true,if_false,List.lookup_cons,beq_self_eq_true] at h
     cases k<;>simp[Z5] at h hk hf
   subst q
   exact List.mem_cons_self
  ·rw[Bool.not_eq_true] at hx
   refine List.mem_cons_of_mem _ (xn (scope:=scope) (env:=env) hr ?_)
   by_cases hc:(k == NameKind.free&&env.scope.kind == .function&&env.kindOf n == some .cell)=true
   ·simp only[hc,if_true,List.lookup_cons,hx] at h
    exact h
   ·rw[Bool.not_eq_true] at hc
    simp only[hc,Bool.false_eq_true,if_false,List.lookup_cons,hx] at h
    exact h
def uC (J:It) (g:TG) (tc:TT) (te:TE) (Q:VK) (D:Addr) (τ0:St) (H0:Hp):Prop :=
 ∃ W:Nat→Nat→List V→St→Hp→Prop,(∃ m,W 0 m [] τ0 H0)∧∀ i m ys τ H,W i m ys τ H →
  (J.stop i H∧Q (.ref D) H)∨(J.go i H∧∃ N:List V→St→Hp→Prop,(∀ zs τ' H',N zs τ' H'→∃ m',m'<m∧W (i+1) m' zs τ' H')∧∀ x H3,J.yld i H x H3→g x τ H3 fun τ2 H4=>tc τ2 H4 fun b H5 =>
   if b=true then te τ2 H5 fun y H6=>H6 D=some (.lst ys)∧ys.length<sizeLine∧N (ys++[y]) τ2 (upd H6 D (.lst (ys++[y]))) else N ys τ2 H5)
def YD (wi:TI) (g:Blk→TG) (tc:Blk→TT) (te:Blk→TE) (t:Nat) (caps:List Nat):TE:=fun σ H Q =>
 wi σ H fun J H1=>∀ D,H1 D=none→∀ b:Blk,uC J (g b) (tc b) (te b) Q D (Ue t caps σ) (upd H1 D (.lst []))
theorem vD {J:It}{g:TG}{tc:TT}{te:TE}{Q:VK}{D:Addr}{τ0:St}{H0:Hp}(n:Nat) (Pv:Nat→List V→St→Hp→Prop) (h0:Pv 0 [] τ0 H0)
  (hst:∀ zs τ H,Pv n zs τ H→J.stop n H∧Q (.ref D) H)
  (hgo:∀ i zs τ H,i<n→Pv i zs τ H→J.go i H∧∀ x H3,J.yld i H x H3→g x τ H3 fun τ2 H4=>tc τ2 H4 fun b H5 =>
   if b=true then te τ2 H5 fun y H6=>H6 D=some (.lst zs)∧zs.length<sizeLine∧Pv (i+1) (zs++[y]) τ2 (upd H6 D (.lst (zs++[y]))) else Pv (i+1) zs τ2 H5):uC J g tc te Q D τ0 H0:=by
 refine⟨fun i m zs τ H=>m=n-i∧i≤n∧Pv i zs τ H,⟨n,by simp,Nat.zero_le _,h0⟩,?_⟩
 rintro i m zs τ H ⟨rfl,hi,p⟩
 by_cases hlt:i<n
 ·obtain⟨go,step⟩:=hgo i zs τ H hlt p
  exact .inr ⟨go,Pv (i+1),fun zs' τ' H' p'=>⟨n-(i+1),by omega,rfl,hlt,p'⟩,step⟩
 ·have e:i=n:=by omega
  subst e
  exact .inl (hst zs τ H p)
theorem zU {K:PySem.W.Frag}{a:Addr}{xs:List V}{g:TG}{tc:TT}{te:TE}{Q:VK}{D:Addr}{τ0:St}{H0:Hp}(Pv:Nat→List V→St→Hp→Prop) (h0:Pv 0 [] τ0 H0) (hl:∀ i zs τ H,Pv i zs τ H→SqL K H a xs)
  (hs:∀ i x zs τ H,xs[i]?=some x→Pv i zs τ H→g x τ H fun τ2 H4=>tc τ2 H4 fun b H5 =>
   if b=true then te τ2 H5 fun y H6=>H6 D=some (.lst zs)∧zs.length<sizeLine∧Pv (i+1) (zs++[y]) τ2 (upd H6 D (.lst (zs++[y]))) else Pv (i+1) zs τ2 H5)
  (hd:∀ zs τ H,Pv xs.length zs τ H→Q (.ref D) H):uC (Itl K a) g tc te Q D τ0 H0 :=
 vD xs.length Pv h0 (fun zs τ H p=>⟨⟨xs,hl _ _ _ _ p,Nat.le_refl _⟩,hd zs τ H p⟩) fun i zs τ H hi p=>⟨⟨xs,xs[i],hl _ _ _ _ p,by simp[hi]⟩,fun x H3 y=>by
  obtain⟨e,y⟩:=y
  subst e
  exact hs i x zs τ _ (y xs (hl _ _ _ _ p)) p⟩
theorem Xm {K:PySem.W.Frag}{a:Addr}{xs:List V}{g:TG}{tc:TT}{te:TE}{Q:VK}{D:Addr}{τ0:St}{H0:Hp}(Pv:Nat→List V→St→Hp→Prop) (h0:Pv 0 [] τ0 H0) (hl:∀ i zs τ H,Pv i zs τ H→SqT K H a xs)
  (hs:∀ i x zs τ H,xs[i]?=some x→Pv i zs τ H→g x τ H fun τ2 H4=>tc τ2 H4 fun b H5 =>
   if b=true then te τ2 H5 fun y H6=>H6 D=some (.lst zs)∧zs.length<sizeLine∧Pv (i+1) (zs++[y]) τ2 (upd H6 D (.lst (zs++[y]))) else Pv (i+1) zs τ2 H5)
  (hd:∀ zs τ H,Pv xs.length zs τ H→Q (.ref D) H):uC (Itt K a) g tc te Q D τ0 H0 :=
 vD xs.length Pv h0 (fun zs τ H p=>⟨⟨xs,hl _ _ _ _ p,Nat.le_refl _⟩,hd zs τ H p⟩) fun i zs τ H hi p=>⟨⟨xs,xs[i],hl _ _ _ _ p,by simp[hi]⟩,fun x H3 y=>by
  obtain⟨e,y⟩:=y
  subst e
  exact hs i x zs τ _ (y xs (hl _ _ _ _ p)) p⟩
section
variable {X:Cx}{tg iter elt:Expr}{ifs:List Expr}{scope:Scope}{pos:Pos}{N':List Str}{t:Nat}{caps:List Nat}{g:Blk→TG}{tc:Blk→TT}{te:Blk→TE}{wi:TI}
theorem FpOk.heap {pins:List (Addr×Obj)}{H H':Hp}{b:Addr}(f:FpOk X pins H b) (h:H' b=none):FpOk X pins H' b:=⟨h,f.2⟩
theorem w4 {cl:List (Str×Addr)}{J:It}{fp:List Addr}{it:Addr}{tn:Nat→Heap→Prop}{pins:List (Addr×Obj)}{σ:St}{H2:Hp}{s2:Shared}{Q:VK}{E:Value→Shared→Prop}
  (hc:X.calm=true) (S:CompOk X scope N' t caps) (L:Clos X.env scope cl)
  (hg:∀ b,PG (cxB X scope N' b) tg (g b)) (ht:∀ b,PTs (cxB X scope N' b) ifs (tc b)) (he:∀ b,PE (cxB X scope N' b) elt (te b))
  (I2:Inv X pins σ H2 s2) (T:Turn X.prog X.w X.K tg J fp it tn) (st2:tn 0 s2.heap) (f2:∀ b∈fp,FpOk X pins H2 b)
  (R:∀ D,H2 D=none→∀ b,uC J (g b) (tc b) (te b) Q D (Ue t caps σ) (upd H2 D (.lst []))) :
  wpAny (model X.prog X.w) X.A (newList []) (fun acc s3=>wpAny (model X.prog X.w) X.A (newFunctionEnv scope X.env.globals cl [] X.env.qual none .none (some X.env)) (fun cenv s4 =>
   codeAny (model X.prog X.w) X.A (.compStart (.ListComp elt [⟨tg,iter,ifs,0⟩] scope pos) 0 (.ref it) acc { cenv with scope:=relabel scope X.env })
    (fun r s'=>∃ (D:Addr) (H':Hp) (m:Str→Option Value),acc=.ref D∧r=.ok .next∧Inv X pins σ H' s'∧s'.heap.Ns cenv.locals m∧FpOk X pins H' cenv.locals∧Q (.ref D) H') s4) E s3) E s2:=by
 refine wpAny_newObj_type ?_
 have I3:Inv X pins σ (upd H2 s2.heap.objs.size (.lst [])) { s2 with heap:=s2.heap.push { cls:=.type "list",data:=.seq ([]:List Value).toArray } }:=I2.lnew (t':=s2.toks) .nil (Nat.zero_le _)
 have hD:H2 s2.heap.objs.size=none:=I2.fresh
 have R:=R _ hD
 generalize hs3:({ s2 with heap:=s2.heap.push { cls:=.type "list",data:=.seq ([]:List Value).toArray } }:Shared)=s3 at I3 ⊢
 generalize hH3:upd H2 s2.heap.objs.size (.lst [])=H3 at I3 R
 generalize hDD:s2.heap.objs.size=D at R ⊢
 have k3:∀ b o,s2.heap.get? b=some o→s3.heap.get? b=some o:=fun b o e=>by rw[← hs3];exact Heap.get?_push_of_some _ e
 have st3:tn 0 s3.heap:=T.keep 0 _ _ st2 fun b _ o e=>k3 b o e
 have fpn:∀ b∈fp,H3 b=none:=fun b hb=>by
  obtain⟨o,e,_⟩:=T.obj 0 _ st2 b hb
  rw[← hH3,upd_ne (Nat.ne_of_lt (Heap.lt_size e))]
  exact(f2 b hb).1
 have f3:∀ b∈fp,FpOk X pins H3 b:=fun b hb=>(f2 b hb).heap (fpn b hb)
 refine wpAny_newFunctionEnv (fun y hy=>(S.at hy).1) (by intro y hy;simp at hy) (fun h4 hns hsb=>?_) S.kind
 generalize hC:s3.heap.objs.size=C at hns hsb ⊢
 have k4:∀ b o,s3.heap.get? b=some o→h4.get? b=some o:=fun b o e=>hsb.extBut b o (by rw[← hC];exact Nat.ne_of_lt (Heap.lt_size e)) (Heap.get?_push_of_some _ e)
 have cellsub:∀ x c,(yT X scope N' cl C s3 H3 fp).env.cells.lookup x=some c→X.env.cells.lookup x=some c:=L.sub
 have hnc:∀ y∈scope.names,y.2≠.cell:=fun y hy=>(S.at hy).1
 have fC:∀ {H':Hp},H' C=none→FpOk X pins H' C:=fun h=>by rw[← hC] at h ⊢;exact I3.fpOk (Nat.le_refl _) h
 have I4:Inv (yT X scope N' cl C s3 H3 fp) [] (Ue t caps σ) H3 { s3 with heap:=h4,toks:=s3.toks+([]:List (Str×Value)).length }:=by
  refine⟨⟨I3.ok.mod,S.kind,I3.ok.glob,I3.ok.blt,Nat.le_of_eq hC,fun x y c h1 h2=>I3.ok.inj x y c (L.sub _ _ h1) (L.sub _ _ h2),fun x hx=>?_,fun x c h _=>absurd (show false=true from h) Bool.false_ne_true,I3.ok.hd,I3.ok.frames,.inl rfl,fun b hb=>⟨?_,fun x c e=>(f3 b hb).2.2.2.2.1 x c (L.sub x c e)⟩,
    I3.bs,Nat.le_trans I3.ok.bsz I3.sz,fun b o e hb=>?_,fun b hb z=>?_,I3.stack,I3.stkFree⟩,
   rfl,I3.bare,Un.kept k4,⟨_,hns,fun i x v e1 e2 e3=>?_⟩,fun x c e=>?_,(by rw[← hC];exact I3.fresh),fun x c e=>I3.freeC x c (L.sub x c e),fun p hp=>?_,I3.hok.kept k4,?_⟩
  ·have hx':Z5 ((relabel scope X.env).names.lookup x)=true:=by
    rcases hx with q | q
    ·rw[show(relabel scope X.env).names.lookup x=some .cell from q];rfl
    ·rw[show(relabel scope X.env).names.lookup x=some .free from q];rfl
   exact Option.isSome_iff_exists.mp (L.all _ (xn (scope:=scope) hnc hx') rfl)
  ·obtain⟨o,e,_⟩:=T.obj 0 _ st3 b hb
   rw[← hC]
   exact Nat.ne_of_lt (Heap.lt_size e)
  ·rcases(f3 b hb).2.2.2.1 with z | z
   ·exact I3.ok.noex b o e z
   ·exact absurd (Nat.lt_of_lt_of_le (Nat.lt_of_lt_of_le (Heap.lt_size e) I3.ok.bsz) z) (Nat.lt_irrefl _)
  ·rcases List.mem_cons.mp (I3.stkSub b z) with q | q
   ·exact(f3 b hb).2.1 q
   ·exact(f3 b hb).2.2.1 q
  ·-- a name that was taken over
   unfold Ue at e2
   by_cases hi:i<t
   ·rw[List.getElem?_append_left (by simpa using hi),List.getElem?_replicate] at e2
    simp[hi] at e2
   ·rw[List.getElem?_append_right (by simpa using hi),List.length_replicate,List.getElem?_map] at e2
    cases q:caps[i-t]? with
    |none=>rw[q] at e2;simp at e2
    |some j =>
     rw[q] at e2
     obtain⟨y,c1,c2,c3,c4⟩:=ub S.cap q
     have ei:t+0+(i-t)=i:=by omega
     rw[ei] at c2
     have exy:x=y:=Option.some.inj ((show N'[i]?=some x from e1).symm.trans c2)
     subst exy
     have e2':σ[j]?=some (some v):=by
      have e2:(σ[j]?).join=some v:=Option.some.inj e2
      cases r:σ[j]? with
      |none=>rw[r] at e2;cases e2
      |some z =>
       rw[r] at e2
       have e2:z=some v:=e2
       rw[e2]
     obtain⟨m,hn,hl⟩:=I3.loc
     have cf:=xC c3
     obtain⟨u,ru,lk⟩:=hl j x v c1 e2' (.inr (by
      rcases cf with z | z
      ·exact .inl z
      ·exact .inr z))
     refine⟨u,ru,.inr ⟨xC c4,?_⟩⟩
     rcases lk with⟨z,_⟩ | ⟨_,c,ec,zc⟩
     ·rcases cf with w | w<;>(rw[z] at w;cases w)
     ·have hfree:=xn (scope:=scope) (env:=X.env) (x:=x) hnc c4
      obtain⟨c',ec'⟩:=Option.isSome_iff_exists.mp (L.all _ hfree rfl)
      have:=L.sub _ _ ec'
      rw[show X.env.cells.lookup x=some c from ec] at this
      cases this
      obtain⟨o,ho,hd⟩:=zc
      exact⟨c,ec',o,k4 _ _ ho,hd⟩
  ·obtain⟨v,o,ho,hd⟩:=I3.cell x c (L.sub x c e)
   exact⟨v,o,k4 _ _ ho,hd⟩
  ·exact absurd (show p∈([]:List (Addr×Obj)) from hp) (by simp)
  ·unfold Ue
   rw[List.length_append,List.length_replicate,List.length_map,w6 S.cap]
   omega
 obtain⟨W,⟨m0,w0⟩,turn⟩:=R ⟨cl,C,s3,H3,fp⟩
 -- back to the frame outside
 have back:∀ {τ:St}{H':Hp}{s':Shared},Inv (yT X scope N' cl C s3 H3 fp) [] τ H' s'→Inv X pins σ H' s':=fun {τ H' s'} J=>by
  refine I3.call' (ch:=fp) (J.os.trans ?_) J.base J.hok J.bare fun b hb=>⟨(f3 b hb).2.2.2.1,(f3 b hb).2.1,(f3 b hb).2.2.2.2.1,(f3 b hb).2.2.2.2.2⟩
  rfl
 have stat:∀ {H':Hp},(∀ b∈fp,H' b=none)→∀ b∈fp,FpOk (yT X scope N' cl C s3 H3 fp) [] H' b:=fun {H'} hn b hb=>by
  refine⟨hn b hb,(I4.ok.exf b hb).1,I4.ok.exfs b hb,.inl hb,(I4.ok.exf b hb).2,fun p hp=>?_⟩
  exact absurd (show p∈([]:List (Addr×Obj)) from hp) (by simp)
 have loop:codeAny (model X.prog X.w) X.A (.compLoop (.ListComp elt [⟨tg,iter,ifs,0⟩] scope pos) 0 (.ref it) (.ref D) (compEnvC scope cl C X.env))
   (fun r s'=>∃ (D':Addr) (H':Hp) (m:Str→Option Value),Value.ref D=.ref D'∧r=.ok .next∧Inv X pins σ H' s'∧s'.heap.Ns C m∧FpOk X pins H' C∧Q (.ref D') H') { s3 with heap:=h4,toks:=s3.toks+([]:List (Str×Value)).length }:=by
  refine uz (fun n s'=>∃ i ys τ H',Inv (yT X scope N' cl C s3 H3 fp) [] τ H' s'∧tn i s'.heap∧(∀ b∈fp,H' b=none)∧W i n ys τ H') ?_ m0 ⟨0,[],_,H3,I4,T.keep 0 _ _ st3 fun b _ o e=>k4 b o e,fpn,w0⟩
  rintro n s5 ⟨i,ys,τ,H5,I5,st5,fr5,w5⟩
  rcases turn i n ys τ H5 w5 with⟨stop,q⟩ | ⟨go,N,hN,step⟩
  ·refine thn (T.done (yT X scope N' cl C s3 H3 fp) rfl rfl rfl hc i [] s5 τ H5 NoE I5 (stat fr5) st5 stop) fun r s6 ⟨hr,I6⟩=>?_
   subst hr
   obtain⟨m,hm,_⟩:=id I6.loc
   exact⟨D,H5,m,rfl,rfl,back I6,hm,fC I6.free,q⟩
  ·refine thn (T.item (yT X scope N' cl C s3 H3 fp) rfl rfl rfl hc i [] s5 τ H5 NoE I5 (stat fr5) st5 go) fun r s6 ⟨u,hr,h6⟩=>?_
   subst hr
   refine thn h6 fun _ s7 hq0=>?_
   obtain⟨x,H7,I7,r7,y7,st7,fr7⟩:=hq0
   have I7':=I7.pinned (stat fr7) (T.obj _ _ st7)
   have again:∀ {τ9:St}{H9:Hp}{s9:Shared}{ys9:List V}{m':Nat},Inv (yT X scope N' cl C s3 H3 fp) ([]++wP fp s7.heap) τ9 H9 s9→m'<n→W (i+1) m' ys9 τ9 H9 →
     ∃ m,m<n∧∃ i ys τ H',Inv (yT X scope N' cl C s3 H3 fp) [] τ H' s9∧tn i s9.heap∧(∀ b∈fp,H' b=none)∧W i m ys τ H':=fun {τ9 H9 s9 ys9 m'} I9 hm w9=>by
    refine⟨m',hm,i+1,ys9,τ9,H9,I9.unpinned,T.keep _ _ _ st7 fun b hb o e=>(I9.pin (b,o) (List.mem_append_right _ (List.mem_append_right _ (yO hb e)))).1,fun b hb=>?_,w9⟩
    obtain⟨o,e,_⟩:=T.obj _ _ st7 b hb
    exact(I9.pin (b,o) (List.mem_append_right _ (List.mem_append_right _ (yO hb e)))).2.1
   refine thn (hg ⟨cl,C,s3,H3,fp⟩ _ s7 τ H7 x u _ I7' r7 (step x H7 y7)) fun _ s8 hq0=>?_
   obtain⟨τ8,H8,I8,q8⟩:=hq0
   refine thn (ht ⟨cl,C,s3,H3,fp⟩ _ s8 τ8 H8 _ I8 q8) fun ok s9 hq0=>?_
   obtain⟨H9,I9,q9⟩:=hq0
   cases ok with
   |false =>
    obtain⟨m',hm,w9⟩:=hN _ _ _ (show N ys τ8 H9 from q9)
    exact again I9 hm w9
   |true =>
    refine thn (he ⟨cl,C,s3,H3,fp⟩ _ s9 τ8 H9 _ I9 q9) fun y s10 hq0=>?_
    obtain⟨z,H10,I10,r10,hl,hz,q10⟩:=hq0
    refine thn (zQ _ s10 τ8 H10 (.ref D) [z] (.ref D) [y] (fun v H11=>v=.non∧H11=upd H10 D (.lst (ys++[z]))) I10 rfl (.cons r10 .nil) ⟨D,ys,z,rfl,rfl,hl,hz,rfl,rfl⟩) fun _ s11 hq0=>?_
    obtain⟨v,H11,I11,_,_,e11⟩:=hq0
    subst e11
    obtain⟨m',hm,w10⟩:=hN _ _ _ q10
    exact again I11 hm w10
 exact codeAny_compStart_list loop (T.self _ 0 _ _ _ (T.keep 0 _ _ st3 fun b _ o e=>k4 b o e) loop)
theorem Wq (hc:X.calm=true) (S:CompOk X scope N' t caps) (hi:PI X tg iter wi)
  (hg:∀ b,PG (cxB X scope N' b) tg (g b)) (ht:∀ b,PTs (cxB X scope N' b) ifs (tc b)) (he:∀ b,PE (cxB X scope N' b) elt (te b))
  (hs:∀ x,foldedSetIterable iter X.env x=pure x:=by intro _;rfl):PE X (.ListComp elt [⟨tg,iter,ifs,0⟩] scope pos) (YD wi g tc te t caps):=by
 intro pins s σ H Q I h
 obtain⟨cl,L⟩:=Yk (env:=X.env) (scope:=scope) fun y hy hf=>I.ok.has y.1 (xC ((S.at hy).2.2 hf))
 rw[eval_ListComp]
 refine wpAny_comprehension_free (use:=none) rfl hs L.eq S.kind (fun y hy=>(S.at hy).2.1) (thn (hi pins s σ H _ I h) fun x s1 h1=>thn h1 fun itv s2 h2=>?_)
 obtain⟨it,fp,tn,J,H2,rfl,I2,T,st2,f2,R⟩:=h2
 refine thn (w4 hc S L hg ht he I2 T st2 f2 R) fun acc s3 h3=>thn h3 fun cenv s4 h4=>codeAny_mono h4 fun r s' hr=>?_
 obtain⟨D,H',m,rfl,rfl,I',hm,fC,q⟩:=hr
 obtain⟨c0,c1,c2,c3,c4,c5⟩:=fC
 exact⟨m,hm,fun h' sb=>⟨.ref D,H',I'.turned (t':=s'.toks) (fun b o hb e=>sb.extBut b o hb e) c0 c1 c3 c4 c5,rfl,q⟩⟩
theorem ur {i:Nat}{y:Str}{py spos:Pos}(hc:X.calm=true) (hN:X.N.Nodup) (hiy:X.N[i]?=some y) (hy:Loc X.env.scope y) (S:CompOk X scope N' t caps) (hi:PI X tg iter wi)
  (hg:∀ b,PG (cxB X scope N' b) tg (g b)) (ht:∀ b,PTs (cxB X scope N' b) ifs (tc b)) (he:∀ b,PE (cxB X scope N' b) elt (te b))
  (hsw:swapsWith (.ListComp elt [⟨tg,iter,ifs,0⟩] scope pos) (some (.Name y py)) spos.line X.env=pure true:=by rfl)
  (hs:∀ x,foldedSetIterable iter X.env x=pure x:=by intro _;rfl) (hf:X.fn y=true∨X.env.scope.names.lookup y=some .local:=by first | exact .inl rfl | exact .inr rfl | assumption) :
  PS X (.Assign [.Name y py] (.ListComp elt [⟨tg,iter,ifs,0⟩] scope pos) spos) (WM (YD wi g tc te t caps) (vA i)):=by
 intro pins s σ H D' I h
 obtain⟨cl,L⟩:=Yk (env:=X.env) (scope:=scope) fun y hy hf=>I.ok.has y.1 (xC ((S.at hy).2.2 hf))
 rw[exec_Assign_Name_used _ _ _ _ hsw]
 refine wpAny_bind (wpAny_standAt (wpAny_bind ?_))
 show wpAny _ X.A (comprehension (.ListComp elt [⟨tg,iter,ifs,0⟩] scope pos) scope X.env _ (newList []) false (eval iter X.env) (some (assign (.Name y py) X.env)) >>= fun _=>pure ()) _ _ s
 refine wpAny_bind (thn (Q:=fun _ s'=>SP X pins D' .next s') ?_ fun _ s' hq=>wpAny_pure (wpAny_pure hq))
 refine wpAny_comprehension_free (use:=some (assign (.Name y py) X.env)) rfl hs L.eq S.kind (fun y hy=>(S.at hy).2.1) (thn (hi pins s σ H _ I h) fun x s1 h1=>thn h1 fun itv s2 h2=>?_)
 obtain⟨it,fp,tn,J,H2,rfl,I2,T,st2,f2,R⟩:=h2
 refine thn (w4 hc S L hg ht he I2 T st2 f2 R) fun acc s3 h3=>thn h3 fun cenv s4 h4=>codeAny_mono h4 fun r s' hr=>?_
 obtain⟨D,H',m,rfl,rfl,I',hm,fC,q⟩:=hr
 obtain⟨c0,c1,c2,c3,c4,c5⟩:=fC
 show wpAny _ X.A (assign (.Name y py) X.env (.ref D)) _ _ _
 refine wpAny_assign_Name (wI I' hN hiy hy (show RelV (.ref D) (.ref D) from rfl) (fun s'' I'' hq0=>?_) hf)
 obtain⟨a,sb,ha⟩:=hq0
 have hne:cenv.locals≠a:=by
  rcases ha with z | z
  ·rw[z];exact c1
  ·exact fun z'=>c4 y a z z'.symm
 refine⟨m,hm.sameBut sb hne,fun h' sb'=>?_⟩
 exact⟨_,H',I''.turned (t':=s''.toks) (fun b o hb e=>sb'.extBut b o hb e) c0 c1 c3 c4 c5,q⟩
end
def zdL (i j:Int):Prop:=0<j∧j.natAbs.log2<9000
section
variable {X:Cx}
theorem wu:OpR X (binaryOp .FloorDiv) (rI zdL fun i j=>.int (i/j)):=opI fun i j _ _ _ _ _ hc q=>by
 have e:i.fdiv j=i/j:=Int.fdiv_eq_ediv_of_nonneg i (Int.le_of_lt hc.1)
 exact floordiv_int (Ne.symm (Int.ne_of_lt hc.1)) (by rw[e];exact q) (.inl (PyProof.noPylong_of_log2 hc.2))
def zdJ:V→Option Value
 |.ty n=>some (.type n)
 |.ref a=>some (.ref a)
 |_=>none
theorem Xn {c:V}{cv u:Value}(h:zdJ c=some cv) (r:RelV c u):u=cv:=by
 cases c<;>simp[zdJ] at h
 ·exact(show u=Value.ref _ from r).trans h
 ·exact(show u=Value.type _ from r).trans h
def zhS (K:PySem.W.Frag):List V→Hp→VK→Prop:=fun xs H Q=>∃ x c t cv b,xs=[x,c]∧zdJ c=some cv∧TyOf K H x t∧PySem.W.kitOne K t cv=some b∧Q (.bl b) H
theorem zI:yY X (.builtin "isinstance") (zhS X.K):=by
 intro pins s σ H xs us Q I r h
 obtain⟨x,c,t,cv,b,rfl,hc,ty,e,q⟩:=h
 obtain⟨u,v,rfl,r1,r2⟩:=r.two
 obtain rfl:=Xn hc r2
 exact Z3 I r1 ty e fun tk=>⟨.bl b,H,I.tok tk,rfl,q⟩
inductive EqD (K:PySem.W.Frag) (H:Hp):V→V→Bool→Nat→Prop where
 |flat {x y:V}{n:Nat}(fx:xO x=true) (fy:xO y=true):EqD K H x y (eqV x y) n
 |same {a:Addr}{n:Nat}:EqD K H (.ref a) (.ref a) true n
 |lst {a b:Addr}{xs ys:List V}{e:Nat→Bool}{n:Nat}(hne:a≠b) (ha:SqL K H a xs) (hb:SqL K H b ys) (hl:xs.length=ys.length) (h:∀ (j:Nat) x y,xs[j]?=some x→ys[j]?=some y→EqD K H x y (e j) n) :
   EqD K H (.ref a) (.ref b) ((List.range xs.length).all e) (n+1)
 |tup {a b:Addr}{xs ys:List V}{e:Nat→Bool}{n:Nat}(hne:a≠b) (ha:SqT K H a xs) (hb:SqT K H b ys) (hl:xs.length=ys.length) (h:∀ (j:Nat) x y,xs[j]?=some x→ys[j]?=some y→EqD K H x y (e j) n) :
   EqD K H (.ref a) (.ref b) ((List.range xs.length).all e) (n+1)
theorem yk (A:Around):A.in1.units=A.units+1:=rfl
theorem EqD.at {pins:List (Addr×Obj)}{σ:St}{H:Hp}{s:Shared}{x y:V}{b:Bool}{n:Nat}(I:Inv X pins σ H s) (h:EqD X.K H x y b n) :
  ∀ (A:Around) (u v:Value),A.units+n<cLine→RelV x u→RelV y v→SeqAt.EqAt A s u v b:=by
 induction h with
 |flat fx fy=>intro A u v _ rx ry;exact eqAt_V rx ry fx fy
 |same=>intro A u v _ rx ry;cases rx;cases ry;exact SeqAt.EqAt.same _
 | @lst a b xs ys e n hne ha hb hl h ih =>
  intro A u v hu rx ry
  cases rx;cases ry
  obtain⟨i1,r1,p1,_⟩:=I.list ha
  obtain⟨i2,r2,p2,_⟩:=I.list hb
  have l1:=r1.length
  have l2:=r2.length
  refine SeqAt.EqAt.of_refs hne ?_
  have q:=SeqAt.RcAt.lists (A:=A) (s:=s) (e:=e) p1.isList p2.isList (by simp;omega) (by omega) (fun j h1 h2=>?_)
  ·rw[List.size_toArray,← l1] at q
   exact q
  ·have g1:j<xs.length:=by rw[l1];simpa using h1
   have g2:j<ys.length:=by rw[l2];simpa using h2
   obtain⟨u1,e1,q1⟩:=r1.get (i:=j) (x:=xs[j]) (by simp[g1])
   obtain⟨u2,e2,q2⟩:=r2.get (i:=j) (x:=ys[j]) (by simp[g2])
   have f1:i1.toArray[j]=u1:=by
    have:=List.getElem?_eq_some_iff.mp e1
    obtain⟨_,z⟩:=this
    simpa using z
   have f2:i2.toArray[j]=u2:=by
    have:=List.getElem?_eq_some_iff.mp e2
    obtain⟨_,z⟩:=this
    simpa using z
   rw[f1,f2]
   exact ih j _ _ (by simp[g1]) (by simp[g2]) A.in1 u1 u2 (by rw[yk];omega) q1 q2
 | @tup a b xs ys e n hne ha hb hl h ih =>
  intro A u v hu rx ry
  cases rx;cases ry
  obtain⟨i1,r1,p1,_⟩:=I.tuple ha
  obtain⟨i2,r2,p2,_⟩:=I.tuple hb
  have l1:=r1.length
  have l2:=r2.length
  refine SeqAt.EqAt.of_refs hne ?_
  have q:=SeqAt.RcAt.tuples (A:=A) (s:=s) (e:=e) (show s.heap.IsTuple a i1.toArray from p1) (show s.heap.IsTuple b i2.toArray from p2) (by omega) (fun j h1 h2=>?_)
  ·have z:i1.toArray.size=i2.toArray.size:=by simp;omega
   rw[← z,Nat.min_self,beq_self_eq_true,Bool.and_true,List.size_toArray,← l1] at q
   exact q
  ·have g1:j<xs.length:=by rw[l1];simpa using h1
   have g2:j<ys.length:=by rw[l2];simpa using h2
   obtain⟨u1,e1,q1⟩:=r1.get (i:=j) (x:=xs[j]) (by simp[g1])
   obtain⟨u2,e2,q2⟩:=r2.get (i:=j) (x:=ys[j]) (by simp[g2])
   have f1:i1.toArray[j]=u1:=by
    have:=List.getElem?_eq_some_iff.mp e1
    obtain⟨_,z⟩:=this
    simpa using z
   have f2:i2.toArray[j]=u2:=by
    have:=List.getElem?_eq_some_iff.mp e2
    obtain⟨_,z⟩:=this
    simpa using z
   rw[f1,f2]
   exact ih j _ _ (by simp[g1]) (by simp[g2]) A.in1 u1 u2 (by rw[yk];omega) q1 q2
def Ul (K:PySem.W.Frag) (A:Around) (neg:Bool):R2:=fun x y H Q=>∃ (a b:Addr) (xs ys:List V) (e:Nat→Bool) (n:Nat),x=.ref a∧y=.ref b∧((SqL K H a xs∧SqL K H b ys)∨(SqT K H a xs∧SqT K H b ys))∧xs.length=ys.length ∧
 A.units+n+2<cLine∧(∀ (j:Nat) x y,xs[j]?=some x→ys[j]?=some y→EqD K H x y (e j) n)∧Q (.bl (if neg then !(List.range xs.length).all e else(List.range xs.length).all e)) H
theorem xB {pins:List (Addr×Obj)}{σ:St}{H:Hp}{s:Shared}{A:Around}{xs ys:List V}{i1 i2:List Value}{e:Nat→Bool}{n:Nat}(I:Inv X pins σ H s) (r1:Vals xs i1) (r2:Vals ys i2) (hu:A.units+n+2<cLine)
  (h:∀ (j:Nat) x y,xs[j]?=some x→ys[j]?=some y→EqD X.K H x y (e j) n):∀ (j:Nat) (h1:j<i1.toArray.size) (h2:j<i2.toArray.size),SeqAt.EqAt A.in1 s i1.toArray[j] i2.toArray[j] (e j):=fun j h1 h2=>by
 have g1:j<xs.length:=by rw[r1.length];simpa using h1
 have g2:j<ys.length:=by rw[r2.length];simpa using h2
 obtain⟨u1,e1,q1⟩:=r1.get (i:=j) (x:=xs[j]) (by simp[g1])
 obtain⟨u2,e2,q2⟩:=r2.get (i:=j) (x:=ys[j]) (by simp[g2])
 have f1:i1.toArray[j]=u1:=by
  obtain⟨_,z⟩:=List.getElem?_eq_some_iff.mp e1
  simpa using z
 have f2:i2.toArray[j]=u2:=by
  obtain⟨_,z⟩:=List.getElem?_eq_some_iff.mp e2
  simpa using z
 rw[f1,f2]
 exact(h j _ _ (by simp[g1]) (by simp[g2])).at I A.in1 u1 u2 (by rw[yk];omega) q1 q2
theorem XM:OpR X (compareOp .Eq) (Ul X.K X.A false):=by
 intro pins s σ H x y v u Q I rx ry h
 obtain⟨a,b,xs,ys,e,n,rfl,rfl,hq,hl,hu,hi,q⟩:=h
 cases rx;cases ry
 rcases hq with⟨h1,h2⟩ | ⟨h1,h2⟩
 ·obtain⟨i1,r1,p1,_⟩:=I.list h1
  obtain⟨i2,r2,p2,_⟩:=I.list h2
  refine SeqAt.eq_listAt p1.isList p2.isList (by simp;rw[← r1.length,← r2.length,hl]) (by omega) (xB I r1 r2 hu hi) ⟨.bl _,H,I,rfl,?_⟩
  rw[List.size_toArray,← r1.length]
  exact q
 ·obtain⟨i1,r1,p1,_⟩:=I.tuple h1
  obtain⟨i2,r2,p2,_⟩:=I.tuple h2
  have z:i1.toArray.size=i2.toArray.size:=by simp;rw[← r1.length,← r2.length,hl]
  refine SeqAt.eq_tupleAt (show s.heap.IsTuple a i1.toArray from p1) (show s.heap.IsTuple b i2.toArray from p2) (by omega) (xB I r1 r2 hu hi) ⟨.bl _,H,I,rfl,?_⟩
  rw[← z,Nat.min_self,beq_self_eq_true,Bool.and_true,List.size_toArray,← r1.length]
  exact q
theorem v3:OpR X (compareOp .NotEq) (Ul X.K X.A true):=by
 intro pins s σ H x y v u Q I rx ry h
 obtain⟨a,b,xs,ys,e,n,rfl,rfl,hq,hl,hu,hi,q⟩:=h
 cases rx;cases ry
 rcases hq with⟨h1,h2⟩ | ⟨h1,h2⟩
 ·obtain⟨i1,r1,p1,_⟩:=I.list h1
  obtain⟨i2,r2,p2,_⟩:=I.list h2
  refine SeqAt.RcNeAt.lists p1.isList p2.isList (by simp;rw[← r1.length,← r2.length,hl]) (by omega) (xB I r1 r2 hu hi) _ _ _ _ ⟨.bl _,H,I,rfl,?_⟩
  rw[List.size_toArray,← r1.length]
  exact q
 ·obtain⟨i1,r1,p1,_⟩:=I.tuple h1
  obtain⟨i2,r2,p2,_⟩:=I.tuple h2
  have z:i1.toArray.size=i2.toArray.size:=by simp;rw[← r1.length,← r2.length,hl]
  refine SeqAt.RcNeAt.tuples (show s.heap.IsTuple a i1.toArray from p1) (show s.heap.IsTuple b i2.toArray from p2) (by omega) (xB I r1 r2 hu hi) _ _ _ _ ⟨.bl _,H,I,rfl,?_⟩
  rw[← z,Nat.min_self,beq_self_eq_true,Bool.and_true,List.size_toArray,← r1.length]
  exact q
end
structure Callee (P:Program) (w:World) (K:PySem.W.Frag) (mg:Str→Option Value) (base:Heap) (x:Str) (f:Addr) (fd:FuncData) (ps:List Str) (k:Nat) (sp:Sp):Prop where
 ok:FnOk P w K mg base CX0 k f fd ps sp
 g:mg x=some (.ref f)
 kp:PySem.W.keepIn K (.ref f)=true
 b:Binds K fd ps []
structure Maker (P:Program) (w:World) (K:PySem.W.Frag) (mg:Str→Option Value) (base:Heap) (x:Str) (C f:Addr) (fd:FuncData) (ps:List Str) (k:Nat) (sp:Sp):Prop where
 ok:FnOk P w K mg base CX0 k f fd ps sp
 g:mg x=some (.ref C)
 mm:Mk K C f
 b:Binds K fd ps []
section
variable {X:Cx}{k:Nat}{f C:Addr}{fd:FuncData}{ps:List Str}{sp:Sp}{x m:Str}{p pos apos:Pos}{e o:Expr}{es:List Expr}{ta:TE}{t:TA}
theorem XF (c:Callee X.prog X.w X.K X.mg X.base x f fd ps k sp) (hr:Room k X.A) (ha:PA X (e::es) t) (hg:Gl X x:=by rfl) (hdb:(x == ("__debug__" : Str))=false:=by decide)
  (he:starEach (e::es) X.env=(false,eval e X.env)::starEach es X.env:=by rfl) (hpl:(backTo pos (starEach es X.env)).any (·.1)=false:=by rfl):PE X (.Call (.Name x p) (e::es) [] pos) (X0 sp [] E0 t) :=
 Wr c.ok hr hg c.g c.kp c.b .nil YO ha hdb he hpl
theorem zhU (c:Maker X.prog X.w X.K X.mg X.base x C f fd ps k sp) (hr:Room (k+1) X.A) (ha:PA X (e::es) t) (hg:Gl X x:=by rfl) (hdb:(x == ("__debug__" : Str))=false:=by decide)
  (he:starEach (e::es) X.env=(false,eval e X.env)::starEach es X.env:=by rfl) (hpl:(backTo pos (starEach es X.env)).any (·.1)=false:=by rfl):PE X (.Call (.Name x p) (e::es) [] pos) (XZ C sp [] E0 t) :=
 Wo c.mm c.ok hr hg c.g c.b .nil YO ha hdb he hpl
def vQ (X:Cx) (m:Str) (ta:TE) (t:TA):TE:=fun σ H Q=>ta σ H fun x H1=>∃ (a C dx:Addr) (fs:List (Str×V)) (f:Addr) (fd:FuncData) (ps:List Str) (k:Nat) (sp:Sp),x=.ref a∧H1 a=some (.ins C dx fs)∧fs.lookup m=none∧Cls X.K C∧Meth X.K C m f ∧
 FnOk X.prog X.w X.K X.mg X.base CX0 k f fd ps sp∧Room k X.A∧Binds X.K fd ps []∧t σ H1 fun vs H2=>sp (x::(vs++[])) H2 Q E0
theorem YM {pl:Sem Bool}(he:PE X o ta) (ha:PA X (e::es) t)
  (hst:starEach (e::es) X.env=(false,eval e X.env)::starEach es X.env:=by rfl) (hpl:(backTo pos (starEach es X.env)).any (·.1)=false:=by rfl)
  (ht:eval (.Call (.Attribute o m apos) (e::es) [] pos) X.env=(do
   let ov ← eval o X.env
   standAt apos.atName
   let (f,first) ← holding [ov] (getMethod ov m pl)
   callWith pos f first (backTo pos (starEach (e::es) X.env)) (backToKw pos (keywordEach [] X.env))):=by rfl) :
  PE X (.Call (.Attribute o m apos) (e::es) [] pos) (vQ X m ta t):=by
 intro pins s σ H Q I h
 refine PySem.W.methodCall_KW (pl:=pl) (thn (he pins s σ H _ I h) fun u s1 hq0=>?_) ht
 obtain⟨x,H1,I1,rx,a,C,dx,fs,f,fd,ps,k,sp,ex,ea,l,cl,hm,F,hr,hb,q⟩:=hq0
 subst ex
 obtain rfl:u=Value.ref a:=rx
 refine yP I1 ea cl hm l ?_
 refine PySem.W.callWith_K (first:=[.ref a]) (h₀:=X.base) I.ok.mod.kin hm.kp (thn (ha pos pins s1 σ H1 _ I1 q) fun us s2 ⟨vs,H2,I2,r,q2⟩=>⟨I2.kIn,?_⟩) hst hpl
 exact vT (us:=.ref a::us) (vs:=.ref a::vs) F hr hb .nil YO I2 (.cons rfl r) q2
theorem ZG {pl:Sem Bool}(he:PE X o ta)
  (ht:eval (.Call (.Attribute o m apos) [] [] pos) X.env=(do
   let ov ← eval o X.env
   standAt apos.atName
   let (f,first) ← holding [ov] (getMethod ov m pl)
   callWith pos f first (backTo pos (starEach [] X.env)) (backToKw pos (keywordEach [] X.env))):=by rfl) :
  PE X (.Call (.Attribute o m apos) [] [] pos) (vQ X m ta Uk):=by
 intro pins s σ H Q I h
 refine PySem.W.methodCall_KW (pl:=pl) (thn (he pins s σ H _ I h) fun u s1 hq0=>?_) ht
 obtain⟨x,H1,I1,rx,a,C,dx,fs,f,fd,ps,k,sp,ex,ea,l,cl,hm,F,hr,hb,q⟩:=hq0
 subst ex
 obtain rfl:u=Value.ref a:=rx
 refine yP I1 ea cl hm l ?_
 exact PySem.W.callWith_K0 (first:=[.ref a]) I1.kIn hm.kp (vT (us:=[.ref a]) (vs:=[.ref a]) F hr hb .nil YO I1 (.cons rfl .nil) q)
end
section
variable {X:Cx}{pins:List (Addr×Obj)}{σ:St}{H:Hp}{s:Shared}{a b:Addr}{xs ys:List V}
theorem Inv.turnedLaid {h':Heap}{t':Nat}{ch:List Addr}{T:Addr}{o:HO}(I:Inv X pins σ H s) (hf:∀ b∈ch,FpOk X pins H b) (k:∀ b u,b∉ch→s.heap.get? b=some u→h'.get? b=some u) (hT:s.heap.objs.size≤T)
  (new:ObjOk X.prog X.w (upd H T o) h' T o):Inv X pins σ (upd H T o) { s with heap:=h',toks:=t' }:=by
 have hn:H T=none:=I.hok.fresh hT
 have nch:∀ b u,H b=some u→b∉ch:=fun b u e hb=>by rw[(hf b hb).1] at e;cases e
 have neT:∀ b u,s.heap.get? b=some u→b≠T:=fun b u e=>Nat.ne_of_lt (Nat.lt_of_lt_of_le (Heap.lt_size e) hT)
 refine I.step (g':=s.gens) (d':=s.drawn) (ch:=ch) (fun b hb=>?_) (fun b u _ _ hc e _=>k b u hc e) (fun b u _ _ hc e _=>⟨u.slots,k b u hc e⟩) (fun b u _ e n=>?_) (fun b u hc e=>⟨u,k b u hc e⟩)
  (fun b zs e=>?_) (fun b ob u e=>?_) (fun b ps e=>⟨#[],?_⟩) (fun m hm=>?_) (fun b u e=>?_) I.bare
 ·exact⟨(hf b hb).2.2.2.1,(hf b hb).2.1,(hf b hb).2.2.2.2.1,(hf b hb).2.2.2.2.2⟩
 ·rw[upd_ne (neT b u e)];exact n
 ·rw[upd_ne (ne_of_none e hn)];exact e
 ·rw[upd_ne (ne_of_none e hn)];exact e
 ·rw[upd_ne (ne_of_none e hn),e];simp
 ·obtain⟨ob,es,ep,ho,r⟩:=hm
  exact⟨ob,es,ep,k _ ob (fun hb=>(hf _ hb).2.1 rfl) ho,r⟩
 ·by_cases hb:b=T
  ·subst hb
   rw[upd_same] at e
   cases e
   exact new
  ·rw[upd_ne hb] at e
   refine(I.hok b u e).stay (fun c v hc q=>k c v ?_ q) (fun c q=>by rw[upd_ne (ne_of_none q hn)];exact q) fun c zs q=>by rw[upd_ne (ne_of_none q hn)];exact q
   rcases hc with z | z
   ·rw[z];exact nch b u e
   ·exact nch c _ z
end
theorem VF {X:Cx}{x:Str}{C:Addr}{pos:Pos}(hm:X.mg x=some (.ref C)) (hg:Gl X x:=by rfl) (hd:(x == ("__debug__" : Str))=false:=by decide):PE X (.Name x pos) (tC (.ref C)):=vo hg hm rfl hd
theorem wb {X:Cx}{x:Str}{n:String}{pos:Pos}(hm:X.mg x=none) (hv:bootBuiltins x=some (.type n)) (hg:Gl X x:=by rfl) (hn:x ≠ "__name__" := by decide) (hd:(x == ("__debug__" : Str))=false:=by decide):PE X (.Name x pos) (tC (.ty n)):=Wt hg hm hv rfl hn hd
theorem zY:bootBuiltins "len" = some (.builtin "len"):=by decide +kernel
theorem Yo:bootBuiltins "int" = some (.type "int"):=by decide +kernel
theorem Ug:bootBuiltins "max" = some (.builtin "max"):=by decide +kernel
theorem zq:bootBuiltins "isinstance" = some (.builtin "isinstance"):=by decide +kernel
theorem yX:bootBuiltins "list" = some (.type "list"):=by decide +kernel
theorem vF:bootBuiltins "dict" = some (.type "dict"):=by decide +kernel
theorem xi:bootBuiltins "sorted" = some (.builtin "sorted"):=by decide +kernel
theorem wB:bootBuiltins "bool" = some (.type "bool"):=by decide +kernel
theorem yA:bootBuiltins "tuple" = some (.type "tuple"):=by decide +kernel
section
variable {X:Cx}
theorem vz:∀ {ns:List Int}{its:List Value},Vals (ns.map V.int) its→IntsAre its ns
 |[],_,r=>by cases r;exact .nil
 |n::ns,_,r=>by
  cases r with
  |cons h t =>
   obtain⟨k,rfl⟩:=h
   exact .cons _ _ (vz t)
theorem ZQ:∀ {ns:List Int}{its:List Value},IntsAre its ns→Vals (ns.map V.int) its
 |_,_,.nil=>.nil
 |_,_,.cons _ _ t=>.cons ⟨_,rfl⟩ (ZQ t)
def Vs (K:PySem.W.Frag):List V→Hp→VK→Prop:=fun xs H Q=>∃ (a:Addr) (ns:List Int),xs=[V.ref a]∧SqL K H a (ns.map V.int)∧ns.length<64∧∀ (p:Addr) (ms:List Int),H p=none→ms.Perm ns→ms.Pairwise (· ≤ ·)→Q (.ref p) (upd H p (.lst (ms.map V.int)))
theorem xq:yY X (.builtin "sorted") (Vs X.K):=by
 intro pins s σ H xs us Q I r h
 obtain⟨a,ns,rfl,ha,h64,q⟩:=h
 obtain⟨u,rfl,ru⟩:=r.one
 cases ru
 obtain⟨its,rv,p,hz⟩:=I.list ha
 have hl:=rv.length
 rw[List.length_map] at hl hz
 refine sorted_ints p.isList (vz rv) (by omega) fun out ms a1 a2 a3=>?_
 have hn:H (s.heap.objs.size+1)=none:=I.hok.fresh (Nat.le_succ _)
 obtain⟨c,hc⟩:=sortedAll_at s.heap its out
 refine⟨.ref _,_,I.laid (a:=s.heap.objs.size+1) (o:=.lst (ms.map V.int)) (t':=s.toks) (fun _ _ e=>sortedAll_old e) (Nat.le_succ _) ⟨?_,out.toList,c,ZQ a1,?_⟩,rfl,q _ ms hn a2 a3⟩
 ·rw[List.length_map,a2.length_eq];exact hz
 ·exact hc
def zgg (K:PySem.W.Frag) (A:Around):R2:=fun x y H Q=>∃ (a b:Addr) (xs ys:List V),x=.ref a∧y=.ref b∧SqL K H a xs∧SqL K H b ys∧xs.length≠ys.length∧A.units<cLine∧Q (.bl true) H
theorem v4:OpR X (compareOp .NotEq) (zgg X.K X.A):=by
 intro pins s σ H x y v u Q I rx ry h
 obtain⟨a,b,xs,ys,rfl,rfl,h1,h2,hl,hu,q⟩:=h
 cases rx;cases ry
 obtain⟨i1,r1,p1,_⟩:=I.list h1
 obtain⟨i2,r2,p2,_⟩:=I.list h2
 exact SeqAt.RcNeAt.lists_lengths p1.isList p2.isList (by simp;rw[← r1.length,← r2.length];exact hl) hu _ _ _ _ ⟨.bl _,H,I,rfl,q⟩
end
theorem we {X:Cx}{f:Value→Value→Sem Value}{r1 r2:R2}(h1:OpR X f r1) (h2:OpR X f r2):OpR X f (fun x y H Q=>r1 x y H Q∨r2 x y H Q):=by
 intro pins s σ H x y v u Q I rx ry h
 rcases h with h | h
 ·exact h1 pins s σ H x y v u Q I rx ry h
 ·exact h2 pins s σ H x y v u Q I rx ry h
end L2
namespace K04
open PySem L2
def Ext (l:Addr) (H H':Hp):Prop:=∀ b o,H b=some o→b≠l→H' b=some o
theorem Ext.trans {l:Addr}{H H1 H2:Hp}(a:Ext l H H1) (b:Ext l H1 H2):Ext l H H2:=fun c o e n=>b c o (a c o e n) n
theorem Ext.same {l:Addr}{H H':Hp}(a:Same H H'):Ext l H H':=fun c o e _=>a c o e
theorem Ext.new {l p:Addr}{H:Hp}{o:HO}(h:H p=none):Ext l H (upd H p o):=fun c u e _=>by rw[upd_ne (ne_of_none e h)];exact e
theorem Ext.at {l:Addr}{H:Hp}{o:HO}:Ext l H (upd H l o):=fun c u e n=>by rw[upd_ne n];exact e
theorem Same.new {p:Addr}{H:Hp}{o:HO}(h:H p=none):Same H (upd H p o):=fun c u e=>by rw[upd_ne (ne_of_none e h)];exact e
theorem WE {i:Nat}{v:V}{τ:St}{H:Hp}{A B:St→Hp→Prop}(h:A (τ.set i (some v)) H):vA i v τ H fun τ2 H4=>W9 τ2 H4 fun b H5=>if b=true then A τ2 H5 else B τ2 H5:=by
 show if true=true then A (τ.set i (some v)) H else B (τ.set i (some v)) H
 exact xh h
theorem Xl {ns:List Int}{lo hi:Option Int}{i:Nat}{y:V}(h:(cutV (ns.map V.int) lo hi)[i]?=some y):∃ c,y=.int c:=by
 have hm:=List.mem_of_getElem? h
 unfold cutV at hm
 obtain⟨c,_,e⟩:=List.mem_map.mp (List.mem_of_mem_drop (List.mem_of_mem_take hm))
 exact⟨c,e.symm⟩
theorem Y9:((1009:Int).natAbs.log2<9000):=by decide
theorem Y8:((2003:Int).natAbs.log2<9000):=by decide
end K04
namespace L2
open PySem
section
variable {X:Cx}{es:List Expr}{t:TA}{te:TE}
theorem zhX {c j pos}(ha:PE X (.Constant c j pos) te) (hr:PA X es t):PA X (.Constant c j pos::es) (xv te t):=yF ha hr rfl
theorem zhV {xs c pos}(ha:PE X (.Tuple xs c pos) te) (hr:PA X es t):PA X (.Tuple xs c pos::es) (xv te t):=yF ha hr rfl
theorem zhW {f xs ks pos}(ha:PE X (.Call f xs ks pos) te) (hr:PA X es t):PA X (.Call f xs ks pos::es) (xv te t):=yF ha hr rfl
theorem zhY {l o r pos}(ha:PE X (.BinOp l o r pos) te) (hr:PA X es t):PA X (.BinOp l o r pos::es) (xv te t):=yF ha hr rfl
theorem xr {x pos}(ha:PE X (.Name x pos) te) (hr:PA X es t):PA X (.Name x pos::es) (xv te t):=yF ha hr rfl
end
end L2
namespace L2
open PySem PySem.Spec PyProof.Rows
theorem entry_dul:entryFor table "dict.update.loop" = some Builtin.«dict.update.loop»:=entryFor_of_tree (by kernel_rfl)
theorem plain_dul:plainId "dict.update.loop" = true:=by decide +kernel
theorem ZY:typeLookup (.type "list") "keys" = pure none:=am_miss_of_fast (by kernel_rfl)
section
variable {P:Program}{w:World}{A:Around}{E:Value→Shared→Prop}{s:Shared}
theorem Wy {a:Addr}{xs:Array Value}{Q:Option Value→Shared→Prop}(hl:PlainL s.heap a xs) (hA:A.handled=none)
  (q:∀ h' tk,(∀ b o,s.heap.get? b=some o→h'.get? b=some o)→Q none { s with heap:=h',toks:=tk }):wpAny (model P w) A (getAttr? (.ref a) "keys") Q E s:=by
 obtain⟨o,n,hx,hc,hd,hs⟩:=hl
 obtain⟨c,dct,dat,sl⟩:=o
 dsimp only at hc hd hs
 subst hc hd hs
 obtain⟨hp,g,dr,tk0,os⟩:=s
 have hT:∀ tk',(⟨hp,g,dr,tk',os⟩:Shared).TypeIs (.ref a) "list" := fun _=>⟨_,hx,rfl⟩
 have f1:=sub_AttributeError
 have f3:=F.slot_list_getattribute.lookup
 have f4:=F.slot_list_getattribute.bind (.ref a)
 have f5:=am_list_getattr_none
 unfold getAttr? getAttrBy? getAttrBy
 repeat (any_goals (first | assumption | exact hT _ | ((with_reducible show wpAny _ _ (call (Value.builtin "list.__getattribute__") _ _) _ _ _);refine call_meets F.slot_list_getattribute (hT _) am_entry_list_getattribute (F.args_list_getattribute_2 _ _) (meets_getattribute_miss_list a xs n sl "keys" _ ZY (by decide +kernel) (by decide +kernel)) ⟨hx,hA,fun h1 tk1 e1 ne=>?_⟩) | wp_step))
 obtain⟨t',u',he⟩:=ne.there
 show wpAny _ _ (getattributeRaised _ _ _ _ _ _ _) _ _ _
 unfold getattributeRaised hookOrError attributeErrorLeaves
 repeat (any_goals (first | assumption | wp_step))
 exact q _ _ ne.keeps
variable {K:Type} [DecidableEq K]{knd:KeyKind P w K}
theorem Uc {d I:Addr}{fp wr:List Addr}{n:Nat}{Is:Nat→Value→Prop}{St:Nat→Heap→Prop}{R:Except Value Flow→Shared→Prop}(W:Walks P w A.in1 I fp wr n Is St) (nf:d∉fp) (kvs:List (K×Value)) (hk:kvs.length=n) (hz:n≤1000)
  (h0:Heap) (hI:∀ i v,Is i v→∃ q k,v=.ref q∧(∃ o x,h0.get? q=some o∧o.cls=.type "tuple" ∧ o.data=.seq #[k,(kvs[i]?.map (·.2)).getD .none] x)∧∃ kk,(kvs[i]?.map (·.1))=some kk∧knd.is kk k=true)
  (hq:∀ i v q,Is i v→v=.ref q→q∉wr∧q≠d) :
  ∀ (r j:Nat) (t:Shared) (tk0:Tok),j+r=n→St j t.heap→t.heap.DictOf knd d (merged [] (kvs.take j))→(∀ b o,b∉wr→b≠d→h0.get? b=some o→t.heap.get? b=some o) →
   (∀ h' tk,h'.DictOf knd d (merged [] kvs)→(∀ b o,b∉wr→b≠d→t.heap.get? b=some o→h'.get? b=some o)→R (.ok (.ret .none)) { t with heap:=h',toks:=tk }) →
   codeAny (model P w) A (.builtin "dict.update.loop" ⟨[.ref d,.ref I,.int (j:Int) tk0,.none],[]⟩) R t:=by
 have nw:d∉wr:=fun z=>nf (W.sub _ z)
 intro r
 induction r with
 |zero =>
  intro j t tk0 hj st hd keep fin
  have ej:j=n:=by omega
  subst ej
  refine codeAny_builtin entry_dul (by
   rw[Around.under_plainId plain_dul _]
   show wpAny _ A.in1 (pyNext (.ref I) >>= _) _ _ t
   refine wpAny_bind (W.done t _ _ st fun h1 tk kk=>?_)
   show wpAny _ A.in1 (Builtin.Dict.addKeywords d [] >>= _) _ _ _
   rw[← hk,List.take_length] at hd
   obtain⟨o,ho,hdo⟩:=Heap.dictOf_iff.mp hd
   exact wpAny_bind (wpAny_pure (wpAny_pure (fin h1 tk (Heap.dictOf_iff.mpr ⟨o,kk d o nw ho,hdo⟩) fun b o n1 _ e=>kk b o n1 e))))
 |succ r ih =>
  intro j t tk0 hj st hd keep fin
  refine codeAny_builtin entry_dul (by
   rw[Around.under_plainId plain_dul _]
   show wpAny _ A.in1 (pyNext (.ref I) >>= _) _ _ t
   refine wpAny_bind (W.item j t _ _ (by omega) st fun v h1 tk iv st1 kk=>?_)
   obtain⟨q,k,rfl,⟨o,x,hq0,hc,hs⟩,kx,hkx,hki⟩:=hI j v iv
   obtain⟨nq1,nq2⟩:=hq j _ q iv rfl
   have hq1:=kk q o nq1 (keep q o nq1 nq2 hq0)
   obtain⟨od,hod,hdo⟩:=Heap.dictOf_iff.mp hd
   have hd1:h1.DictOf knd d (merged [] (kvs.take j)):=Heap.dictOf_iff.mpr ⟨od,kk d od nw hod,hdo⟩
   obtain⟨⟨k2,v2⟩,hkv⟩:∃ kv,kvs[j]?=some kv:=⟨kvs[j]'(by omega),by simp[show j<kvs.length by omega]⟩
   rw[hkv] at hs hkx
   cases hkx
   show wpAny _ A.in1 (holding [Value.ref q] (tryCatch (Builtin.Dict.pairItems (Value.ref q)) _ >>= _) >>= _) _ _ _
   refine wpAny_bind (wpAny_holding (wpAny_bind (wpAny_tryCatch ?_)))
   unfold Builtin.Dict.pairItems
   refine wpAny_bind (wpAny_typeOf (T := "tuple") ⟨o,hq1,hc⟩ ?_)
   rw[if_pos (by decide)]
   refine wpAny_bind (wpAny_seqItems hq1 hs (wpAny_pure ?_))
   show wpAny _ A.in1 (holding [k,v2] (dictSet d k v2)) _ _ _
   refine wpAny_holding (wpAny_dictSet_pairs hki hd1 (fun h2 hd2 sb=>?_) ?_)
   ·show wpAny _ A.in1 (pure _) _ _ _
    have hm:=merged_take_succ ([]:List (K×Value)) kvs j (k2,v2) hkv
    refine wpAny_pure ⟨plainId_quiet plain_dul _,ih (j+1) _ _ (by omega) (W.frame _ _ _ st1 fun b hb o e=>?_) (by rw[hm];exact hd2) (fun b o n1 n2 e=>?_) fun h3 tk3 hd3 kk3=>fin h3 tk3 hd3 fun b o n1 n2 e=>kk3 b o n1 n2 ?_⟩
    ·exact(sb.2 b fun z=>nf (z ▸ hb)).trans e
    ·exact(sb.2 b n2).trans (kk b o n1 (keep b o n1 n2 e))
    ·exact(sb.2 b n2).trans (kk b o n1 e)
   ·have:=merged_length_le ([]:List (K×Value)) (kvs.take j)
    rw[List.length_take] at this
    simp only[List.length_nil] at this
    exact Nat.le_trans (show _≤1000 by omega) (by decide))
end
section
variable {X:Cx}
theorem vM:∀ {xs:List V}{us:List Value}{i:Nat}{u:Value},Vals xs us→us[i]?=some u→∃ x,xs[i]?=some x∧RelV x u
 |_,_,0,_,.cons r _,h=>by cases h;exact⟨_,rfl,r⟩
 |_,_,i+1,_,.cons _ t,h=>by
  obtain⟨x,e,r⟩:=vM t (by simpa using h)
  exact⟨x,by simpa using e,r⟩
theorem vZ {pins:List (Addr×Obj)}{σ:St}{H:Hp}{s:Shared}(I:Inv X pins σ H s):∀ (qs:List Addr) (kvs:List (Key×V)),qs.length=kvs.length→(∀ (i:Nat) (q:Addr) (kv:Key×V),qs[i]?=some q→kvs[i]?=some kv→H q=some (.tup [kV kv.1,kv.2])) →
  ∃ vs:List (Key×Value),KV kvs vs∧∀ (i:Nat) (q:Addr),qs[i]?=some q→∃ o x k kv,s.heap.get? q=some o∧o.cls=.type "tuple" ∧ o.data=.seq #[k,kv.2] x∧vs[i]?=some kv∧(zA X.prog X.w).is kv.1 k=true
 |[],[],_,_=>⟨[],.nil,fun i q h=>by simp at h⟩
 |q::qs,kv::kvs,hl,h=>by
  obtain⟨vs,r,hv⟩:=vZ I qs kvs (by simpa using hl) fun i q' kv' h1 h2=>h (i+1) q' kv' (by simpa using h1) (by simpa using h2)
  have h0:=h 0 q kv rfl rfl
  obtain⟨its,rv,it,_⟩:=I.tuple (SqT.of h0)
  obtain⟨uk,ux,rfl,rk,rx⟩:∃ uk ux,its=[uk,ux]∧RelV (kV kv.1) uk∧RelV kv.2 ux:=by
   cases rv with | cons r1 rv =>
   cases rv with | cons r2 rv =>
   cases rv
   exact⟨_,_,rfl,r1,r2⟩
  obtain⟨o,e,oc,n,od⟩:=it
  refine⟨(kv.1,ux)::vs,.cons ⟨rfl,rx⟩ r,fun i q' hi=>?_⟩
  cases i with
  |zero =>
   cases hi
   exact⟨o,n,uk,(kv.1,ux),e,oc,od,rfl,wX rk⟩
  |succ i=>exact hv i q' (by simpa using hi)
def Vu (K:PySem.W.Frag):List V→Hp→VK→Prop:=fun xs H Q=>∃ (a:Addr) (qs:List Addr) (kvs:List (Key×V)),xs=[V.ref a]∧H a=some (.lst (qs.map V.ref))∧qs.length=kvs.length∧kvs.length≤1000∧(∀ (i:Nat) (q:Addr) (kv:Key×V),qs[i]?=some q→kvs[i]?=some kv→H q=some (.tup [kV kv.1,kv.2])) ∧
 ∀ p,H p=none→Q (.ref p) (upd H p (.dK (mergeK [] kvs)))
theorem uy (hc:X.calm=true):yY X (.type "dict") (Vu X.K):=by
 intro pins s σ H xs us Q I r h
 obtain⟨a,qs,kvs,rfl,ha,hl,hz,hq,k⟩:=h
 obtain⟨u,rfl,ru⟩:=r.one
 cases ru
 obtain⟨its,rv,pl,_⟩:=I.list (SqL.of ha)
 have hA:X.A.handled=none:=I.ok.hd hc
 refine callType_codes (Q₁:=fun obj s₁=>obj=.ref s.heap.objs.size∧s₁={ s with heap:=s.heap.push { cls:=.type "dict",data:=.dict #[] } }) F.kt_called_dict (F.kt_typeCall_dict_1 _) F.entry_dict_init (kt_code_dict_new _ ⟨rfl,rfl⟩) ?_
 rintro obj s₁ ⟨rfl,rfl⟩
 have hnew:(s.heap.push { cls:=.type "dict",data:=.dict #[] }).DictOf (zA X.prog X.w) s.heap.objs.size []:=Heap.DictOf.new s.heap
 have lt:a<s.heap.objs.size:=by
  obtain⟨_,e,_⟩:=pl.isList
  exact Heap.lt_size e
 have pl1:PlainL (s.heap.push { cls:=.type "dict",data:=.dict #[] }) a its.toArray:=by
  obtain⟨o,n,e,r⟩:=pl
  exact⟨o,n,Heap.get?_push_of_some _ e,r⟩
 refine⟨hnew.typeIs,F.args_dict_init_2 _ _,?_⟩
 unfold Builtin.«dict.__init__»
 refine wpAny_bind ?_
 unfold Builtin.Dict.selfAndRest
 refine wpAny_bind (wpAny_notOrdered_dict hnew.typeIs ?_)
 show wpAny _ _ (pure (s.heap.objs.size,[Value.ref a])) _ _ _
 refine wpAny_pure ?_
 show wpAny _ _ (Builtin.Dict.updateFrom "dict.__init__" s.heap.objs.size (.ref a) [] .none) _ _ _
 unfold Builtin.Dict.updateFrom
 obtain⟨o,n,e,oc,od,os⟩:=pl1
 refine wpAny_bind (wpAny_typeOf (T := "list") ⟨o,e,oc⟩ ?_)
 rw[if_pos (by decide)]
 refine wpAny_bind (Wy ⟨o,n,e,oc,od,os⟩ hA fun h1 tk1 kk1=>?_)
 obtain⟨vs,rel,hvs⟩:=vZ I qs kvs hl hq
 have hl1:h1.IsList a its.toArray:=⟨o,kk1 _ _ e,oc,n,os⟩
 show wpAny _ _ (rule _ >>= _) _ _ _
 refine wpAny_bind (wpAny_rule (wpAny_bind (wpAny_pyIter_list hl1 ?_)))
 have nd0:(s.heap.push { cls:=.type "dict",data:=.dict #[] }).get? s.heap.objs.size=some { cls:=.type "dict",data:=.dict #[] }:=Heap.get?_push_size _ rfl
 have nd1:=kk1 _ _ nd0
 have ltd:s.heap.objs.size<h1.objs.size:=Heap.lt_size nd1
 have lta:a<h1.objs.size:=Nat.lt_trans lt ltd
 have len:its.toArray.size=vs.length:=by
  have e1:=rv.length
  rw[List.length_map] at e1
  have e2:=rel.length
  simp
  omega
 have lvs:vs.length=kvs.length:=(rel.length).symm
 have W:=Walks.list (prog:=X.prog) (w:=X.w) (A:=X.A.in1.in1) hA h1.objs.size a (Nat.ne_of_lt lta) its.toArray
 have st:((h1.push { cls:=.type "list_iterator",data:=.fields #[.ref a,.int 0 0] }).IsListIter h1.objs.size a 0∧(h1.push { cls:=.type "list_iterator",data:=.fields #[.ref a,.int 0 0] }).IsList a its.toArray):=⟨⟨_,Heap.get?_push_size _ rfl,rfl,rfl⟩,hl1.push _⟩
 have nf:s.heap.objs.size∉[h1.objs.size,a]:=by
  intro z
  rcases List.mem_cons.mp z with z | z
  ·exact Nat.lt_irrefl _ (z ▸ ltd)
  ·exact Nat.lt_irrefl _ ((List.mem_singleton.mp z) ▸ lt)
 have item:∀ (i:Nat) (v:Value),its.toArray[i]?=some v→∃ q:Addr,v=Value.ref q∧qs[i]?=some q:=fun i v hv=>by
  have hv:its[i]?=some v:=by simpa using hv
  obtain⟨x,hx,rx⟩:=vM rv hv
  rw[List.getElem?_map] at hx
  obtain⟨q,hq,rfl⟩:=Option.map_eq_some_iff.mp hx
  exact⟨q,rx,hq⟩
 have hd0:(h1.push { cls:=.type "list_iterator",data:=.fields #[.ref a,.int 0 0] }).DictOf (zA X.prog X.w) s.heap.objs.size []:=by
  obtain⟨od,hod,hdo⟩:=Heap.dictOf_iff.mp hnew
  exact Heap.dictOf_iff.mpr ⟨od,Heap.get?_push_of_some _ (kk1 _ _ hod),hdo⟩
 refine wpAny_pure ⟨plainId_quiet plain_dul _,Uc (A:=X.A.in1) (knd:=zA X.prog X.w) W nf vs len.symm (by omega) s.heap ?_ ?_ its.toArray.size 0 _ 0 (by omega) st hd0 ?_ ?_⟩
 ·intro i v hv
  obtain⟨q,rfl,hq'⟩:=item i v hv
  obtain⟨o,x,k',kv,e1,e2,e3,e4,e5⟩:=hvs i q hq'
  exact⟨q,k',rfl,⟨o,x,e1,e2,by rw[e4];exact e3⟩,kv.1,by rw[e4];rfl,e5⟩
 ·intro i v q hv ev
  obtain⟨q',rfl,hq'⟩:=item i v hv
  cases ev
  obtain⟨o,x,k',kv,e1,_⟩:=hvs i _ hq'
  have l1:=Heap.lt_size e1
  exact⟨fun z=>by rw[List.mem_singleton.mp z] at l1;exact Nat.lt_irrefl _ (Nat.lt_trans l1 ltd),fun z=>by rw[z] at l1;exact Nat.lt_irrefl _ l1⟩
 ·intro b o n1 n2 e
  exact Heap.get?_push_of_some _ (kk1 _ _ (Heap.get?_push_of_some _ e))
 ·intro h' tk hd' kk'
  refine⟨rfl,?_⟩
  refine⟨.ref s.heap.objs.size,_,I.laid (a:=s.heap.objs.size) (o:=.dK (mergeK [] kvs)) (t':=tk) (fun b o e=>?_) (Nat.le_refl _) (Ye ?_ (beq_eq_false_iff_ne.mpr (Ne.symm (Nat.ne_of_lt I.big))) (KV.merge rel .nil) hd'),rfl,k _ (I.hok.fresh (Nat.le_refl _))⟩
  ·have l1:=Heap.lt_size e
   refine kk' b o (fun z=>?_) (fun z=>?_) (Heap.get?_push_of_some _ (kk1 _ _ (Heap.get?_push_of_some _ e)))
   ·rw[List.mem_singleton.mp z] at l1
    exact Nat.lt_irrefl _ (Nat.lt_trans l1 ltd)
   ·rw[z] at l1
    exact Nat.lt_irrefl _ l1
  ·have e1:=(KV.merge rel (.nil:KV ([]:List (Key×V)) [])).length
   have e2:=merged_length_le ([]:List (Key×Value)) vs
   simp only[List.length_nil] at e2
   exact Nat.le_trans (show _≤1000 by omega) (by decide)
end
section
variable {X:Cx}{pins:List (Addr×Obj)}{σ:St}{H G:Hp}{s:Shared}{d:Addr}{od:Obj}{kvs:List (Key×V)}
theorem Inv.froz (I:Inv X pins σ H s) (e:H d=some (.dK kvs)) (q0:s.heap.get? d=some od):Inv X pins σ (upd H d (.frz od (.dK kvs))) s:=by
 have ne:∀ {b:Addr}{o:HO},H b=some o→(∀ kvs,o≠.dK kvs)→upd H d (.frz od (.dK kvs)) b=some o:=fun {b o} q n=>by
  rw[upd_ne (fun z=>by rw[z,e] at q;injection q with q;exact n _ q.symm)];exact q
 have no:∀ {b:Addr},H b=none→upd H d (.frz od (.dK kvs)) b=none:=fun {b} q=>by
  rw[upd_ne (fun z=>by rw[z,e] at q;cases q)];exact q
 refine⟨I.ok,I.os,I.bare,⟨I.base.keep,I.base.slot,fun b o q n x=>no (I.base.free b o q n x),I.base.there,fun b xs q=>ne (I.base.tups b xs q) (fun _ z=>by cases z),fun b o u q=>ne (I.base.frzs b o u q) (fun _ z=>by cases z),fun b ps q=>?_⟩,I.loc,I.cell,no I.free,fun x c q=>no (I.freeC x c q),fun p hp=>?_,fun b o q=>?_,I.len⟩
 ·obtain⟨m,q⟩:=I.base.tbls b ps q
  exact⟨m,ne q (fun _ z=>by cases z)⟩
 ·obtain⟨p1,p2,p3⟩:=I.pin p hp
  exact⟨p1,no p2,p3⟩
 ·have st:∀ {b:Addr}{o:HO},H b=some o→ObjOk X.prog X.w (upd H d (.frz od (.dK kvs))) s.heap b o:=fun {b o} q=>(I.hok b o q).stay (fun c u _ q=>q) (fun c q=>ne q (fun _ z=>by cases z)) fun c xs q=>ne q (fun _ z=>by cases z)
  by_cases c:b=d
  ·subst c
   rw[upd_same] at q
   cases q
   exact⟨q0,st e⟩
  ·rw[upd_ne c] at q
   exact st q
theorem Inv.thaw (I:Inv X pins σ G s) (S:∀ o u,X.H₀ d≠some (.frz o u)) (g:G d=some (.frz od (.dK kvs))):Inv X pins σ (upd G d (.dK kvs)) s:=by
 have ne:∀ {b:Addr}{o:HO},G b=some o→(∀ ob u,o≠.frz ob u)→upd G d (.dK kvs) b=some o:=fun {b o} q n=>by
  rw[upd_ne (fun z=>by rw[z,g] at q;injection q with q;exact n _ _ q.symm)];exact q
 have no:∀ {b:Addr},G b=none→upd G d (.dK kvs) b=none:=fun {b} q=>by
  rw[upd_ne (fun z=>by rw[z,g] at q;cases q)];exact q
 refine⟨I.ok,I.os,I.bare,⟨I.base.keep,I.base.slot,fun b o q n x=>no (I.base.free b o q n x),I.base.there,fun b xs q=>ne (I.base.tups b xs q) (fun _ _ z=>by cases z),fun b o u q=>?_,fun b ps q=>?_⟩,I.loc,I.cell,no I.free,fun x c q=>no (I.freeC x c q),fun p hp=>?_,fun b o q=>?_,I.len⟩
 ·rw[upd_ne (fun(z:b=d)=>S o u (by rw[← z];exact q))]
  exact I.base.frzs b o u q
 ·obtain⟨m,q⟩:=I.base.tbls b ps q
  exact⟨m,ne q (fun _ _ z=>by cases z)⟩
 ·obtain⟨p1,p2,p3⟩:=I.pin p hp
  exact⟨p1,no p2,p3⟩
 ·have st:∀ {b:Addr}{o:HO},ObjOk X.prog X.w G s.heap b o→ObjOk X.prog X.w (upd G d (.dK kvs)) s.heap b o:=fun {b o} q=>q.stay (fun c u _ q=>q) (fun c q=>ne q (fun _ _ z=>by cases z)) fun c xs q=>ne q (fun _ _ z=>by cases z)
  by_cases c:b=d
  ·subst c
   rw[upd_same] at q
   cases q
   exact st (I.hok b _ g).2
  ·rw[upd_ne c] at q
   exact st (I.hok b o q)
theorem KV.getAt:∀ {kvs:List (Key×V)}{vs:List (Key×Value)},KV kvs vs→∀ {i:Nat}{p:Key×V},kvs[i]?=some p→∃ u,vs[i]?=some (p.1,u)∧RelV p.2 u
 |_,_,.nil,i,p,h=>by cases h
 |_,_,.cons (b:=q) r t,0,p,h=>by
  cases h
  exact⟨q.2,by rw[r.1];rfl,r.2⟩
 |_,_,.cons r t,i+1,p,h=>KV.getAt t (i:=i) h
end
section
variable {X:Cx}
def zgj (K:PySem.W.Frag) (A:Around):R2:=fun x y H Q=>∃ (a b:Addr) (xs ys:List V),x=.ref a∧y=.ref b∧SqL K H a xs∧SqL K H b ys∧xs.length≠ys.length∧A.units<cLine∧Q (.bl false) H
theorem XN:OpR X (compareOp .Eq) (zgj X.K X.A):=by
 intro pins s σ H x y v u Q I rx ry h
 obtain⟨a,b,xs,ys,rfl,rfl,h1,h2,hl,hu,q⟩:=h
 cases rx;cases ry
 obtain⟨i1,r1,p1,_⟩:=I.list h1
 obtain⟨i2,r2,p2,_⟩:=I.list h2
 exact SeqAt.RcAt.lists_lengths p1.isList p2.isList (by simp;rw[← r1.length,← r2.length];exact hl) hu _ _ _ _ ⟨.bl _,H,I,rfl,q⟩
def EqP (X:Cx) (H:Hp) (x y:V) (b:Bool) (n:Nat):Prop:=∀ (pins:List (Addr×Obj)) (σ:St) (s:Shared),Inv X pins σ H s→∀ (A:Around) (u v:Value),A.units+n<cLine→RelV x u→RelV y v→SeqAt.EqAt A s u v b
theorem EqP.of {H:Hp}{x y:V}{b:Bool}{n:Nat}(h:EqD X.K H x y b n):EqP X H x y b n:=fun pins σ s I A u v hu r1 r2=>h.at I A u v hu r1 r2
theorem EqP.same {H:Hp}{a:Addr}{n:Nat}:EqP X H (.ref a) (.ref a) true n:=fun pins σ s I A u v hu rx ry=>by
 cases rx;cases ry
 exact SeqAt.EqAt.same _
theorem v8 {pins:List (Addr×Obj)}{σ:St}{H:Hp}{s:Shared}{A:Around}{xs ys:List V}{i1 i2:List Value}{e:Nat→Bool}{n:Nat}(I:Inv X pins σ H s) (r1:Vals xs i1) (r2:Vals ys i2) (hu:A.units+n+2<cLine)
  (h:∀ (j:Nat) x y,xs[j]?=some x→ys[j]?=some y→EqP X H x y (e j) n):∀ (j:Nat) (h1:j<i1.toArray.size) (h2:j<i2.toArray.size),SeqAt.EqAt A.in1 s i1.toArray[j] i2.toArray[j] (e j):=fun j h1 h2=>by
 have g1:j<xs.length:=by rw[r1.length];simpa using h1
 have g2:j<ys.length:=by rw[r2.length];simpa using h2
 obtain⟨u1,e1,q1⟩:=r1.get (i:=j) (x:=xs[j]) (by simp[g1])
 obtain⟨u2,e2,q2⟩:=r2.get (i:=j) (x:=ys[j]) (by simp[g2])
 have f1:i1.toArray[j]=u1:=by
  obtain⟨_,z⟩:=List.getElem?_eq_some_iff.mp e1
  simpa using z
 have f2:i2.toArray[j]=u2:=by
  obtain⟨_,z⟩:=List.getElem?_eq_some_iff.mp e2
  simpa using z
 rw[f1,f2]
 exact(h j _ _ (by simp[g1]) (by simp[g2])) _ _ _ I A.in1 u1 u2 (by rw[yk];omega) q1 q2
def zgi (X:Cx) (neg:Bool):R2:=fun x y H Q=>∃ (a b:Addr) (xs ys:List V) (n:Nat),x=.ref a∧y=.ref b∧((SqL X.K H a xs∧SqL X.K H b ys)∨(SqT X.K H a xs∧SqT X.K H b ys))∧xs.length=ys.length∧X.A.units+n+2<cLine ∧
 (∀ (j:Nat) x y,xs[j]?=some x→ys[j]?=some y→EqP X H x y true n)∧Q (.bl (!neg)) H
theorem zgk:OpR X (compareOp .Eq) (zgi X false):=by
 intro pins s σ H x y v u Q I rx ry h
 obtain⟨a,b,xs,ys,n,rfl,rfl,hq,hl,hu,hi,q⟩:=h
 cases rx;cases ry
 rcases hq with⟨h1,h2⟩ | ⟨h1,h2⟩
 ·obtain⟨i1,r1,p1,_⟩:=I.list h1
  obtain⟨i2,r2,p2,_⟩:=I.list h2
  refine SeqAt.eq_listAt (e:=fun _=>true) p1.isList p2.isList (by simp;rw[← r1.length,← r2.length,hl]) (by omega) (v8 I r1 r2 hu hi) ⟨.bl true,H,I,?_,q⟩
  have e:((List.range i1.toArray.size).all fun _=>true)=true:=by simp
  rw[e]
  rfl
 ·obtain⟨i1,r1,p1,_⟩:=I.tuple h1
  obtain⟨i2,r2,p2,_⟩:=I.tuple h2
  have z:i1.toArray.size=i2.toArray.size:=by simp;rw[← r1.length,← r2.length,hl]
  refine SeqAt.eq_tupleAt (e:=fun _=>true) (show s.heap.IsTuple a i1.toArray from p1) (show s.heap.IsTuple b i2.toArray from p2) (by omega) (v8 I r1 r2 hu hi) ⟨.bl true,H,I,?_,q⟩
  have e:((List.range i1.toArray.size).all fun _=>true)=true:=by simp
  rw[← z,Nat.min_self,beq_self_eq_true,Bool.and_true,e]
  rfl
theorem VG:OpR X (compareOp .NotEq) (zgi X true):=by
 intro pins s σ H x y v u Q I rx ry h
 obtain⟨a,b,xs,ys,n,rfl,rfl,hq,hl,hu,hi,q⟩:=h
 cases rx;cases ry
 rcases hq with⟨h1,h2⟩ | ⟨h1,h2⟩
 ·obtain⟨i1,r1,p1,_⟩:=I.list h1
  obtain⟨i2,r2,p2,_⟩:=I.list h2
  refine SeqAt.RcNeAt.lists (e:=fun _=>true) p1.isList p2.isList (by simp;rw[← r1.length,← r2.length,hl]) (by omega) (v8 I r1 r2 hu hi) _ _ _ _ ⟨.bl false,H,I,?_,q⟩
  have e:((List.range i1.toArray.size).all fun _=>true)=true:=by simp
  rw[e]
  rfl
 ·obtain⟨i1,r1,p1,_⟩:=I.tuple h1
  obtain⟨i2,r2,p2,_⟩:=I.tuple h2
  have z:i1.toArray.size=i2.toArray.size:=by simp;rw[← r1.length,← r2.length,hl]
  refine SeqAt.RcNeAt.tuples (e:=fun _=>true) (show s.heap.IsTuple a i1.toArray from p1) (show s.heap.IsTuple b i2.toArray from p2) (by omega) (v8 I r1 r2 hu hi) _ _ _ _ ⟨.bl false,H,I,?_,q⟩
  have e:((List.range i1.toArray.size).all fun _=>true)=true:=by simp
  rw[← z,Nat.min_self,beq_self_eq_true,Bool.and_true,e]
  rfl
end
structure Bx (p:Prop):Prop where
 of:p
theorem zV {X:Cx}{body:List Stmt}{q:TS→Prop}{t:TS}(h:Bx (PSs X body t)) (k:q t):∃ t,PSs X body t∧q t:=⟨t,h.of,k⟩
theorem wg {X:Cx}{e:Expr}{t:TT}(h:Bx (PW X e t)):Bx (PT X e t):=⟨h.of.pt⟩
section
variable {X:Cx}
theorem zg {i j pos}:Bx (PE X (.Constant (.int i) j pos) (tC (.int i))):=⟨yS⟩
theorem zD {b j pos}:Bx (PE X (.Constant (.bool b) j pos) (tC (.bl b))):=⟨xT⟩
theorem z9 {j pos}:Bx (PE X (.Constant .none j pos) (tC .non)):=⟨VC⟩
variable {a b:Expr}{ta tb:TE}{pos:Pos}
theorem Yw {op:CmpOp}{t:TE}(h:Bx (PC X op a b t)) (h1:behindInMarks op b=false:=by first | exact nobehind _ (by decide) (by decide) | rfl):Bx (PE X (.Compare a [op] [b] pos) t):=⟨VE h.of h1⟩
theorem vI {op:CmpOp}{t:TE}(h:Bx (PC X op a b t)) (h1:behindInMarks op b=false:=by first | exact nobehind _ (by decide) (by decide) | rfl):Bx (PT X (.Compare a [op] [b] pos) (tB t)):=⟨XB h.of h1⟩
theorem zE {e:Expr}{t:TE}(h:Bx (PE X e t)) (he:∀ whole,isTrue e X.env whole=(do let v ← whole;standAt e.pos;holding [v] (truthy v)):=by intro _;rfl):Bx (PT X e (tB t)):=⟨yQ h.of he⟩
variable {a b:Expr}{ta tb:TE}{pos:Pos}
variable {tA tB':TT}{rest:List Expr}
theorem yb (ha:Bx (PT X a tA)):Bx (PW X (.BoolOp .And [a] pos) tA):=⟨We ha.of⟩
theorem zZ (ha:Bx (PT X a tA)):Bx (PW X (.BoolOp .Or [a] pos) tA):=⟨xZ ha.of⟩
theorem yf (ha:Bx (PT X a tA)) (hb:Bx (PW X (.BoolOp .And (b::rest) pos) tB')):Bx (PW X (.BoolOp .And (a::b::rest) pos) (zdY tA tB')):=⟨Vw ha.of hb.of⟩
theorem yi (ha:Bx (PT X a tA)) (hb:Bx (PW X (.BoolOp .Or (b::rest) pos) tB')):Bx (PW X (.BoolOp .Or (a::b::rest) pos) (tOr tA tB')):=⟨wM ha.of hb.of⟩
theorem zK (ha:Bx (PT X a tA)):Bx (PT X (.UnaryOp .Not a pos) (zdS tA)):=⟨yR ha.of⟩
theorem yo {op}{t:TE}(h:Bx (PE X a t)):Bx (PE X (.BoolOp op [a] pos) t):=⟨ZF h.of⟩
theorem yp (ha:Bx (PE X a ta)) (hb:Bx (PE X (.BoolOp .And (b::rest) pos) tb)):Bx (PE X (.BoolOp .And (a::b::rest) pos) (tAndV ta tb)):=⟨vY ha.of hb.of⟩
theorem uG (ha:Bx (PE X a ta)) (hb:Bx (PE X (.BoolOp .Or (b::rest) pos) tb)):Bx (PE X (.BoolOp .Or (a::b::rest) pos) (Uj ta tb)):=⟨zbg ha.of hb.of⟩
theorem vK (ha:Bx (PE X a ta)):Bx (PE X (.UnaryOp .Not a pos) (Vd ta)):=⟨XD ha.of⟩
end
section
variable {X:Cx}{st:Stmt}{rest:List Stmt}{t u:TS}{e:Expr}{te:TE}{pos:Pos}
theorem zn  : Bx (PSs X [] Ve):=⟨yu⟩
theorem ze (h1:Bx (PS X st t)) (h2:Bx (PSs X rest u)):Bx (PSs X (st::rest) (zdQ t u)):=⟨zG h1.of h2.of⟩
theorem zf (h1:Bx (PS X st t)):Bx (PSs X [st] t):=⟨zM h1.of⟩
theorem z4 (he:Bx (PE X e te)) (hs:swapsWith e none pos.line X.env=pure false:=by rfl):Bx (PS X (.Expr e pos) (Vh te)):=⟨vk he.of hs⟩
theorem zj (he:Bx (PE X e te)):Bx (PS X (.Return (some e) pos) (zdR te)):=⟨yB he.of⟩
theorem zx {c:Expr}{a b:List Stmt}{tc:TT}(hc:Bx (PT X c tc)) (ha:Bx (PSs X a t)) (hb:Bx (PSs X b u)):Bx (PS X (.If c a b pos) (zdU tc t u)):=⟨wo hc.of ha.of hb.of⟩
end
section
variable {X:Cx}{pos:Pos}
theorem zm {i:Nat}{x:Str}(hN:X.N.Nodup) (hi:X.N[i]?=some x) (hx:Loc X.env.scope x) (hf:X.fn x=true∨X.env.scope.names.lookup x=some .local:=by first | exact .inl rfl | exact .inr rfl | assumption):Bx (PG X (.Name x pos) (vA i)):=⟨xp hN hi hx hf⟩
theorem z5  : Bx (PGs X [] gNil):=⟨ZD⟩
theorem zy {e:Expr}{es:List Expr}{t:TG}{u:TGs}(h1:Bx (PG X e t)) (h2:Bx (PGs X es u)) (hs:(assignEach (e::es) X.env).map (·.2)=assign e X.env::(assignEach es X.env).map (·.2):=by rfl):Bx (PGs X (e::es) (Ub t u)):=⟨wp h1.of h2.of hs⟩
theorem yg {es:List Expr}{k:Nat}{t:TGs}{n:Nat}(hc:X.calm=true) (h:Bx (PGs X es t)) (hn:(assignEach es X.env).length=n:=by rfl) (hst:(assignEach es X.env).findIdx? (·.1)=none:=by rfl):Bx (PG X (.Tuple es k pos) (zg3 X.K n t)):=⟨XC hc h.of hn hst⟩
theorem Yu {tg e:Expr}{te:TE}{g:TG}(he:Bx (PE X e te)) (hg:Bx (PG X tg g)) (hs:swapsWithSole [tg] e pos.line X.env=pure false:=by rfl) (hw:swappedStores [tg] e X.env=pure none:=by rfl) (h1:(assignEach [tg] X.env).map (·.2)=[assign tg X.env]:=by rfl):Bx (PS X (.Assign [tg] e pos) (WM te g)):=⟨Vx he.of hg.of hs hw h1⟩
theorem zp {i:Nat}{x:Str}{e:Expr}{te:TE}{pos':Pos}(hN:X.N.Nodup) (hi:X.N[i]?=some x) (hx:Loc X.env.scope x) (he:Bx (PE X e te)) (hs:swapsWith e (some (.Name x pos')) pos.line X.env=pure false:=by rfl) (hf:X.fn x=true∨X.env.scope.names.lookup x=some .local:=by first | exact .inl rfl | exact .inr rfl | assumption):Bx (PS X (.Assign [.Name x pos'] e pos) (WM te (vA i))):=⟨wN hN hi hx he.of hs hf⟩
theorem xj {c:Expr}{body:List Stmt}{tc:TT}{tb:TS}(hp:PassesOwn (model X.prog X.w) X.A X.env X.xe) (hc:Bx (PT X c tc)) (hb:Bx (PSs X body tb)):Bx (PS X (.While c body [] pos) (Xv tc tb)):=⟨YI hp hc.of hb.of⟩
end
section
variable {X:Cx}{tg:Expr}
theorem zB {l:Expr}{tl:TE}(hl:Bx (PE X l tl)):Bx (PI X tg l (Ua X.K tl)):=⟨xH hl.of⟩
theorem Yv {l:Expr}{tl:TE}(hl:Bx (PE X l tl)):Bx (PI X tg l (zg1 X.K tl)):=⟨Vy hl.of⟩
theorem yt {a:Expr}{ta:TA}{p pos:Pos}(hg:Gl X "range") (hm:X.mg "range" = none) (ha:Bx (PA X [a] ta)) (hs:starEach [a] X.env=[(false,eval a X.env)]:=by rfl):Bx (PI X tg (.Call (.Name "range" p) [a] [] pos) (V9 ta)):=⟨ZA hg hm ha.of hs⟩
theorem zL {iter:Expr}{body:List Stmt}{wi:TI}{g:TG}{tb:TS}{pos:Pos}(hp:PassesOwn (model X.prog X.w) X.A X.env X.xe) (hc:X.calm=true) (hi:Bx (PI X tg iter wi)) (hg:Bx (PG X tg g)) (hb:Bx (PSs X body tb)) (hs:∀ x,foldedSetIterable iter X.env x=pure x:=by intro _;rfl):Bx (PS X (.For tg iter body [] pos) (zdV wi g tb)):=⟨wO hp hc hi.of hg.of hb.of hs⟩
end
section
variable {X:Cx}{a b c:Expr}{ta tb tc:TE}{pos:Pos}
theorem zu {op:Operator}{r:R2}(ho:OpR X (binaryOp op) r) (ha:Bx (PE X a ta)) (hb:Bx (PE X b tb)):Bx (PE X (.BinOp a op b pos) (tOp r ta tb)):=⟨zbh ho ha.of hb.of⟩
theorem xk {op:UnaryOp}{r:V→Hp→VK→Prop}(ho:UnR X (unaryOp op) r) (ha:Bx (PE X a ta)):Bx (PE X (.UnaryOp op a pos) (tUn r ta)):=⟨VA ho ha.of⟩
theorem zR {op:CmpOp}{r:R2}(ho:OpR X (compareOp op) r) (ha:Bx (PE X a ta)) (hb:Bx (PE X b tb)) (hm:behindInMarks op b=false):Bx (PE X (.Compare a [op] [b] pos) (tOp r ta tb)):=⟨wq ho ha.of hb.of hm⟩
theorem zk {op:CmpOp}{r:R2}(ho:OpR X (compareOp op) r) (ha:Bx (PE X a ta)) (hb:Bx (PE X b tb)) (hm:behindInMarks op b=false):Bx (PT X (.Compare a [op] [b] pos) (Va (tOp r ta tb))):=⟨xo ho ha.of hb.of hm⟩
end
section
variable {X:Cx}{o e value:Expr}{f:Str}{pos pos' tpos:Pos}{ta tv:TE}
theorem yh (he:Bx (PE X e ta)) (hb:attributeBase e f X.env (eval e X.env)=eval e X.env):Bx (PE X (.Attribute e f pos) (zdW X.K ta f)):=⟨VD he.of hb⟩
theorem vJ (ha:Bx (PE X o ta)) (hv:Bx (PE X value tv)) (hs:swapsWith value (some (.Attribute o f pos')) pos.line X.env=pure false):Bx (PS X (.Assign [.Attribute o f pos'] value pos) (zgf X.K ta tv f)):=⟨vV ha.of hv.of hs⟩
end
section
variable {X:Cx}{e:Expr}{es:List Expr}{te:TE}{t:TA}{pos:Pos}
theorem zd  : Bx (PA X [] Uk):=⟨zT⟩
theorem zr (ha:Bx (PE X e te)) (hr:Bx (PA X es t)) (hs:starEach (e::es) X.env=(false,eval e X.env)::starEach es X.env:=by rfl):Bx (PA X (e::es) (xv te t)):=⟨yF ha.of hr.of hs⟩
theorem yL {x1}(h:Bx (PA X es t)):Bx (PE X (.Tuple es x1 pos) (zdN t)):=⟨VB h.of⟩
theorem zF (h:Bx (PA X es t)):Bx (PE X (.List es pos) (zdT t)):=⟨XE h.of⟩
end
section
variable {X:Cx}{CX:CXT}{k:Nat}{f C:Addr}{fd:FuncData}{ps:List Str}{sp:Sp}{dvs:List V}{ds:List Value}{E:XK}{x m:Str}{p pos apos:Pos}{e o:Expr}{es:List Expr}{ta:TE}{t:TA}
theorem W0 {pl:Sem Bool}(he:Bx (PE X o ta)) (c:Cls X.K C) (hm:Meth X.K C m f) (F:FnOk X.prog X.w X.K X.mg X.base CX k f fd ps sp) (hr:Room k X.A) (hb:Binds X.K fd ps ds) (hd:Vals dvs ds) (hx:xS CX X E) (ha:Bx (PA X (e::es) t)) (hst:starEach (e::es) X.env=(false,eval e X.env)::starEach es X.env:=by rfl) (hpl:(backTo pos (starEach es X.env)).any (·.1)=false:=by rfl) (ht:eval (.Call (.Attribute o m apos) (e::es) [] pos) X.env=(do
   let ov ← eval o X.env
   standAt apos.atName
   let (f,first) ← holding [ov] (getMethod ov m pl)
   callWith pos f first (backTo pos (starEach (e::es) X.env)) (backToKw pos (keywordEach [] X.env))):=by rfl):Bx (PE X (.Call (.Attribute o m apos) (e::es) [] pos) (Vg C m sp dvs E ta t)):=⟨Wn he.of c hm F hr hb hd hx ha.of hst hpl ht⟩
end
section
variable {X:Cx}{x:Str}{p pos:Pos}{e:Expr}{es:List Expr}{t:TA}{id T:String}{r:List V→Hp→VK→Prop}
theorem zl (hc:yY X (.builtin id) r) (hg:Gl X x) (hm:X.mg x=none) (hv:bootBuiltins x=some (.builtin id)) (ha:Bx (PA X (e::es) t)) (hn:x ≠ "__name__" := by decide) (hdb:(x == ("__debug__" : Str))=false:=by decide) (he:starEach (e::es) X.env=(false,eval e X.env)::starEach es X.env:=by rfl) (hpl:(backTo pos (starEach es X.env)).any (·.1)=false:=by rfl):Bx (PE X (.Call (.Name x p) (e::es) [] pos) (tCB r t)):=⟨ya hc hg hm hv ha.of hn hdb he hpl⟩
theorem zX (hc:yY X (.type T) r) (hg:Gl X x) (hm:X.mg x=none) (hv:bootBuiltins x=some (.type T)) (ha:Bx (PA X (e::es) t)) (hn:x ≠ "__name__" := by decide) (hdb:(x == ("__debug__" : Str))=false:=by decide) (he:starEach (e::es) X.env=(false,eval e X.env)::starEach es X.env:=by rfl) (hpl:(backTo pos (starEach es X.env)).any (·.1)=false:=by rfl):Bx (PE X (.Call (.Name x p) (e::es) [] pos) (tCB r t)):=⟨wQ hc hg hm hv ha.of hn hdb he hpl⟩
end
section
variable {X:Cx}{e:Expr}{te:TE}{lo hi:Option Expr}{tl th:TO}{pos p2:Pos}
theorem wC  : Bx (PO X none uP):=⟨Wl⟩
theorem xa (h:Bx (PE X e te)):Bx (PO X (some e) (Vc te)):=⟨po_some h.of⟩
theorem xl {r:V→Option Int→Option Int→Hp→VK→Prop}(hr:SlR X r) (he:Bx (PE X e te)) (hl:Bx (PO X lo tl)) (hu:Bx (PO X hi th)):Bx (PE X (.Subscript e (.Slice lo hi none p2) pos) (tSl r te tl th)):=⟨YK hr he.of hl.of hu.of⟩
end
section
variable {X:Cx}{a b:Expr}{ta tb:TE}{pos:Pos}
theorem zz {r:R2}(hr:IxR X r) (ha:Bx (PE X a ta)) (hb:Bx (PE X b tb)) (hs:Yt b):Bx (PE X (.Subscript a b pos) (tOp r ta tb)):=⟨vn hr ha.of hb.of hs⟩
variable {o e:Expr}{es:List Expr}{to:TE}{t:TA}{name:Str}{apos cpos:Pos}{T id:String}{r:V→List V→Hp→VK→Prop}
theorem yq (pa:PlainAttrs T) (slot:Slot T name id) (hty:typeOf (.builtin id)=pure (.type "method_descriptor")) (hm:MtR X id r) (ho:Bx (PE X o to)) (ha:Bx (PA X (e::es) t)) (hbase:attributeBase o name X.env (eval o X.env)=eval o X.env:=by rfl) (hfew:((backTo cpos (starEach (e::es) X.env)).all (fun x=>!x.1)&&(backToKw cpos (keywordEach [] X.env)).all (fun x=>x.1.isSome)
   && decide ((e::es).length+([]:List Keyword).length+(if ([]:List Keyword).isEmpty then 0 else 1)<30))=true:=by rfl) (hline:(apos.endLine == cpos.line)=true:=by rfl) (hs:starEach (e::es) X.env=(false,eval e X.env)::starEach es X.env:=by rfl) (hplain:(backTo cpos (starEach es X.env)).any (·.1)=false:=by rfl):Bx (PE X (.Call (.Attribute o name apos) (e::es) [] cpos) (tBM X.K T r to t)):=⟨Ws pa slot hty hm ho.of ha.of hbase hfew hline hs hplain⟩
end
section
variable {X:Cx}{o i e value:Expr}{pos pos' tpos:Pos}{td ty tv:TE}
theorem yr (hu:X.A.units+1<cLine) (ho:Bx (PE X o td)) (hi:Bx (PE X i ty)) (hs:zdK i):Bx (PE X (.Subscript o i pos) (Vj td ty)):=⟨vp hu ho.of hi.of hs⟩
theorem vL (hu:X.A.units+1<cLine) (hi:Bx (PE X i ty)) (ho:Bx (PE X o td)):Bx (PC X .In i o (zdX ty td)):=⟨XG hu hi.of ho.of⟩
theorem ve (hu:X.A.units+1<cLine) (hi:Bx (PE X i ty)) (ho:Bx (PE X o td)):Bx (PC X .NotIn i o (uQ ty td)):=⟨ZH hu hi.of ho.of⟩
theorem yZ (hu:X.A.units+1<cLine) (ho:Bx (PE X o td)) (hi:Bx (PE X i ty)) (hv:Bx (PE X value tv)) (hs:swapsWith value (some (.Subscript o i pos')) pos.line X.env=pure false):Bx (PS X (.Assign [.Subscript o i pos'] value pos) (Vp td ty tv)):=⟨vm hu ho.of hi.of hv.of hs⟩
end
section
variable {X:Cx}{pos:Pos}
theorem ue  : Bx (PE X (.Dict [] [] pos) Xx):=⟨vX⟩
theorem xU  : Bx (PE X (.Dict [] [] pos) Xw):=⟨vW⟩
end
section
variable {X:Cx}{o e f:Expr}{apos cpos:Pos}{td ty tx:TE}
theorem xV (hu:X.A.units+1<cLine) (ho:Bx (PE X o td)) (he:Bx (PE X e ty)) (m:M1 X o "get" apos e cpos):Bx (PE X (.Call (.Attribute o "get" apos) [e] [] cpos) (Xy td ty)):=⟨YN hu ho.of he.of m⟩
end
section
variable {X:Cx}
theorem zi (i:Nat){x:Str}{pos:Pos}(hN:X.N[i]?=some x:=by rfl) (hv:Vis X.env.scope x:=by first | exact Or.inl rfl | exact Or.inr (Or.inl rfl) | exact Or.inr (Or.inr rfl)) (hd:(x == ("__debug__" : Str))=false:=by decide) (hcd:(x == ("__classdict__" : Str))=false:=by decide):Bx (PE X (.Name x pos) (zaO i)):=⟨pv i hN hv hd hcd⟩
end
section
theorem yE {X:Cx}{st:Stmt}{rest:List Stmt}{t u:TS}(h1:Bx (PS X st t)) (h2:Bx (PSs X rest u)):Bx (PSs X (st::rest) (Vb t u)):=⟨Wh h1.of h2.of⟩
theorem yD {X:Cx}:Bx (PTs X [] W9):=⟨Wg⟩
theorem yc {X:Cx}{c:Expr}{t:TT}(h:Bx (PT X c t)):Bx (PTs X [c] t):=⟨Wf h.of⟩
end
section
variable {X:Cx}{tg iter elt:Expr}{ifs:List Expr}{scope:Scope}{pos:Pos}{N':List Str}{t:Nat}{caps:List Nat}{g:Blk→TG}{tc:Blk→TT}{te:Blk→TE}{wi:TI}
theorem z6 (hc:X.calm=true) (S:CompOk X scope N' t caps) (hi:Bx (PI X tg iter wi)) (hg:∀ b,Bx (PG (cxB X scope N' b) tg (g b))) (ht:∀ b,Bx (PTs (cxB X scope N' b) ifs (tc b))) (he:∀ b,Bx (PE (cxB X scope N' b) elt (te b))) (hs:∀ x,foldedSetIterable iter X.env x=pure x:=by intro _;rfl):Bx (PE X (.ListComp elt [⟨tg,iter,ifs,0⟩] scope pos) (YD wi g tc te t caps)):=⟨Wq hc S hi.of (fun x0=>(hg x0).of) (fun x0=>(ht x0).of) (fun x0=>(he x0).of) hs⟩
theorem yn {i:Nat}{y:Str}{py spos:Pos}(hc:X.calm=true) (hN:X.N.Nodup) (hiy:X.N[i]?=some y) (hy:Loc X.env.scope y) (S:CompOk X scope N' t caps) (hi:Bx (PI X tg iter wi)) (hg:∀ b,Bx (PG (cxB X scope N' b) tg (g b))) (ht:∀ b,Bx (PTs (cxB X scope N' b) ifs (tc b))) (he:∀ b,Bx (PE (cxB X scope N' b) elt (te b))) (hsw:swapsWith (.ListComp elt [⟨tg,iter,ifs,0⟩] scope pos) (some (.Name y py)) spos.line X.env=pure true:=by rfl) (hs:∀ x,foldedSetIterable iter X.env x=pure x:=by intro _;rfl) (hf:X.fn y=true∨X.env.scope.names.lookup y=some .local:=by first | exact .inl rfl | exact .inr rfl | assumption):Bx (PS X (.Assign [.Name y py] (.ListComp elt [⟨tg,iter,ifs,0⟩] scope pos) spos) (WM (YD wi g tc te t caps) (vA i))):=⟨ur hc hN hiy hy S hi.of (fun x0=>(hg x0).of) (fun x0=>(ht x0).of) (fun x0=>(he x0).of) hsw hs hf⟩
end
section
variable {X:Cx}{k:Nat}{f C:Addr}{fd:FuncData}{ps:List Str}{sp:Sp}{x m:Str}{p pos apos:Pos}{e o:Expr}{es:List Expr}{ta:TE}{t:TA}
theorem zt (c:Callee X.prog X.w X.K X.mg X.base x f fd ps k sp) (hr:Room k X.A) (ha:Bx (PA X (e::es) t)) (hg:Gl X x:=by rfl) (hdb:(x == ("__debug__" : Str))=false:=by decide) (he:starEach (e::es) X.env=(false,eval e X.env)::starEach es X.env:=by rfl) (hpl:(backTo pos (starEach es X.env)).any (·.1)=false:=by rfl):Bx (PE X (.Call (.Name x p) (e::es) [] pos) (X0 sp [] E0 t)):=⟨XF c hr ha.of hg hdb he hpl⟩
theorem Xp (c:Maker X.prog X.w X.K X.mg X.base x C f fd ps k sp) (hr:Room (k+1) X.A) (ha:Bx (PA X (e::es) t)) (hg:Gl X x:=by rfl) (hdb:(x == ("__debug__" : Str))=false:=by decide) (he:starEach (e::es) X.env=(false,eval e X.env)::starEach es X.env:=by rfl) (hpl:(backTo pos (starEach es X.env)).any (·.1)=false:=by rfl):Bx (PE X (.Call (.Name x p) (e::es) [] pos) (XZ C sp [] E0 t)):=⟨zhU c hr ha.of hg hdb he hpl⟩
theorem zJ {pl:Sem Bool}(he:Bx (PE X o ta)) (ha:Bx (PA X (e::es) t)) (hst:starEach (e::es) X.env=(false,eval e X.env)::starEach es X.env:=by rfl) (hpl:(backTo pos (starEach es X.env)).any (·.1)=false:=by rfl) (ht:eval (.Call (.Attribute o m apos) (e::es) [] pos) X.env=(do
   let ov ← eval o X.env
   standAt apos.atName
   let (f,first) ← holding [ov] (getMethod ov m pl)
   callWith pos f first (backTo pos (starEach (e::es) X.env)) (backToKw pos (keywordEach [] X.env))):=by rfl):Bx (PE X (.Call (.Attribute o m apos) (e::es) [] pos) (vQ X m ta t)):=⟨YM he.of ha.of hst hpl ht⟩
theorem z8 {pl:Sem Bool}(he:Bx (PE X o ta)) (ht:eval (.Call (.Attribute o m apos) [] [] pos) X.env=(do
   let ov ← eval o X.env
   standAt apos.atName
   let (f,first) ← holding [ov] (getMethod ov m pl)
   callWith pos f first (backTo pos (starEach [] X.env)) (backToKw pos (keywordEach [] X.env))):=by rfl):Bx (PE X (.Call (.Attribute o m apos) [] [] pos) (vQ X m ta Uk)):=⟨ZG he.of ht⟩
end
section
theorem Yx {X:Cx}{x:Str}{C:Addr}{pos:Pos}(hm:X.mg x=some (.ref C)) (hg:Gl X x:=by rfl) (hd:(x == ("__debug__" : Str))=false:=by decide):Bx (PE X (.Name x pos) (tC (.ref C))):=⟨VF hm hg hd⟩
theorem zW {X:Cx}{x:Str}{n:String}{pos:Pos}(hm:X.mg x=none) (hv:bootBuiltins x=some (.type n)) (hg:Gl X x:=by rfl) (hn:x ≠ "__name__" := by decide) (hd:(x == ("__debug__" : Str))=false:=by decide):Bx (PE X (.Name x pos) (tC (.ty n))):=⟨wb hm hv hg hn hd⟩
end
section
variable {X:Cx}{es:List Expr}{t:TA}{te:TE}
theorem zO {c j pos}(ha:Bx (PE X (.Constant c j pos) te)) (hr:Bx (PA X es t)):Bx (PA X (.Constant c j pos::es) (xv te t)):=⟨zhX ha.of hr.of⟩
theorem Xq {xs c pos}(ha:Bx (PE X (.Tuple xs c pos) te)) (hr:Bx (PA X es t)):Bx (PA X (.Tuple xs c pos::es) (xv te t)):=⟨zhV ha.of hr.of⟩
theorem zS {f xs ks pos}(ha:Bx (PE X (.Call f xs ks pos) te)) (hr:Bx (PA X es t)):Bx (PA X (.Call f xs ks pos::es) (xv te t)):=⟨zhW ha.of hr.of⟩
theorem xW {l o r pos}(ha:Bx (PE X (.BinOp l o r pos) te)) (hr:Bx (PA X es t)):Bx (PA X (.BinOp l o r pos::es) (xv te t)):=⟨zhY ha.of hr.of⟩
theorem zh {x pos}(ha:Bx (PE X (.Name x pos) te)) (hr:Bx (PA X es t)):Bx (PA X (.Name x pos::es) (xv te t)):=⟨xr ha.of hr.of⟩
end
def Th (G:Hp) (Q:Hp→Prop) (H:Hp):Prop:=Q H∨∃ (d:Addr) (od:Obj) (kvs:List (Key×V)),(∀ o u,G d≠some (.frz o u))∧H d=some (.frz od (.dK kvs))∧Q (upd H d (.dK kvs))
def zdP (G:Hp) (t:TE):TE:=fun σ H Q=>t σ H fun v=>Th G (Q v)
def zdO (G:Hp) (t:TS):TS:=fun D σ H=>t ⟨fun σ=>Th G (D.nx σ),fun v=>Th G (D.rt v),fun σ=>Th G (D.bk σ),fun σ=>Th G (D.ct σ)⟩ σ H
section
variable {X:Cx}{pins:List (Addr×Obj)}{σ:St}{H G:Hp}{s:Shared}{d:Addr}{od:Obj}{kvs:List (Key×V)}
theorem Th.inv {Q:Hp→Prop}(I:Inv X pins σ H s) (h:Th X.H₀ Q H):∃ H',Inv X pins σ H' s∧Q H':=by
 rcases h with h | ⟨d,od,kvs,S,g,h⟩
 ·exact⟨_,I,h⟩
 ·exact⟨_,I.thaw S g,h⟩
theorem Wm {e:Expr}{t:TE}(h:PE X e t):PE X e (zdP X.H₀ t):=by
 intro pins s σ H Q I q
 refine thn (h pins s σ H _ I q) fun u s' hq0=>?_
 obtain⟨v,H',I',r,q'⟩:=hq0
 obtain⟨H2,I2,q2⟩:=Th.inv I' q'
 exact⟨v,H2,I2,r,q2⟩
theorem Wi {st:Stmt}{t:TS}(h:PS X st t):PS X st (zdO X.H₀ t):=by
 intro pins s σ H D I q
 refine thn (h pins s σ H _ I q) fun f s' q'=>?_
 cases f with
 |next=>obtain⟨σ',H',I',q'⟩:=q';obtain⟨H2,I2,q2⟩:=Th.inv I' q';exact⟨_,_,I2,q2⟩
 |cont=>obtain⟨σ',H',I',q'⟩:=q';obtain⟨H2,I2,q2⟩:=Th.inv I' q';exact⟨_,_,I2,q2⟩
 |brk=>obtain⟨σ',H',I',q'⟩:=q';obtain⟨H2,I2,q2⟩:=Th.inv I' q';exact⟨_,_,I2,q2⟩
 |ret v=>obtain⟨x,σ',H',I',r,q'⟩:=q';obtain⟨H2,I2,q2⟩:=Th.inv I' q';exact⟨_,_,_,I2,r,q2⟩
theorem ZZ {P:Program}{w:World}{k:Key}{u:Value}(h:(zA P w).is k u=true):RelV (kV k) u:=by
 rw[ut] at h
 cases k with
 |inl i=>cases u<;>simp[wy,Value.isInt] at h<;>(subst h;exact⟨_,rfl⟩)
 |inr x=>cases u<;>simp[wy,Value.isStrOf] at h<;>(subst h;exact⟨_,rfl⟩)
theorem yW:entryFor table "dict_itemiterator.__iter__" = some Builtin.«dict_keyiterator.__iter__» :=
 entryFor_alias (id' := "dict_keyiterator.__iter__") (by kernel_rfl) rfl (by decide +kernel) (by kernel_rfl)
theorem xG {prog:Program}{w:World}{A:Around}{E:Value→Shared→Prop}{s:Shared}{it d:Addr}{i n ep:Nat}{ok ov:Value}{Q:Value→Shared→Prop}(hit:IsItemIter s.heap it d i n ep ok ov) (h:Q (.ref it) s):wpAny (model prog w) A (pyIter (.ref it)) Q E s:=by
 have ti:s.TypeIs (.ref it) "dict_itemiterator" := ⟨_,hit,rfl⟩
 refine wpAny_pyIter_slot ti F.slot_dict_itemiterator_iter (wpAny_call_entry F.slot_dict_itemiterator_iter ti yW ?_ (F.args_dict_itemiterator_iter_1 _))
 show wpAny _ _ (ret (.ref it)) _ _ s
 exact wpAny_pure ⟨_,rfl, "dict_itemiterator",_,ti,F.slot_dict_itemiterator_next.lookup,h⟩
abbrev YL:=Key×V→V→Hp→Hp→Prop
def yK:YL:=fun kv x H H'=>H'=H∧x=kV kv.1
def yI:YL:=fun kv x H H'=>∃ p,H p=none∧x=.ref p∧H'=upd H p (.tup [kV kv.1,kv.2])
def Itd (yl:YL) (d:Addr) (od:Obj) (kvs:List (Key×V)):It :=
 ⟨fun i H=>H d=some (.frz od (.dK kvs))∧i<kvs.length,fun i H x H'=>∃ kv,kvs[i]?=some kv∧yl kv x H H',fun i H=>H d=some (.frz od (.dK kvs))∧kvs.length≤i⟩
theorem vh {P:Program}{w:World}{K:PySem.W.Frag}{es:List Expr}{n:Nat}{tp:Pos}{it d:Addr}{od:Obj}{kvs:List (Key×V)}{vs:List (Key×Value)}{ep:Nat}(rel:KV kvs vs)
  (da:∀ h:Heap,h.get? d=some od→Heap.DictAt (zA P w) h d vs ep):Turn P w K (.Tuple es n tp) (Itd yI d od kvs) [it] it (fun i h=>∃ ok ov,IsItemIter h it d i vs.length ep ok ov) where
 mem:=by simp
 obj:=fun i h ⟨ok,ov,st⟩ b hb=>by
  rw[List.mem_singleton.mp hb]
  exact⟨_,st,fun v z=>by
   have z':Data.fields _=Data.cell v:=z
   cases z'⟩
 keep:=fun i h h' ⟨ok,ov,st⟩ k=>⟨ok,ov,k it (by simp) _ st⟩
 item:=by
  intro X hP hw hK hc i pins s σ H E I hf st hg
  subst hP hw hK
  obtain⟨ok,ov,st⟩:=st
  have fi:=hf it (by simp)
  have d3:=(I.hok d _ hg.1).1
  have hx:kvs[i]?=some (kvs[i]'hg.2):=List.getElem?_eq_getElem hg.2
  obtain⟨u,hu,ru⟩:=rel.getAt hx
  refine wpAny_pyNext_items_item st (da _ d3) hu fun key h1 hkey O1 T1 z1 kk=>?_
  refine⟨_,rfl,wpAny_letOwnedTupleGo_items (s:={ s with heap:=h1 }) O1 fun h2 E2 sb=>?_⟩
  have te:s.heap.objs.size≠it:=(Nat.ne_of_lt (Heap.lt_size st)).symm
  have T2:=sb.extBut _ _ te T1
  have k2:∀ c o,c∉[it]→s.heap.get? c=some o→h2.get? c=some o:=fun c o hc q=>by
   have hc:c≠it:=by simpa using hc
   exact sb.extBut c o hc (kk c o hc q)
  have hn:H s.heap.objs.size=none:=I.fresh
  refine⟨.ref s.heap.objs.size,upd H s.heap.objs.size (.tup [kV (kvs[i]'hg.2).1,(kvs[i]'hg.2).2]),I.turnedLaid (t':=s.toks) (ch:=[it]) hf k2 (Nat.le_refl _) ⟨by show 2≤sizeLine;decide,[key,u],.cons (ZZ hkey) (.cons ru .nil),⟨_,T2,rfl,_,rfl⟩⟩,rfl,
   ⟨_,hx,_,hn,rfl,rfl⟩,⟨_,_,E2⟩,fun c hc=>?_⟩
  rw[List.mem_singleton.mp hc,upd_ne te.symm]
  exact fi.1
 done:=by
  intro X hP hw hK hc i pins s σ H E I hf st hg
  subst hP hw hK
  obtain⟨ok,ov,st⟩:=st
  obtain⟨f0,f1,f2,f3,f4,f5⟩:=hf it (by simp)
  have d3:=(I.hok d _ hg.1).1
  have lv:=rel.length
  exact wpAny_pyNext_items_end (I.ok.hd hc) st (da _ d3) (List.getElem?_eq_none (by have:=hg.2;omega)) fun h' kk=>⟨rfl,I.turned (t':=s.toks) (fun b o hb q=>kk b o hb q) f0 f1 f3 f4 f5⟩
 self:=fun _ _ _ _ _ ⟨_,_,st⟩ h=>xG st h
theorem uh {P:Program}{w:World}{K:PySem.W.Frag}{tg:Expr}{it d:Addr}{od:Obj}{kvs:List (Key×V)}{vs:List (Key×Value)}{ep:Nat}(rel:KV kvs vs)
  (da:∀ h:Heap,h.get? d=some od→Heap.DictAt (zA P w) h d vs ep):Turn P w K tg (Itd yK d od kvs) [it] it (fun i h=>h.IsKeyIter it d i vs.length ep) where
 mem:=by simp
 obj:=fun i h ⟨o,o1,o2,o3⟩ b hb=>by
  rw[List.mem_singleton.mp hb]
  exact⟨_,o1,fun v z=>by rw[o3] at z;cases z⟩
 keep:=fun i h h' st k=>st.at fun o q=>k it (by simp) o q
 item:=by
  intro X hP hw hK hc i pins s σ H E I hf st hg
  subst hP hw hK
  obtain⟨f0,f1,f2,f3,f4,f5⟩:=hf it (by simp)
  have d3:=(I.hok d _ hg.1).1
  have hx:kvs[i]?=some (kvs[i]'hg.2):=List.getElem?_eq_getElem hg.2
  obtain⟨u,hu,ru⟩:=rel.getAt hx
  refine wpAny_pyNext_dict_item st (da _ d3) hu fun key h' hkey st4 sb=>?_
  obtain⟨oi,oi1,oi2,oi3⟩:=id st4
  exact⟨_,rfl,Yb (s:={ s with heap:=h' }) oi1 oi2 oi3 (by decide) ⟨_,H,I.turned (t':=s.toks) (fun b o hb q=>sb.extBut b o hb q) f0 f1 f3 f4 f5,ZZ hkey,⟨_,hx,rfl,rfl⟩,st4,fun b hb=>(hf b hb).1⟩⟩
 done:=by
  intro X hP hw hK hc i pins s σ H E I hf st hg
  subst hP hw hK
  obtain⟨f0,f1,f2,f3,f4,f5⟩:=hf it (by simp)
  have d3:=(I.hok d _ hg.1).1
  have lv:=rel.length
  exact wpAny_pyNext_dict_end (I.ok.hd hc) st (da _ d3) (List.getElem?_eq_none (by have:=hg.2;omega)) fun h' kk=>⟨rfl,I.turned (t':=s.toks) (fun b o hb q=>kk b o hb q) f0 f1 f3 f4 f5⟩
 self:=fun _ _ _ _ _ st h=>wpAny_pyIter_keyiter st h
def zaJ (yl:YL) (G:Hp) (td:TE):TI:=fun σ H R=>td σ H fun x H1=>∃ (d:Addr) (kvs:List (Key×V)),x=.ref d∧H1 d=some (.dK kvs)∧∀ od:Obj,(∀ o u,G d≠some (.frz o u))→R (Itd yl d od kvs) (upd H1 d (.frz od (.dK kvs)))
theorem Yc {x:Addr}(I:Inv X pins σ H s) (e:H d=some (.dK kvs)):∀ o u,X.H₀ d≠some (.frz o u):=fun o u z=>by
 have:=I.base.frzs d o u z
 rw[e] at this;cases this
theorem ZC {o:Expr}{es:List Expr}{n:Nat}{tp:Pos}{td:TE}{apos cpos:Pos}(ho:PE X o td)
  (hbase:attributeBase o "items" X.env (eval o X.env)=eval o X.env:=by rfl) (hline:(apos.endLine == cpos.line)=true:=by rfl):PI X (.Tuple es n tp) (.Call (.Attribute o "items" apos) [] [] cpos) (zaJ yI X.H₀ td):=by
 intro pins s σ H R I h
 refine wpAny_Call_method0_late hbase hline (thn (ho pins s σ H _ I h) fun v s1 hq0=>?_)
 obtain⟨x,H1,I1,rx,d,kvs,ex,e,q⟩:=hq0
 subst ex
 obtain rfl:v=Value.ref d:=rx
 obtain⟨t1,t2,_⟩:=Z4 I1 (.inl ⟨_,.inl e⟩)
 obtain⟨z,hd,vs,rel,dd⟩:=Xi I1.hok e
 refine⟨"dict", "dict.items",PySem.F.plainAttrs_dict,PySem.F.slot_dict_items,PySem.F.type_dict_items,t1,t2,Calls.callWith_builtin rfl (PySem.evalArgs_none ?_)⟩
 refine call_meetsIn PySem.F.slot_dict_items dd.typeIs PySem.F.entry_dict_items (PySem.F.args_dict_items_1 _) (meets_dict_items (zA X.prog X.w) d hd) ⟨⟨vs,dd⟩,?_⟩
 obtain⟨od,es',ep,q1,q2,q3,q4,q5,q6⟩:=dd
 have da:∀ h':Heap,h'.get? d=some od→Heap.DictAt (zA X.prog X.w) h' d vs ep:=fun _ q=>⟨od,es',q,q2,q3,q4,q5,q6⟩
 refine wpAny_pyIter_items (s:={ s1 with heap:=s1.heap.push _ }) (d:=d) ⟨_,Heap.get?_push_size _ rfl,rfl,rfl⟩ (da _ (Heap.get?_push_of_some _ q1)) ?_
 have hle:s1.heap.objs.size≤(s1.heap.push { cls:=.type "dict_items",data:=.fields #[.ref d] }).objs.size:=by rw[Heap.size_push];exact Nat.le_succ _
 have I1f:=I1.froz e q1
 refine⟨_,[(s1.heap.push { cls:=.type "dict_items",data:=.fields #[.ref d] }).objs.size],_,_,_,rfl,I1f.kept (t':=s1.toks) fun b u q=>Heap.get?_push_of_some _ (Heap.get?_push_of_some _ q),vh rel da,⟨_,_,Heap.get?_push_size _ rfl⟩,fun b hb=>?_,q od (Yc (x:=d) I1 e)⟩
 rw[List.mem_singleton.mp hb]
 exact I1f.fpOk hle (I1f.hok.fresh hle)
theorem YJ {tg l:Expr}{td:TE}(hl:PE X l td):PI X tg l (zaJ yK X.H₀ td):=by
 intro pins s σ H R I h
 refine thn (hl pins s σ H _ I h) fun v s1 hq0=>?_
 obtain⟨x,H1,I1,rx,d,kvs,ex,e,q⟩:=hq0
 subst ex
 obtain rfl:v=Value.ref d:=rx
 obtain⟨z,hd,vs,rel,dd⟩:=Xi I1.hok e
 obtain⟨od,es',ep,q1,q2,q3,q4,q5,q6⟩:=dd
 have da:∀ h':Heap,h'.get? d=some od→Heap.DictAt (zA X.prog X.w) h' d vs ep:=fun _ q=>⟨od,es',q,q2,q3,q4,q5,q6⟩
 refine wpAny_pyIter_dict hd (da _ q1) ?_
 have I1f:=I1.froz e q1
 refine⟨_,[s1.heap.objs.size],_,_,_,rfl,I1f.kept (t':=s1.toks) fun b u q=>Heap.get?_push_of_some _ q,uh rel da,⟨_,Heap.get?_push_size _ rfl,rfl,rfl⟩,fun b hb=>?_,q od (Yc (x:=d) I1 e)⟩
 rw[List.mem_singleton.mp hb]
 exact I1f.fpOk (Nat.le_refl _) (I1f.hok.fresh (Nat.le_refl _))
end
theorem v9 {yl:YL}{d:Addr}{od:Obj}{kvs:List (Key×V)}{g:TG}{tb:TS}{D:Ends}{σ:St}{H:Hp}(Pv:Nat→St→Hp→Prop) (h0:Pv 0 σ H) (hf:∀ i σ H,Pv i σ H→H d=some (.frz od (.dK kvs)))
  (hs:∀ i kv x σ H H',kvs[i]?=some kv→Pv i σ H→yl kv x H H'→g x σ H' fun σ2 H2=>tb { D with nx:=Pv (i+1),ct:=Pv (i+1),bk:=D.nx } σ2 H2) (hd:∀ σ H,Pv kvs.length σ H→D.nx σ H) :
  ∃ W:Nat→Nat→St→Hp→Prop,(∃ m,W 0 m σ H)∧∀ i m σ H,W i m σ H →
   ((Itd yl d od kvs).stop i H∧D.nx σ H)∨((Itd yl d od kvs).go i H∧∃ N:St→Hp→Prop,(∀ σ' H',N σ' H'→∃ m',m'<m∧W (i+1) m' σ' H')∧∀ x H',(Itd yl d od kvs).yld i H x H'→g x σ H' fun σ2 H2=>tb { D with nx:=N,ct:=N,bk:=D.nx } σ2 H2):=by
 refine⟨fun i m σ H=>m=kvs.length-i∧i≤kvs.length∧Pv i σ H,⟨_,rfl,Nat.zero_le _,h0⟩,?_⟩
 rintro i m σ H ⟨rfl,hi,p⟩
 have q:=hf i σ H p
 by_cases hlt:i<kvs.length
 ·refine .inr ⟨⟨q,hlt⟩,Pv (i+1),fun σ' H' z=>⟨_,by omega,rfl,hlt,z⟩,fun x H' ⟨kv,hk,y⟩=>hs i kv x σ H H' hk p y⟩
 ·have e:i=kvs.length:=by omega
  subst e
  exact .inl ⟨⟨q,Nat.le_refl _⟩,hd σ H p⟩
theorem comp_view {yl:YL}{d:Addr}{od:Obj}{kvs:List (Key×V)}{g:TG}{tc:TT}{te:TE}{Q:VK}{D:Addr}{τ0:St}{H0:Hp}(Pv:Nat→List V→St→Hp→Prop) (h0:Pv 0 [] τ0 H0) (hf:∀ i zs τ H,Pv i zs τ H→H d=some (.frz od (.dK kvs)))
  (hs:∀ i kv x zs τ H H',kvs[i]?=some kv→Pv i zs τ H→yl kv x H H'→g x τ H' fun τ2 H4=>tc τ2 H4 fun b H5 =>
   if b=true then te τ2 H5 fun y H6=>H6 D=some (.lst zs)∧zs.length<sizeLine∧Pv (i+1) (zs++[y]) τ2 (upd H6 D (.lst (zs++[y]))) else Pv (i+1) zs τ2 H5)
  (hd:∀ zs τ H,Pv kvs.length zs τ H→Q (.ref D) H):uC (Itd yl d od kvs) g tc te Q D τ0 H0 :=
 vD kvs.length Pv h0 (fun zs τ H p=>⟨⟨hf _ _ _ _ p,Nat.le_refl _⟩,hd zs τ H p⟩) fun i zs τ H hi p=>⟨⟨hf _ _ _ _ p,hi⟩,fun x H3 ⟨kv,hk,y⟩=>hs i kv x zs τ H H3 hk p y⟩
theorem uB {K:Type} [DecidableEq K]{xs:List (K×Addr×Value)}{k:K}(h:∀ (j:Nat) (p:Addr×Value),xs[j]?≠some (k,p)):atKey xs k=none:=by
 unfold atKey
 rw[Option.map_eq_none_iff,List.find?_eq_none]
 intro x hx e
 obtain⟨j,hj⟩:=List.getElem?_of_mem hx
 have e:x.1=k:=by simpa using e
 exact h j x.2 (by rw[hj,← e])
theorem uA {K:Type} [DecidableEq K]{xs:List (K×Addr×Value)}{k:K}{j:Nat}{p:Addr×Value}(nd:(xs.map (·.1)).Nodup) (h:xs[j]?=some (k,p)):atKey xs k=some p:=by
 unfold atKey
 have hm:=List.mem_of_getElem? h
 cases hf:xs.find? (fun x=>decide (x.1=k)) with
 |none =>
  rw[List.find?_eq_none] at hf
  exact absurd (hf _ hm) (by simp)
 |some y =>
  have h1:=List.find?_some hf
  have h2:=List.mem_of_find?_eq_some hf
  have e:y.1=k:=by simpa using h1
  obtain⟨i,hi⟩:=List.getElem?_of_mem h2
  have z:i=j:=by
   have a1:(xs.map (·.1))[i]?=some k:=by rw[List.getElem?_map,hi,← e];rfl
   have a2:(xs.map (·.1))[j]?=some k:=by rw[List.getElem?_map,h];rfl
   obtain⟨l1,q1⟩:=List.getElem?_eq_some_iff.mp a1
   obtain⟨l2,q2⟩:=List.getElem?_eq_some_iff.mp a2
   exact(List.getElem?_inj l1 nd).mp (a1.trans a2.symm)
  subst z
  rw[hi] at h
  cases h
  rfl
theorem Xh {prog:Program}{w:World}{K:Type} [DecidableEq K]{knd:HeapKind prog w K}{A:Around}{E:Value→Shared→Prop}{s:Shared}{d a:Addr}{xs:List (K×Addr×Value)}{k:K}{v:Value}{Q:Value→Shared→Prop}
  (hr:knd.room A) (hk:knd.is s.heap k a) (hd:Heap.DictOfH knd s.heap d xs)
  (h1:∀ p,atKey xs k=some p→Q p.2 { s with toks:=s.toks+knd.draws k })
  (h2:atKey xs k=none→∀ h',Heap.DictOfH knd h' d (storedH xs k a v)→Heap.SameBut d s.heap h'→Q v { s with heap:=h',toks:=s.toks+knd.draws k })
  (hz:xs.length≤sizeLine):wpAny (model prog w) A (dictSetDefault d (.ref a) v) Q E s:=by
 obtain⟨o,es,ep,ho,ex,hdat,hes,his,nd⟩:=hd
 unfold dictSetDefault
 refine wpAny_holding (wpAny_bind (knd.pyHash hr hk ?_))
 refine wpAny_bind (wpAny_dictFind_heap hr (s:={ s with toks:=s.toks+knd.draws k }) hk ho hdat hes his nd (fun hn=>?_) fun j p hj=>?_)
 ·have hn':=uB hn
  refine wpAny_bind (wpAny_rule (wpAny_bind (wpAny_updateDictKeys (s:={ s with toks:=s.toks+knd.draws k }) ho hdat (wpAny_pure (h2 hn' _ ?_ ?_)) ?_ ?_)))
  ·have sb:Heap.SameBut d s.heap (s.heap.update d (Obj.mapDictKeys fun x=>x.push { hash:=knd.hash k,key:=.ref a,val:=v })):=⟨Heap.size_update _ _ _,fun b hb=>Heap.get?_update_ne _ _ _ _ hb⟩
   refine⟨_,es.push { hash:=knd.hash k,key:=.ref a,val:=v },ep+1,Heap.get?_update_self _ ho (by obtain⟨c,dd,dt,sl⟩:=o;cases hdat;rfl),?_,?_,?_,?_,?_⟩
   ·obtain⟨c,dd,dt,sl⟩:=o
    cases hdat
    exact ex
   ·obtain⟨c,dd,dt,sl⟩:=o
    cases hdat
    rfl
   ·rw[storedH_new hn',Array.toList_push,hes,List.map_append]
    rfl
   ·rw[storedH_new hn']
    intro x hx
    rcases List.mem_append.mp hx with z | z
    ·exact knd.keeps (his x z) ho hdat sb
    ·rw[List.mem_singleton.mp z]
     exact knd.keeps hk ho hdat sb
   ·rw[storedH_new hn',List.map_append,List.nodup_append]
    refine⟨nd,by simp,fun x hx y hy e=>?_⟩
    have hy:y=k:=by simpa using hy
    obtain⟨z,hz1,hz2⟩:=List.mem_map.mp hx
    obtain⟨j,hj⟩:=List.getElem?_of_mem hz1
    exact hn j z.2 (by rw[hj,← hy,← e,← hz2])
  ·exact⟨Heap.size_update _ _ _,fun b hb=>Heap.get?_update_ne _ _ _ _ hb⟩
  ·have:es.size=xs.length:=by
    rw[← Array.length_toList,hes,List.length_map]
   omega
  ·simp
 ·have e1:=uA nd hj
  refine wpAny_bind (wpAny_dictEntries (s:={ s with toks:=s.toks+knd.draws k }) ho hdat ?_)
  have:es[j]?=some (entryOfKey knd (k,p)):=by
   rw[← Array.getElem?_toList,hes,List.getElem?_map,hj]
   rfl
  rw[this]
  exact wpAny_bind (wpAny_rule (wpAny_pure (h1 p e1)))
theorem yC {prog:Program}{w:World}{K:Type} [DecidableEq K] (knd:HeapKind prog w K) (d a:Addr) (hd:(d == sysModules)=false) (v:Value) :
  MeetsIn prog w (Builtin.«dict.setdefault» ⟨[.ref d,.ref a,v],[]⟩) fun A R s=>knd.room A.in1∧s.TypeIs (.ref d) "dict" ∧ ∃ k xs,knd.is s.heap k a∧Heap.DictOfH knd s.heap d xs∧xs.length≤sizeLine ∧
   (∀ p,atKey xs k=some p→R (.ok (.ret p.2)) { s with toks:=s.toks+knd.draws k }) ∧
   (atKey xs k=none→∀ h',Heap.DictOfH knd h' d (storedH xs k a v)→Heap.SameBut d s.heap h'→R (.ok (.ret v)) { s with heap:=h',toks:=s.toks+knd.draws k }):=by
 intro A R s ⟨hr,ht,k,xs,hk,hx,hz,h1,h2⟩
 unfold Builtin.«dict.setdefault»
 refine wpAny_bind ?_
 unfold Builtin.Dict.keyAndDefault
 refine wpAny_bind (wpAny_notOrdered_dict ht ?_)
 show wpAny _ _ (pure (d,Value.ref a,some v)) _ _ _
 refine wpAny_pure ?_
 show wpAny _ _ (if (d == sysModules)=true then _ else _) _ _ _
 rw[if_neg (by rw[hd];simp)]
 refine wpAny_bind (Xh hr hk hx (fun p hp=>?_) (fun hn h' hh sb=>?_) hz)
 ·exact wpAny_pure (h1 p hp)
 ·exact wpAny_pure (h2 hn h' hh sb)
def zg4 (H:Hp) (a:Addr) (y v:V) (Q:V→Hp→Prop):Prop :=
 (∃ kvs k,H a=some (.dK kvs)∧y=kV k∧kvs.length<sizeLine∧(∀ x,yV kvs k=some x→Q x H)∧(yV kvs k=none→Q v (upd H a (.dK (putK kvs k v))))) ∨
 ∃ kvs k b,H a=some (.dT kvs)∧y=.ref b∧H b=some (.tup (k.map kV))∧kvs.length<sizeLine∧(∀ x,yV kvs k=some x→Q x H)∧(yV kvs k=none→Q v (upd H a (.dT (putK kvs k v))))
section
variable {X:Cx}{pins:List (Addr×Obj)}{σ:St}{H:Hp}{s:Shared}{a:Addr}{y v:V}{u r:Value}{A:Around}{E:Value→Shared→Prop}
theorem Xk {Q:Value→Shared→Prop}{C:V→Hp→Prop}(hu:A.units+1<cLine) (I:Inv X pins σ H s) (g:zg4 H a y v C) (ry:RelV y u) (rv:RelV v r) (h:∀ x H' w' s',C x H'→Inv X pins σ H' s'→RelV x w'→Q w' s') :
  wpAny (model X.prog X.w) A (call (.builtin "dict.setdefault") [.ref a,u,r]) Q E s:=by
 rcases g with⟨kvs,k,e,ey,l,c1,c2⟩ | ⟨kvs,k,b,e,ey,eb,l,c1,c2⟩
 ·subst ey
  obtain⟨z,hd,vs,rel,dd⟩:=Xi I.hok e
  have hz:vs.length≤sizeLine:=by rw[← rel.length];exact z
  have hl:(putK kvs k v).length≤sizeLine:=by have:=yw kvs k v;omega
  refine call_meetsIn PySem.F.slot_dict_setdefault dd.typeIs PySem.F.entry_dict_setdefault (PySem.F.args_dict_setdefault_3 _ _ _) (kt_meets_setdefault (zA X.prog X.w) a (wX ry) hd r) ⟨vs,dd,hz,fun w' hw=>?_,fun hn h' dd' hs=>?_⟩
  ·have q:=rel.val k
   rw[hw] at q
   cases hv:yV kvs k with
   |none=>rw[hv] at q;exact False.elim q
   |some x =>
    rw[hv] at q
    exact h x H w' _ (c1 x hv) (I.tok _) q
  ·have q:=rel.val k
   rw[hn] at q
   cases hv:yV kvs k with
   |some x=>rw[hv] at q;exact False.elim q
   |none =>
    have he:∃ q,h'.get? a=some q:=let ⟨q,_,_,hq,_⟩:=dd';⟨q,hq⟩
    exact h v _ r _ (c2 hv) (wA I (by rw[e];exact True.intro) hs he (Ye hl hd (rel.put k rv) dd')) rv
 ·subst ey
  cases (show u=Value.ref b from ry)
  obtain⟨z,hd,xs,rel,dd⟩:=WJ I.hok e
  have hz:xs.length≤sizeLine:=by rw[← Paired.length rel];exact z
  have hl:(putK kvs k v).length≤sizeLine:=by have:=yw kvs k v;omega
  refine call_meetsIn PySem.F.slot_dict_setdefault dd.typeIs PySem.F.entry_dict_setdefault (PySem.F.args_dict_setdefault_3 _ _ _) (yC (tupleKind (zA X.prog X.w)) a b hd r) ⟨tupleKind_room_in1 hu,dd.typeIs,k,xs,xM I.hok eb,dd,hz,fun p hp=>?_,fun hn h' dd' hs=>?_⟩
  ·have q:=rel.val k
   rw[hp] at q
   cases hv:yV kvs k with
   |none=>rw[hv] at q;exact False.elim q
   |some x =>
    rw[hv] at q
    exact h x H p.2 _ (c1 x hv) (I.tok _) q
  ·have q:=rel.val k
   rw[hn] at q
   cases hv:yV kvs k with
   |some x=>rw[hv] at q;exact False.elim q
   |none =>
    obtain⟨q,es,ep,hq,h2,h3,h4,_,h5⟩:=dd'
    refine h v _ r _ (c2 hv) (wA I (by rw[e];exact True.intro) hs ⟨q,hq⟩ ⟨hl,hd,_,(rel.put k eb rv).keeps fun c ys ec=>?_,q,es,ep,hq,h2,h3,h4,h5⟩) rv
    rw[upd_ne (Wz ec e (fun z=>nomatch z))]
    exact ec
end
def Vi (td ty tx:TE):TE:=fun σ H Q=>td σ H fun x H1=>∃ a,x=.ref a∧IsD H1 a∧ty σ H1 fun y H2=>tx σ H2 fun z H3=>zg4 H3 a y z Q
section
variable {X:Cx}{o e f:Expr}{apos cpos:Pos}{td ty tx:TE}
theorem Wp (hu:X.A.units+1<cLine) (ho:PE X o td) (he:PE X e ty) (hf:PE X f tx) (m:M2 X o "setdefault" apos e f cpos):PE X (.Call (.Attribute o "setdefault" apos) [e,f] [] cpos) (Vi td ty tx):=by
 intro pins s σ H Q I h
 refine wpAny_Call_method m.base m.few m.line PySem.F.plainAttrs_dict PySem.F.slot_dict_setdefault PySem.F.type_dict_setdefault (thn (ho pins s σ H _ I h) fun u s1 hq0=>?_)
 obtain⟨x,H1,I1,rx,a,ex,d,q1⟩:=hq0
 subst ex
 obtain rfl:u=Value.ref a:=rx
 obtain⟨t1,t2,_⟩:=Z4 I1 d
 refine⟨t1,t2,?_⟩
 rw[m.trees]
 refine Calls.callWith_builtin rfl (Calls.evalArgs_plain (Calls.spliced_cons (thn (he pins s1 σ H1 _ I1 q1) fun iv s2 ⟨y,H2,I2,ry,q2⟩ =>
  Calls.spliced_cons (thn (hf pins s2 σ H2 _ I2 q2) fun fv s3 ⟨z,H3,I3,rz,g⟩=>Calls.spliced_nil ?_))))
 exact Xk hu I3 g ry rz fun x H' w' s4 c I4 rw'=>⟨x,H',I4,rw',c⟩
end
end L2
namespace L2
namespace Sco
open PySem PyProof.Rows
def WG:Bool→Keyed→Array Keyed→Nat→Nat→Nat→StateT SortSt Sem (Option Nat):=sortPriv% PySem.Builtin.gallop
def Y5:Array Keyed→Array Keyed→StateT SortSt Sem (Array Keyed):=sortPriv% PySem.Builtin.mergeLo
def Y6:Array Keyed→Array Keyed→StateT SortSt Sem (Array Keyed):=sortPriv% PySem.Builtin.mergeHi
def X9:Nat→StateT SortSt Sem Unit:=sortPriv% PySem.Builtin.setMinGallop
def vG (left:Bool) (key:Keyed) (arr:Array Keyed) (base i:Nat):StateT SortSt Sem (Option Bool) :=
 elem' arr (base+i) >>= fun x=>if left=true then lt' x key else lt' key x >>= fun o=>pure (o.map fun b=>!b)
section
variable {rk:Value→Int}
def kf (rk:Value→Int) (l:List Keyed) (i:Nat):Int:=(l[i]?.map fun x=>rk x.1).getD 0
theorem wW {l:List Keyed}{i:Nat}(h:i<l.length):kf rk l i=rk l[i].1:=by
 unfold kf
 rw[List.getElem?_eq_getElem h]
 rfl
theorem yd {a:Array Keyed}{i:Nat}(h:i<a.size):rk a[i].1=kf rk a.toList i:=by
 rw[wW (by simpa using h)]
 simp
def SA (rk:Value→Int) (l:List Keyed):Prop:=l.Pairwise fun x y=>rk x.1≤rk y.1
theorem SA.le {l:List Keyed}(h:SA rk l){i j:Nat}(hij:i≤j) (hj:j<l.length):kf rk l i≤kf rk l j:=by
 rw[wW (by omega),wW hj]
 rcases Nat.lt_or_eq_of_le hij with z | z
 ·exact List.pairwise_iff_getElem.mp h i j (by omega) hj z
 ·subst z;exact Int.le_refl _
theorem SA.of {l:List Keyed}(h:∀ i j,i<j→j<l.length→kf rk l i≤kf rk l j):SA rk l:=by
 refine List.pairwise_iff_getElem.mpr fun i j hi hj hij=>?_
 have:=h i j hij hj
 rw[wW hi,wW hj] at this
 exact this
theorem SA.drop {l:List Keyed}(h:SA rk l) (n:Nat):SA rk (l.drop n):=h.sublist (List.drop_sublist n l)
theorem SA.take {l:List Keyed}(h:SA rk l) (n:Nat):SA rk (l.take n):=h.sublist (List.take_sublist n l)
theorem SA.app {l m:List Keyed}(h:SA rk l) (k:SA rk m) (c:∀ u∈l,∀ v∈m,rk u.1≤rk v.1):SA rk (l++m):=List.pairwise_append.mpr ⟨h,k,c⟩
theorem SA.one {x:Keyed}:SA rk [x]:=List.pairwise_singleton _ _
theorem SA.nil:SA rk []:=List.Pairwise.nil
theorem yj {l:List Keyed}{n:Nat}{v:Keyed}(h:v∈l.drop n):∃ i,n≤i∧i<l.length∧rk v.1=kf rk l i:=by
 obtain⟨i,hi,e⟩:=List.getElem_of_mem h
 rw[List.length_drop] at hi
 refine⟨n+i,by omega,by omega,?_⟩
 rw[wW (by omega),← e,List.getElem_drop]
theorem ye {l:List Keyed}{n:Nat}{v:Keyed}(h:v∈l.take n):∃ i,i<n∧i<l.length∧rk v.1=kf rk l i:=by
 obtain⟨i,hi,e⟩:=List.getElem_of_mem h
 rw[List.length_take] at hi
 refine⟨i,by omega,by omega,?_⟩
 rw[wW (by omega),← e,List.getElem_take]
theorem wf {l:List Keyed}{n k:Nat}{v:Keyed}(h:v∈(l.drop n).take k):∃ i,n≤i∧i<n+k∧i<l.length∧rk v.1=kf rk l i:=by
 obtain⟨i,hi,e⟩:=List.getElem_of_mem h
 rw[List.length_take,List.length_drop] at hi
 refine⟨n+i,by omega,by omega,by omega,?_⟩
 rw[wW (by omega),← e,List.getElem_take,List.getElem_drop]
end
section
variable {prog:Program}{w:World}{A:Around}{E:Value→Shared→Prop}{s:Shared}{it:List Keyed}{κ:SortKind}{rk:Value→Int}
def Cmp (prog:Program) (w:World) (A:Around) (s:Shared) (it:List Keyed) (κ:SortKind) (rk:Value→Int):Prop :=
 ∀ x∈it,∀ y∈it,∀ (Q:Bool→Shared→Prop) (E:Value→Shared→Prop),Q (decide (rk x.1<rk y.1)) s→wpAny (model prog w) A (keyLt' κ x.1 y.1) Q E s
theorem W8 (C:Cmp prog w A s it κ rk){st:SortSt}(hk:kindOf st=κ){x y:Keyed}(hx:x∈it) (hy:y∈it){Q:Option Bool→SortSt→Prop}(h:Q (some (decide (rk x.1<rk y.1))) st):wpS (model prog w) A E s (lt' x y) Q st:=by
 rw[lt'_eq]
 refine wpS_bind (wpS_get ?_)
 rw[hk]
 refine wpS_bind (wpS_lift (wpAny_attempt (C x hx y hy _ _ ⟨rfl,?_⟩)))
 exact wpS_pure h
theorem t_elem {st:SortSt}{arr:Array Keyed}{i:Nat}(hi:i<arr.size){Q:Keyed→SortSt→Prop}(h:Q arr[i] st):wpS (model prog w) A E s (elem' arr i) Q st:=by
 rw[elem'_eq,getElem?_pos arr i hi]
 exact wpS_pure h
theorem vP (C:Cmp prog w A s it κ rk){st:SortSt}(hk:kindOf st=κ){left:Bool}{key:Keyed}{arr:Array Keyed}{base i:Nat}(hkey:key∈it) (harr:∀ x∈arr,x∈it) (hi:base+i<arr.size)
  {Q:Option Bool→SortSt→Prop}(h:Q (some (decide (kf rk arr.toList (base+i)<if left=true then rk key.1 else rk key.1+1))) st):wpS (model prog w) A E s (vG left key arr base i) Q st:=by
 unfold vG
 refine wpS_bind (t_elem hi ?_)
 have hx:arr[base+i]∈it:=harr _ (Array.getElem_mem hi)
 have e:=yd (rk:=rk) hi
 cases left with
 |true =>
  refine W8 C hk hx hkey ?_
  rw[e]
  exact h
 |false =>
  refine wpS_bind (W8 C hk hkey hx ?_)
  refine wpS_pure ?_
  rw[e]
  have:(!decide (rk key.1<kf rk arr.toList (base+i)))=decide (kf rk arr.toList (base+i)<rk key.1+1):=by
   by_cases z:rk key.1<kf rk arr.toList (base+i)
   ·rw[decide_eq_true z,decide_eq_false (by omega)];rfl
   ·rw[decide_eq_false z,decide_eq_true (by omega)];rfl
  show Q (some (!decide (rk key.1<kf rk arr.toList (base+i)))) st
  rw[this]
  exact h
theorem yN (C:Cmp prog w A s it κ rk){st:SortSt}(hk:kindOf st=κ){left:Bool}{key:Keyed}{arr:Array Keyed}{base n hint:Nat}(hkey:key∈it) (harr:∀ x∈arr,x∈it) (hb:base+n≤arr.size) (hh:hint<n)
  (hs:∀ i j,i≤j→j<n→kf rk arr.toList (base+i)≤kf rk arr.toList (base+j))
  {Q:Option Nat→SortSt→Prop}(h:∀ k,k≤n→(∀ i,i<k→kf rk arr.toList (base+i)<if left=true then rk key.1 else rk key.1+1)→(∀ i,k≤i→i<n→(if left=true then rk key.1 else rk key.1+1)≤kf rk arr.toList (base+i))→Q (some k) st):wpS (model prog w) A E s (WG left key arr base n hint) Q st:=by
 refine wpS_bind (vP C hk hkey harr (by omega) ?_)
 generalize ht:(if left=true then rk key.1 else rk key.1+1)=t at h ⊢
 have hbey:∀ {i:Nat}{Q:Option Bool→SortSt→Prop},i<n→Q (some (decide (kf rk arr.toList (base+i)<t))) st→wpS (model prog w) A E s (vG left key arr base i) Q st:=fun hi q=>vP C hk hkey harr (by omega) (by rw[ht];exact q)
 generalize hf:(fun i=>kf rk arr.toList (base+i))=f at *
 have ef:∀ i,kf rk arr.toList (base+i)=f i:=fun i=>by rw[← hf]
 simp only[ef] at hs h hbey ⊢
 by_cases z0:f hint<t
 ·rw[decide_eq_true z0]
  simp only[if_true]
  refine wpS_bind (wpS_mono (wpS_forRange (I:=fun j c st'=>st'=st∧∃ a b,c=(none,a,b)∧a<b∧hint+a<n∧j+1≤b∧f (hint+a)<t) (Q:=fun c st'=>st'=st∧∃ a b,c=(none,a,b)∧a<b∧hint+a<n∧f (hint+a)<t∧(b≥n-hint∨(hint+b<n∧t≤f (hint+b)))) ?_ ?_ ⟨rfl,_,_,rfl,by omega,by omega,by omega,z0⟩) ?_)
  ·rintro j c st' _ hj ⟨rfl,a,b,rfl,ab,an,jb,l1⟩
   dsimp only
   by_cases q:b≥n-hint
   ·rw[if_pos q]
    exact wpS_pure ⟨rfl,a,b,rfl,ab,an,l1,.inl q⟩
   ·rw[if_neg q]
    refine wpS_bind (hbey (by omega) ?_)
    by_cases z:f (hint+b)<t
    ·rw[decide_eq_true z]
     exact wpS_pure ⟨rfl,_,_,rfl,by omega,by omega,by omega,z⟩
    ·rw[decide_eq_false z]
     exact wpS_pure ⟨rfl,a,b,rfl,ab,an,l1,.inr ⟨by omega,by omega⟩⟩
  ·rintro c st' ⟨rfl,a,b,rfl,ab,an,jb,l1⟩
   have e:max 0 n=n:=by omega
   rw[e] at jb
   exact⟨rfl,a,b,rfl,ab,an,l1,.inl (by omega)⟩
  ·rintro c st' ⟨rfl,a,b,rfl,ab,an,l1,l2⟩
   dsimp only
   have l3':∀ i,i<hint+a+1→f i<t:=fun i hi=>by
    have:=hs i (hint+a) (by omega) an
    omega
   have l4':∀ i,hint+min b (n-hint)≤i→i<n→t≤f i:=fun i hi hin=>by
    rcases l2 with l2 | ⟨l2,l3⟩
    ·omega
    ·have:=hs (hint+b) i (by omega) hin
     omega
   refine wpS_bind (wpS_mono (wpS_forRange (I:=fun j c st''=>st''=st'∧∃ a b,c=(none,a,b)∧a≤b∧b≤n∧b≤a+(n-j)∧(∀ i,i<a→f i<t)∧(∀ i,b≤i→i<n→t≤f i)) (Q:=fun c st''=>st''=st'∧∃ a b,c=(none,a,b)∧b≤n∧(∀ i,i<b→f i<t)∧(∀ i,b≤i→i<n→t≤f i)) ?_ ?_ ⟨rfl,_,_,rfl,by omega,by omega,by omega,l3',l4'⟩) ?_)
   ·rintro j c st'' _ hj ⟨rfl,a,b,rfl,ab,bn,bj,l1,l2⟩
    dsimp only
    by_cases q:a≥b
    ·rw[if_pos q]
     exact wpS_pure ⟨rfl,a,b,rfl,bn,fun i hi=>l1 i (by omega),l2⟩
    ·rw[if_neg q]
     refine wpS_bind (hbey (by omega) ?_)
     by_cases z:f (a+(b-a)/2)<t
     ·rw[decide_eq_true z]
      refine wpS_pure ⟨rfl,_,_,rfl,by omega,bn,by omega,fun i hi=>?_,l2⟩
      have:=hs i (a+(b-a)/2) (by omega) (by omega)
      omega
     ·rw[decide_eq_false z]
      refine wpS_pure ⟨rfl,_,_,rfl,by omega,by omega,by omega,l1,fun i hi hin=>?_⟩
      have:=hs (a+(b-a)/2) i (by omega) hin
      omega
   ·rintro c st'' ⟨rfl,a,b,rfl,ab,bn,bj,l1,l2⟩
    have e:max 0 n=n:=by omega
    rw[e] at bj
    exact⟨rfl,a,b,rfl,bn,fun i hi=>l1 i (by omega),l2⟩
   ·rintro c st'' ⟨rfl,a,b,rfl,bn,l1,l2⟩
    exact wpS_pure (h b bn l1 l2)
 ·rw[decide_eq_false z0]
  simp only[Bool.false_eq_true,if_false]
  refine wpS_bind (wpS_mono (wpS_forRange (I:=fun j c st'=>st'=st∧∃ a b,c=(none,a,b)∧a<b∧a≤hint∧j+1≤b∧t≤f (hint-a)) (Q:=fun c st'=>st'=st∧∃ a b,c=(none,a,b)∧a<b∧a≤hint∧t≤f (hint-a)∧(b≥hint+1∨(b≤hint∧f (hint-b)<t))) ?_ ?_ ⟨rfl,_,_,rfl,by omega,by omega,by omega,(by show t≤f (hint-0);rw[Nat.sub_zero];omega)⟩) ?_)
  ·rintro j c st' _ hj ⟨rfl,a,b,rfl,ab,an,jb,l1⟩
   dsimp only
   by_cases q:b≥hint+1
   ·rw[if_pos q]
    exact wpS_pure ⟨rfl,a,b,rfl,ab,an,l1,.inl q⟩
   ·rw[if_neg q]
    refine wpS_bind (hbey (by omega) ?_)
    by_cases z:f (hint-b)<t
    ·rw[decide_eq_true z]
     exact wpS_pure ⟨rfl,a,b,rfl,ab,an,l1,.inr ⟨by omega,z⟩⟩
    ·rw[decide_eq_false z]
     exact wpS_pure ⟨rfl,_,_,rfl,by omega,by omega,by omega,by omega⟩
  ·rintro c st' ⟨rfl,a,b,rfl,ab,an,jb,l1⟩
   have e:max 0 n=n:=by omega
   rw[e] at jb
   exact⟨rfl,a,b,rfl,ab,an,l1,.inl (by omega)⟩
  ·rintro c st' ⟨rfl,a,b,rfl,ab,an,l1,l2⟩
   dsimp only
   have l3':∀ i,i<hint+1-min b (hint+1)→f i<t:=fun i hi=>by
    rcases l2 with l2 | ⟨l2,l3⟩
    ·omega
    ·have:=hs i (hint-b) (by omega) (by omega)
     omega
   have l4':∀ i,hint-a≤i→i<n→t≤f i:=fun i hi hin=>by
    have:=hs (hint-a) i (by omega) hin
    omega
   refine wpS_bind (wpS_mono (wpS_forRange (I:=fun j c st''=>st''=st'∧∃ a b,c=(none,a,b)∧a≤b∧b≤n∧b≤a+(n-j)∧(∀ i,i<a→f i<t)∧(∀ i,b≤i→i<n→t≤f i)) (Q:=fun c st''=>st''=st'∧∃ a b,c=(none,a,b)∧b≤n∧(∀ i,i<b→f i<t)∧(∀ i,b≤i→i<n→t≤f i)) ?_ ?_ ⟨rfl,_,_,rfl,by omega,by omega,by omega,l3',l4'⟩) ?_)
   ·rintro j c st'' _ hj ⟨rfl,a,b,rfl,ab,bn,bj,l1,l2⟩
    dsimp only
    by_cases q:a≥b
    ·rw[if_pos q]
     exact wpS_pure ⟨rfl,a,b,rfl,bn,fun i hi=>l1 i (by omega),l2⟩
    ·rw[if_neg q]
     refine wpS_bind (hbey (by omega) ?_)
     by_cases z:f (a+(b-a)/2)<t
     ·rw[decide_eq_true z]
      refine wpS_pure ⟨rfl,_,_,rfl,by omega,bn,by omega,fun i hi=>?_,l2⟩
      have:=hs i (a+(b-a)/2) (by omega) (by omega)
      omega
     ·rw[decide_eq_false z]
      refine wpS_pure ⟨rfl,_,_,rfl,by omega,by omega,by omega,l1,fun i hi hin=>?_⟩
      have:=hs (a+(b-a)/2) i (by omega) hin
      omega
   ·rintro c st'' ⟨rfl,a,b,rfl,ab,bn,bj,l1,l2⟩
    have e:max 0 n=n:=by omega
    rw[e] at bj
    exact⟨rfl,a,b,rfl,bn,fun i hi=>l1 i (by omega),l2⟩
   ·rintro c st'' ⟨rfl,a,b,rfl,bn,l1,l2⟩
    exact wpS_pure (h b bn l1 l2)
end
section
variable {rk:Value→Int}
structure Lo (rk:Value→Int) (T o rest:List Keyed):Prop where
 p:(o++rest).Perm T
 s:SA rk o
 c:∀ u∈o,∀ v∈rest,rk u.1≤rk v.1
theorem Lo.step {T o rest c rest':List Keyed}(h:Lo rk T o rest) (p:rest.Perm (c++rest')) (sc:SA rk c) (hc:∀ u∈c,∀ v∈rest',rk u.1≤rk v.1):Lo rk T (o++c) rest':=by
 refine⟨?_,h.s.app sc fun u hu v hv=>h.c u hu v (p.mem_iff.mpr (List.mem_append.mpr (.inl hv))),fun u hu v hv=>?_⟩
 ·rw[List.append_assoc]
  exact(List.Perm.append_left o p.symm).trans h.p
 ·rcases List.mem_append.mp hu with z | z
  ·exact h.c u z v (p.mem_iff.mpr (List.mem_append.mpr (.inr hv)))
  ·exact hc u z v hv
theorem Lo.fin {T o rest c:List Keyed}(h:Lo rk T o rest) (p:rest.Perm c) (sc:SA rk c):(o++c).Perm T∧SA rk (o++c):=by
 have:=h.step (c:=c) (rest':=[]) (by rw[List.append_nil];exact p) sc (fun _ _ v hv=>by cases hv)
 exact⟨by have z:=this.p;rw[List.append_nil] at z;exact z,this.s⟩
structure Hi (rk:Value→Int) (T rest o:List Keyed):Prop where
 p:(rest++o.reverse).Perm T
 s:SA rk o.reverse
 c:∀ u∈rest,∀ v∈o,rk u.1≤rk v.1
theorem Hi.step {T o rest c rest':List Keyed}(h:Hi rk T rest o) (p:rest.Perm (rest'++c)) (sc:SA rk c) (hc:∀ u∈rest',∀ v∈c,rk u.1≤rk v.1):Hi rk T rest' (o++c.reverse):=by
 have e:(o++c.reverse).reverse=c++o.reverse:=by rw[List.reverse_append,List.reverse_reverse]
 refine⟨?_,?_,fun u hu v hv=>?_⟩
 ·rw[e,← List.append_assoc]
  exact(List.Perm.append_right o.reverse p.symm).trans h.p
 ·rw[e]
  exact sc.app h.s fun u hu v hv=>h.c u (p.mem_iff.mpr (List.mem_append.mpr (.inr hu))) v (List.mem_reverse.mp hv)
 ·rcases List.mem_append.mp hv with z | z
  ·exact h.c u (p.mem_iff.mpr (List.mem_append.mpr (.inl hu))) v z
  ·exact hc u hu v (List.mem_reverse.mp z)
theorem Hi.fin {T o rest c:List Keyed}(h:Hi rk T rest o) (p:rest.Perm c) (sc:SA rk c):(c++o.reverse).Perm T∧SA rk (c++o.reverse):=by
 have:=h.step (c:=c) (rest':=[]) (by rw[List.nil_append];exact p) sc (fun u hu _ _=>by cases hu)
 have e:(o++c.reverse).reverse=c++o.reverse:=by rw[List.reverse_append,List.reverse_reverse]
 have z:=this.p
 have y:=this.s
 rw[e] at z y
 exact⟨z,y⟩
def LoA (rk:Value→Int) (a b o:Array Keyed) (x y:Nat):Prop:=Lo rk (a.toList++b.toList) o.toList (a.toList.drop x++b.toList.drop y)
def HiA (rk:Value→Int) (a b o:Array Keyed) (x y:Nat):Prop:=Hi rk (a.toList++b.toList) (a.toList.take x++b.toList.take y) o.toList
def vc (rk:Value→Int) (a b r:Array Keyed):Prop:=r.toList.Perm (a.toList++b.toList)∧SA rk r.toList
theorem Xf (a:Array Keyed) (x:Nat):(a.extract x a.size).toList=a.toList.drop x:=by
 rw[Array.toList_extract,List.extract_eq_drop_take,List.take_of_length_le (by simp)]
theorem Xe (a:Array Keyed) (x:Nat):(a.extract 0 x).toList=a.toList.take x:=by
 rw[Array.toList_extract,List.extract_eq_drop_take]
 simp
theorem WI (a:Array Keyed) (x k:Nat):(a.extract x (x+k)).toList=(a.toList.drop x).take k:=by
 rw[Array.toList_extract,List.extract_eq_drop_take]
 congr 1
 omega
theorem Yd {a:Array Keyed}{x:Nat}(h:x<a.size):a.toList.drop x=a[x]::a.toList.drop (x+1):=by
 rw[List.drop_eq_getElem_cons (by simpa using h)]
 simp
theorem uK {a:Array Keyed}{x:Nat}(h:x<a.size):a.toList.take (x+1)=a.toList.take x++[a[x]]:=by
 rw[List.take_succ_eq_append_getElem (by simpa using h)]
 simp
variable {a b:Array Keyed}{o:Array Keyed}{x y:Nat}
theorem LoA.pb (h:LoA rk a b o x y) (sa:SA rk a.toList) (sb:SA rk b.toList) (hy:y<b.size) (hc:x<a.size→kf rk b.toList y≤kf rk a.toList x):LoA rk a b (o.push b[y]) x (y+1):=by
 unfold LoA at h ⊢
 rw[Array.toList_push]
 have ey:=yd (rk:=rk) hy
 refine h.step ?_ SA.one fun u hu v hv=>?_
 ·rw[Yd hy]
  exact List.perm_middle
 ·rw[List.mem_singleton.mp hu,ey]
  rcases List.mem_append.mp hv with z | z
  ·obtain⟨i,h1,h2,e⟩:=yj (rk:=rk) z
   have:=sa.le h1 h2
   rw[Array.length_toList] at h2
   have:=hc (by omega)
   omega
  ·obtain⟨i,h1,h2,e⟩:=yj (rk:=rk) z
   have:=sb.le (i:=y) (j:=i) (by omega) h2
   omega
theorem LoA.pa (h:LoA rk a b o x y) (sa:SA rk a.toList) (sb:SA rk b.toList) (hx:x<a.size) (hc:y<b.size→kf rk a.toList x≤kf rk b.toList y):LoA rk a b (o.push a[x]) (x+1) y:=by
 unfold LoA at h ⊢
 rw[Array.toList_push]
 have ex:=yd (rk:=rk) hx
 refine h.step ?_ SA.one fun u hu v hv=>?_
 ·rw[Yd hx]
  exact List.Perm.refl _
 ·rw[List.mem_singleton.mp hu,ex]
  rcases List.mem_append.mp hv with z | z
  ·obtain⟨i,h1,h2,e⟩:=yj (rk:=rk) z
   have:=sa.le (i:=x) (j:=i) (by omega) h2
   omega
  ·obtain⟨i,h1,h2,e⟩:=yj (rk:=rk) z
   have:=sb.le h1 h2
   rw[Array.length_toList] at h2
   have:=hc (by omega)
   omega
theorem wF {l:List Keyed}{n k:Nat}:l.drop n=(l.drop n).take k++l.drop (n+k):=by
 rw[← List.drop_drop,List.take_append_drop]
theorem LoA.as {k:Nat}(h:LoA rk a b o x y) (sa:SA rk a.toList) (sb:SA rk b.toList) (hx:x+k≤a.size) (hc:∀ i,i<k→y<b.size→kf rk a.toList (x+i)≤kf rk b.toList y):LoA rk a b (o++a.extract x (x+k)) (x+k) y:=by
 unfold LoA at h ⊢
 rw[Array.toList_append,WI]
 refine h.step ?_ ((sa.drop x).take k) fun u hu v hv=>?_
 ·rw[← List.append_assoc,← wF]
 ·obtain⟨i,h1,h2,h3,e⟩:=wf (rk:=rk) hu
  rcases List.mem_append.mp hv with z | z
  ·obtain⟨j,h4,h5,e2⟩:=yj (rk:=rk) z
   have:=sa.le (i:=i) (j:=j) (by omega) h5
   omega
  ·obtain⟨j,h4,h5,e2⟩:=yj (rk:=rk) z
   have h6:=sb.le h4 h5
   rw[Array.length_toList] at h5
   have h7:=hc (i-x) (by omega) (by omega)
   rw[show x+(i-x)=i by omega] at h7
   omega
theorem LoA.bs {k:Nat}(h:LoA rk a b o x y) (sa:SA rk a.toList) (sb:SA rk b.toList) (hy:y+k≤b.size) (hc:∀ i,i<k→x<a.size→kf rk b.toList (y+i)≤kf rk a.toList x):LoA rk a b (o++b.extract y (y+k)) x (y+k):=by
 unfold LoA at h ⊢
 rw[Array.toList_append,WI]
 refine h.step ?_ ((sb.drop y).take k) fun u hu v hv=>?_
 ·have e:b.toList.drop y=(b.toList.drop y).take k++b.toList.drop (y+k):=wF
  refine(List.Perm.append_left _ (List.Perm.of_eq e)).trans ?_
  rw[← List.append_assoc,← List.append_assoc]
  exact List.Perm.append_right _ List.perm_append_comm
 ·obtain⟨i,h1,h2,h3,e⟩:=wf (rk:=rk) hu
  rcases List.mem_append.mp hv with z | z
  ·obtain⟨j,h4,h5,e2⟩:=yj (rk:=rk) z
   have h6:=sa.le h4 h5
   rw[Array.length_toList] at h5
   have h7:=hc (i-y) (by omega) (by omega)
   rw[show y+(i-y)=i by omega] at h7
   omega
  ·obtain⟨j,h4,h5,e2⟩:=yj (rk:=rk) z
   have:=sb.le (i:=i) (j:=j) (by omega) h5
   omega
theorem LoA.done (h:LoA rk a b o x y) (sa:SA rk a.toList) (sb:SA rk b.toList) (e:x=a.size∨y=b.size):vc rk a b (o++a.extract x++b.extract y):=by
 unfold vc
 rw[Array.toList_append,Array.toList_append,Xf,Xf,List.append_assoc]
 refine h.fin (List.Perm.refl _) ((sa.drop x).app (sb.drop y) fun u hu v hv=>?_)
 rcases e with e | e
 ·rw[List.drop_of_length_le (by simp[e])] at hu
  cases hu
 ·rw[List.drop_of_length_le (by simp[e])] at hv
  cases hv
theorem LoA.last (h:LoA rk a b o x y) (sa:SA rk a.toList) (sb:SA rk b.toList) (e:x+1=a.size) (hl:∀ i,i<b.size→kf rk b.toList i≤kf rk a.toList (a.size-1)):vc rk a b (o++b.extract y++a.extract x):=by
 unfold vc
 rw[Array.toList_append,Array.toList_append,Xf,Xf,List.append_assoc]
 refine h.fin List.perm_append_comm ((sb.drop y).app (sa.drop x) fun u hu v hv=>?_)
 obtain⟨i,h1,h2,e1⟩:=yj (rk:=rk) hu
 obtain⟨j,h3,h4,e2⟩:=yj (rk:=rk) hv
 rw[Array.length_toList] at h2 h4
 have:=hl i h2
 have ej:j=a.size-1:=by omega
 rw[ej] at e2
 omega
theorem HiA.pa (h:HiA rk a b o (x+1) y) (sa:SA rk a.toList) (sb:SA rk b.toList) (hx:x<a.size) (hy:y≤b.size) (hc:1≤y→kf rk b.toList (y-1)≤kf rk a.toList x):HiA rk a b (o.push a[x]) x y:=by
 unfold HiA at h ⊢
 rw[Array.toList_push]
 have ex:=yd (rk:=rk) hx
 refine h.step (c:=[a[x]]) ?_ SA.one fun u hu v hv=>?_
 ·rw[uK hx,List.append_assoc,List.append_assoc]
  exact List.Perm.append_left _ List.perm_append_comm
 ·rw[List.mem_singleton.mp hv,ex]
  rcases List.mem_append.mp hu with z | z
  ·obtain⟨i,h1,h2,e⟩:=ye (rk:=rk) z
   have:=sa.le (i:=i) (j:=x) (by omega) (by simpa using hx)
   omega
  ·obtain⟨i,h1,h2,e⟩:=ye (rk:=rk) z
   have:=sb.le (i:=i) (j:=y-1) (by omega) (by rw[Array.length_toList];omega)
   have:=hc (by omega)
   omega
theorem HiA.pb (h:HiA rk a b o x (y+1)) (sa:SA rk a.toList) (sb:SA rk b.toList) (hy:y<b.size) (hx:x≤a.size) (hc:1≤x→kf rk a.toList (x-1)≤kf rk b.toList y):HiA rk a b (o.push b[y]) x y:=by
 unfold HiA at h ⊢
 rw[Array.toList_push]
 have ey:=yd (rk:=rk) hy
 refine h.step (c:=[b[y]]) ?_ SA.one fun u hu v hv=>?_
 ·rw[uK hy,List.append_assoc]
 ·rw[List.mem_singleton.mp hv,ey]
  rcases List.mem_append.mp hu with z | z
  ·obtain⟨i,h1,h2,e⟩:=ye (rk:=rk) z
   have:=sa.le (i:=i) (j:=x-1) (by omega) (by rw[Array.length_toList];omega)
   have:=hc (by omega)
   omega
  ·obtain⟨i,h1,h2,e⟩:=ye (rk:=rk) z
   have:=sb.le (i:=i) (j:=y) (by omega) (by simpa using hy)
   omega
theorem xm {l:List Keyed}{k x:Nat}(h:k≤x):l.take x=l.take k++(l.drop k).take (x-k):=by
 have e:x=k+(x-k):=by omega
 rw[e,List.take_add,Nat.add_sub_cancel_left]
theorem WH (a:Array Keyed) (k x:Nat):(a.extract k x).toList=(a.toList.drop k).take (x-k):=by
 rw[Array.toList_extract,List.extract_eq_drop_take]
theorem HiA.as {k:Nat}(h:HiA rk a b o x y) (sa:SA rk a.toList) (sb:SA rk b.toList) (hk:k≤x) (hx:x≤a.size) (hy:y≤b.size) (hc:∀ i,k≤i→i<x→1≤y→kf rk b.toList (y-1)≤kf rk a.toList i):HiA rk a b (o++(a.extract k x).reverse) k y:=by
 unfold HiA at h ⊢
 rw[Array.toList_append,Array.toList_reverse,WH]
 refine h.step (c:=(a.toList.drop k).take (x-k)) ?_ ((sa.drop k).take _) fun u hu v hv=>?_
 ·rw[xm hk,List.append_assoc,List.append_assoc]
  exact List.Perm.append_left _ List.perm_append_comm
 ·obtain⟨j,h1,h2,h3,e⟩:=wf (rk:=rk) hv
  rcases List.mem_append.mp hu with z | z
  ·obtain⟨i,h4,h5,e2⟩:=ye (rk:=rk) z
   have:=sa.le (i:=i) (j:=j) (by omega) h3
   omega
  ·obtain⟨i,h4,h5,e2⟩:=ye (rk:=rk) z
   have:=sb.le (i:=i) (j:=y-1) (by omega) (by rw[Array.length_toList];omega)
   have:=hc j h1 (by omega) (by omega)
   omega
theorem HiA.bs {k:Nat}(h:HiA rk a b o x y) (sa:SA rk a.toList) (sb:SA rk b.toList) (hk:k≤y) (hx:x≤a.size) (hy:y≤b.size) (hc:∀ i,k≤i→i<y→1≤x→kf rk a.toList (x-1)≤kf rk b.toList i):HiA rk a b (o++(b.extract k y).reverse) x k:=by
 unfold HiA at h ⊢
 rw[Array.toList_append,Array.toList_reverse,WH]
 refine h.step (c:=(b.toList.drop k).take (y-k)) ?_ ((sb.drop k).take _) fun u hu v hv=>?_
 ·rw[xm (l:=b.toList) hk,List.append_assoc]
 ·obtain⟨j,h1,h2,h3,e⟩:=wf (rk:=rk) hv
  rcases List.mem_append.mp hu with z | z
  ·obtain⟨i,h4,h5,e2⟩:=ye (rk:=rk) z
   have:=sa.le (i:=i) (j:=x-1) (by omega) (by rw[Array.length_toList];omega)
   have:=hc j h1 (by omega) (by omega)
   omega
  ·obtain⟨i,h4,h5,e2⟩:=ye (rk:=rk) z
   have:=sb.le (i:=i) (j:=j) (by omega) h3
   omega
theorem HiA.done (h:HiA rk a b o x y) (sa:SA rk a.toList) (sb:SA rk b.toList) (e:x=0∨y=0):vc rk a b (a.extract 0 x++b.extract 0 y++o.reverse):=by
 unfold vc
 rw[Array.toList_append,Array.toList_append,Array.toList_reverse,Xe,Xe]
 refine h.fin (List.Perm.refl _) ((sa.take x).app (sb.take y) fun u hu v hv=>?_)
 rcases e with e | e
 ·subst e;cases hu
 ·subst e;cases hv
theorem HiA.first (h:HiA rk a b o x y) (sa:SA rk a.toList) (sb:SA rk b.toList) (e:y=1) (hl:∀ i,i<a.size→kf rk b.toList 0≤kf rk a.toList i):vc rk a b (b.extract 0 y++a.extract 0 x++o.reverse):=by
 unfold vc
 rw[Array.toList_append,Array.toList_append,Array.toList_reverse,Xe,Xe]
 refine h.fin List.perm_append_comm ((sb.take y).app (sa.take x) fun u hu v hv=>?_)
 obtain⟨i,h1,h2,e1⟩:=ye (rk:=rk) hu
 obtain⟨j,h3,h4,e2⟩:=ye (rk:=rk) hv
 rw[Array.length_toList] at h4
 have:=hl j h4
 have ei:i=0:=by omega
 rw[ei] at e1
 omega
end
section
variable {prog:Program}{w:World}{A:Around}{E:Value→Shared→Prop}{s:Shared}{it:List Keyed}{κ:SortKind}{rk:Value→Int}
structure Eqv (st st':SortSt):Prop where
 k:kindOf st'=kindOf st
 a:arrOf st'=arrOf st
 p:pendingOf st'=pendingOf st
 f:failedOf st'=failedOf st
theorem Eqv.refl (st:SortSt):Eqv st st:=⟨rfl,rfl,rfl,rfl⟩
theorem t_setMin {st st':SortSt}(e:Eqv st st'){g:Nat}{Q:Unit→SortSt→Prop}(h:∀ st'',Eqv st st''→Q () st''):wpS (model prog w) A E s (X9 g) Q st':=wpS_modify (h _ ⟨e.k,e.a,e.p,e.f⟩)
def In (it:List Keyed) (o:Array Keyed):Prop:=∀ x∈o,x∈it
theorem In.ext {o:Array Keyed}{i j:Nat}(h:In it o):In it (o.extract i j):=fun y hy=>by
 have hy:y∈(o.extract i j).toList:=Array.mem_def.mp hy
 rw[Array.toList_extract,List.extract_eq_drop_take] at hy
 exact h y (Array.mem_def.mpr (List.mem_of_mem_drop (List.mem_of_mem_take hy)))
theorem In.at {o:Array Keyed}{i:Nat}(h:In it o) (hi:i<o.size):o[i]∈it:=h _ (Array.getElem_mem hi)
theorem jn1 {α:Type}{P G:α→Prop}(J:∀ m,P m) (k:(∀ m,P m)→∀ m,G m):∀ m,G m:=k J
theorem jn2 {α β:Type}{H K G:α→β→Prop}(h:∃ P:α→β→Prop,(∀ m n,H m n→P m n)∧((∀ m n,H m n→P m n)→∀ m n,K m n→G m n)):∀ m n,K m n→G m n:=by
 obtain⟨P,J,k⟩:=h
 exact k J
def LoP (rk:Value→Int) (a b:Array Keyed) (m:Nat) (r:Option (Array Keyed)) (o:Array Keyed) (x y:Nat):Prop :=
 match r with
 |some o=>vc rk a b o
 |none=>LoA rk a b o x y∧x+1<a.size∧y<b.size∧m≤x+y
theorem uL (C:Cmp prog w A s it κ rk){st:SortSt}(hk:kindOf st=κ){a b:Array Keyed}(ha:In it a) (hb:In it b) (za:1≤a.size) (zb:1≤b.size)
  (sa:SA rk a.toList) (sb:SA rk b.toList) (h0:kf rk b.toList 0≤kf rk a.toList 0) (hl:∀ i,i<b.size→kf rk b.toList i≤kf rk a.toList (a.size-1))
  {Q:Array Keyed→SortSt→Prop}(h:∀ o st',vc rk a b o→Eqv st st'→Q o st'):wpS (model prog w) A E s (Y5 a b) Q st:=by
 refine wpS_bind (wpS_lift (wpAny_rule ⟨rfl,?_⟩))
 refine wpS_bind (t_elem (by omega) ?_)
 have n0:LoA rk a b #[] 0 0:=⟨List.Perm.refl _,SA.nil,fun u hu=>by cases hu⟩
 have b0:LoA rk a b #[b[0]] 0 1:=n0.pb sa sb (by omega) fun _=>h0
 dsimp only
 by_cases q1:(1 == b.size)=true
 ·rw[if_pos q1]
  exact wpS_pure (h _ _ (b0.done sa sb (.inr (by simpa using q1))) (Eqv.refl st))
 rw[if_neg q1]
 by_cases q2:(0+1 == a.size)=true
 ·rw[if_pos q2]
  exact wpS_pure (h _ _ (b0.last sa sb (by simpa using q2) hl) (Eqv.refl st))
 rw[if_neg q2]
 have q1:1≠b.size:=fun z=>q1 (by simp[z])
 have q2:1≠a.size:=fun z=>q2 (by simp[z])
 refine wpS_bind (wpS_get ?_)
 refine wpS_bind (wpS_mono (wpS_forRange (I:=fun i c st'=>Eqv st st'∧∃ o x y mg,c=(none,o,x,y,mg)∧LoA rk a b o x y∧x+1<a.size∧y<b.size∧i≤x+y) (Q:=fun c st'=>Eqv st st'∧∃ r o x y mg,c=(some r,o,x,y,mg)∧vc rk a b r) ?_ ?_ ⟨Eqv.refl st,_,_,_,_,rfl,b0,by omega,by omega,by omega⟩) ?_)
 ·rintro i c st1 _ hi ⟨ev,o,x,y,mg,rfl,ho,hx,hy,hm⟩
  dsimp only
  refine wpS_bind (wpS_mono (wpS_forRange (I:=fun j c st'=>Eqv st st'∧∃ o x y ca cb,c=(none,o,x,y,ca,cb)∧LoA rk a b o x y∧x+1<a.size∧y<b.size∧i+j≤x+y) (Q:=fun c st'=>Eqv st st'∧∃ r o x y ca cb,c=(r,o,x,y,ca,cb)∧LoP rk a b (i+1) r o x y) ?_ ?_ ⟨ev,_,_,_,_,_,rfl,ho,hx,hy,hm⟩) ?_)
  ·rintro j c st2 _ hj ⟨ev,o,x,y,ca,cb,rfl,ho,hx,hy,hm⟩
   dsimp only
   have hx1:x<a.size:=by omega
   have hx0:=ha.at (i:=x) hx1
   have hy0:=hb.at hy
   have ex:=yd (rk:=rk) hx1
   have ey:=yd (rk:=rk) hy
   refine wpS_bind (t_elem hy (wpS_bind (t_elem (by omega) (wpS_bind (W8 C (ev.k.trans hk) hy0 hx0 ?_)))))
   by_cases bw:rk b[y].1<rk a[x].1
   ·rw[decide_eq_true bw]
    simp only[if_true]
    refine wpS_bind (t_elem hy ?_)
    have ho':=ho.pb sa sb hy fun _=>by omega
    by_cases q3:(y+1 == b.size)=true
    ·rw[if_pos q3]
     exact wpS_pure ⟨ev,_,_,_,_,_,_,rfl,ho'.done sa sb (.inr (by simpa using q3))⟩
    ·rw[if_neg q3]
     have q3:y+1≠b.size:=fun z=>q3 (by simp[z])
     by_cases q4:cb+1≥mg
     ·rw[if_pos q4]
      exact wpS_pure ⟨ev,_,_,_,_,_,_,rfl,ho',hx,by omega,by omega⟩
     ·rw[if_neg q4]
      exact wpS_pure ⟨ev,_,_,_,_,_,rfl,ho',hx,by omega,by omega⟩
   ·rw[decide_eq_false bw]
    simp only[Bool.false_eq_true,if_false]
    refine wpS_bind (t_elem (by omega) ?_)
    have ho':=ho.pa sa sb hx1 fun _=>by omega
    by_cases q3:(x+1+1 == a.size)=true
    ·rw[if_pos q3]
     exact wpS_pure ⟨ev,_,_,_,_,_,_,rfl,ho'.last sa sb (by simpa using q3) hl⟩
    ·rw[if_neg q3]
     have q3:x+1+1≠a.size:=fun z=>q3 (by simp[z])
     by_cases q4:ca+1≥mg
     ·rw[if_pos q4]
      exact wpS_pure ⟨ev,_,_,_,_,_,_,rfl,ho',by omega,hy,by omega⟩
     ·rw[if_neg q4]
      exact wpS_pure ⟨ev,_,_,_,_,_,rfl,ho',by omega,hy,by omega⟩
  ·rintro c st2 ⟨ev,o,x,y,ca,cb,rfl,ho,hx,hy,hm⟩
   exact⟨ev,_,_,_,_,_,_,rfl,ho,hx,hy,by omega⟩
  ·rintro c st2 ⟨ev,r,o,x,y,ca,cb,rfl,hp⟩
   dsimp only
   cases r with
   |some r=>exact wpS_pure ⟨ev,_,_,_,_,_,rfl,hp⟩
   |none =>
    obtain⟨ho,hx,hy,hm⟩:=hp
    refine wpS_bind (wpS_lift (wpAny_rule ⟨rfl,?_⟩))
    refine wpS_bind (wpS_mono (wpS_forRange (I:=fun _ c st'=>Eqv st st'∧∃ o x y mg ca cb,c=(none,o,x,y,mg,ca,cb)∧LoA rk a b o x y∧x+1<a.size∧y<b.size∧i+1≤x+y) (Q:=fun c st'=>Eqv st st'∧∃ r o x y mg ca cb,c=(r,o,x,y,mg,ca,cb)∧LoP rk a b (i+1) r o x y) ?_ ?_ ⟨ev,_,_,_,_,_,_,rfl,ho,hx,hy,hm⟩) ?_)
    ·rintro j c st3 _ hj ⟨ev,o,x,y,mg,ca,cb,rfl,ho,hx,hy,hm⟩
     dsimp only
     revert mg
     apply jn1
     case k =>
      intro J mg
      by_cases qm:¬ mg>1
      ·rw[if_neg qm]
       exact J mg
      ·rw[if_pos (Decidable.not_not.mp qm)]
       exact J (mg-1)
     case J =>
      intro mg
      refine wpS_bind (t_setMin ev fun st4 ev4=>?_)
      refine wpS_bind (t_elem hy ?_)
      have ey:=yd (rk:=rk) hy
      refine wpS_bind (yN C (ev4.k.trans hk) (hb.at hy) ha (by omega) (by omega) (fun i j hij hj=>sa.le (by omega) (by rw[Array.length_toList];omega)) fun k hk1 g1 g2=>?_)
      simp only[Bool.false_eq_true,if_false] at g1 g2
      dsimp only
      have HH:=And.intro ho (And.intro hx (And.intro hm (And.intro hk1 (And.intro g1 g2))))
      clear ho hx hm hk1 g1 g2
      revert HH
      revert o x
      refine jn2 (H:=fun o x=>LoA rk a b o x y∧x+1<a.size∧i+1≤x+y∧kf rk b.toList y≤kf rk a.toList x) ?_
      apply Exists.intro
      apply And.intro
      case right =>
       intro J o x ⟨ho,hx,hm,hk1,g1,g2⟩
       by_cases qk:¬ k>0
       ·rw[if_neg qk]
        have:=g2 0 (by omega) (by omega)
        exact J o x ⟨ho,hx,hm,by rw[Nat.add_zero] at this;omega⟩
       rw[if_pos (Decidable.not_not.mp qk)]
       have ho1:=ho.as (k:=k) sa sb (by omega) fun i hi _=>by have:=g1 i hi;omega
       by_cases qa:(x+k+1 == a.size)=true
       ·rw[if_pos qa]
        exact wpS_pure ⟨ev4,_,_,_,_,_,_,_,rfl,ho1.last sa sb (by simpa using qa) hl⟩
       rw[if_neg qa]
       have qa:x+k+1≠a.size:=fun z=>qa (by simp[z])
       by_cases qb:(x+k == a.size)=true
       ·rw[if_pos qb]
        exact wpS_pure ⟨ev4,_,_,_,_,_,_,_,rfl,ho1.done sa sb (.inl (by simpa using qb))⟩
       rw[if_neg qb]
       have qb:x+k≠a.size:=fun z=>qb (by simp[z])
       have:=g2 k (by omega) (by omega)
       exact J _ _ ⟨ho1,by omega,by omega,by omega⟩
      case left =>
       intro o x ⟨ho,hx,hm,hc⟩
       refine wpS_bind (t_elem hy ?_)
       have ho2:=ho.pb sa sb hy fun _=>hc
       by_cases qc:(y+1 == b.size)=true
       ·rw[if_pos qc]
        exact wpS_pure ⟨ev4,_,_,_,_,_,_,_,rfl,ho2.done sa sb (.inr (by simpa using qc))⟩
       rw[if_neg qc]
       have qc:y+1≠b.size:=fun z=>qc (by simp[z])
       refine wpS_bind (t_elem (by omega) ?_)
       have ex:=yd (rk:=rk) (show x<a.size by omega)
       refine wpS_bind (yN C (ev4.k.trans hk) (ha.at (i:=x) (by omega)) hb (by omega) (by omega) (fun i j hij hj=>sb.le (by omega) (by rw[Array.length_toList];omega)) fun k2 hk2 g1 g2=>?_)
       simp only[if_true] at g1 g2
       dsimp only
       have hy1:y+1<b.size:=by omega
       have hm1:i+1≤x+(y+1):=by omega
       generalize o.push b[y]=o2 at ho2 ⊢
       generalize y+1=y1 at hy1 hm1 hk2 ho2 g1 g2 ⊢
       have HH:=And.intro ho2 (And.intro hy1 (And.intro hm1 (And.intro hk2 (And.intro g1 g2))))
       clear ho2 hy1 hm1 hk2 g1 g2
       revert HH
       revert o2 y1
       refine jn2 (H:=fun o y=>LoA rk a b o x y∧y<b.size∧i+1≤x+y∧kf rk a.toList x≤kf rk b.toList y) ?_
       apply Exists.intro
       apply And.intro
       case right =>
        intro J o2 y1 ⟨ho2,hy1,hm1,hk2,g1,g2⟩
        by_cases qk2:¬ k2>0
        ·rw[if_neg qk2]
         have:=g2 0 (by omega) (by omega)
         exact J o2 y1 ⟨ho2,hy1,hm1,by rw[Nat.add_zero] at this;omega⟩
        rw[if_pos (Decidable.not_not.mp qk2)]
        have ho3:=ho2.bs (k:=k2) sa sb (by omega) fun i hi _=>by have:=g1 i hi;omega
        by_cases qd:(y1+k2 == b.size)=true
        ·rw[if_pos qd]
         exact wpS_pure ⟨ev4,_,_,_,_,_,_,_,rfl,ho3.done sa sb (.inr (by simpa using qd))⟩
        rw[if_neg qd]
        have qd:y1+k2≠b.size:=fun z=>qd (by simp[z])
        have:=g2 k2 (by omega) (by omega)
        exact J _ _ ⟨ho3,by omega,by omega,by omega⟩
       case left =>
        intro o y ⟨ho,hy,hm,hc⟩
        refine wpS_bind (t_elem (by omega) ?_)
        have ho4:=ho.pa sa sb (show x<a.size by omega) fun _=>hc
        by_cases qe:(x+1+1 == a.size)=true
        ·rw[if_pos qe]
         exact wpS_pure ⟨ev4,_,_,_,_,_,_,_,rfl,ho4.last sa sb (by simpa using qe) hl⟩
        rw[if_neg qe]
        have qe:x+1+1≠a.size:=fun z=>qe (by simp[z])
        have H:LoA rk a b (o.push a[x]) (x+1) y∧x+1+1<a.size∧y<b.size∧i+1≤x+1+y:=⟨ho4,by omega,hy,by omega⟩
        split
        ·exact wpS_pure ⟨ev4,_,_,_,_,_,_,_,rfl,H⟩
        ·exact wpS_pure ⟨ev4,_,_,_,_,_,_,rfl,H⟩
    ·rintro c st3 ⟨ev,o,x,y,mg,ca,cb,rfl,ho,hx,hy,hm⟩
     exact⟨ev,_,_,_,_,_,_,_,rfl,ho,hx,hy,hm⟩
    ·rintro c st3 ⟨ev,r,o,x,y,mg,ca,cb,rfl,hp⟩
     dsimp only
     cases r with
     |some r=>exact wpS_pure ⟨ev,_,_,_,_,_,rfl,hp⟩
     |none =>
      obtain⟨ho,hx,hy,hm⟩:=hp
      refine wpS_bind (t_setMin ev fun st4 ev4=>?_)
      exact wpS_pure ⟨ev4,_,_,_,_,rfl,ho,hx,hy,hm⟩
 ·rintro c st1 ⟨ev,o,x,y,mg,rfl,ho,hx,hy,hm⟩
  omega
 ·rintro c st1 ⟨ev,r,o,x,y,mg,rfl,hr⟩
  exact wpS_pure (h r st1 hr ev)
def HiP (rk:Value→Int) (a b:Array Keyed) (m:Nat) (r:Option (Array Keyed)) (o:Array Keyed) (x y:Nat):Prop :=
 match r with
 |some o=>vc rk a b o
 |none=>HiA rk a b o x y∧1≤x∧x<a.size∧2≤y∧y≤b.size∧m+x+y≤a.size+b.size
theorem HiA.pa1 {rk:Value→Int}{a b o:Array Keyed}{x y:Nat}(h:HiA rk a b o x y) (sa:SA rk a.toList) (sb:SA rk b.toList) (hx0:1≤x) (hx:x≤a.size) (hy:y≤b.size) (hc:1≤y→kf rk b.toList (y-1)≤kf rk a.toList (x-1)):HiA rk a b (o.push (a[x-1]'(by omega))) (x-1) y:=by
 have e:x=x-1+1:=by omega
 rw[e] at h
 exact h.pa sa sb (by omega) hy hc
theorem HiA.pb1 {rk:Value→Int}{a b o:Array Keyed}{x y:Nat}(h:HiA rk a b o x y) (sa:SA rk a.toList) (sb:SA rk b.toList) (hy0:1≤y) (hx:x≤a.size) (hy:y≤b.size) (hc:1≤x→kf rk a.toList (x-1)≤kf rk b.toList (y-1)):HiA rk a b (o.push (b[y-1]'(by omega))) x (y-1):=by
 have e:y=y-1+1:=by omega
 rw[e] at h
 exact h.pb sa sb (by omega) hx hc
theorem uM (C:Cmp prog w A s it κ rk){st:SortSt}(hk:kindOf st=κ){a b:Array Keyed}(ha:In it a) (hb:In it b) (za:1≤a.size) (zb:1≤b.size)
  (sa:SA rk a.toList) (sb:SA rk b.toList) (h0:∀ i,i<a.size→kf rk b.toList 0≤kf rk a.toList i) (hl:kf rk b.toList (b.size-1)≤kf rk a.toList (a.size-1))
  {Q:Array Keyed→SortSt→Prop}(h:∀ o st',vc rk a b o→Eqv st st'→Q o st'):wpS (model prog w) A E s (Y6 a b) Q st:=by
 refine wpS_bind (wpS_lift (wpAny_rule ⟨rfl,?_⟩))
 refine wpS_bind (t_elem (by omega) ?_)
 have n0:HiA rk a b #[] a.size b.size:=by
  refine⟨?_,SA.nil,fun u hu v hv=>by cases hv⟩
  rw[List.take_of_length_le (by simp),List.take_of_length_le (by simp)]
  simp
 have b0:HiA rk a b #[a[a.size-1]] (a.size-1) b.size:=n0.pa1 sa sb za (Nat.le_refl _) (Nat.le_refl _) fun _=>hl
 dsimp only
 by_cases q1:(a.size-1 == 0)=true
 ·rw[if_pos q1]
  exact wpS_pure (h _ _ (b0.done sa sb (.inl (by simpa using q1))) (Eqv.refl st))
 rw[if_neg q1]
 by_cases q2:(b.size == 1)=true
 ·rw[if_pos q2]
  exact wpS_pure (h _ _ (b0.first sa sb (by simpa using q2) h0) (Eqv.refl st))
 rw[if_neg q2]
 have q1:a.size-1≠0:=fun z=>q1 (by simp[z])
 have q2:b.size≠1:=fun z=>q2 (by simp[z])
 refine wpS_bind (wpS_get ?_)
 refine wpS_bind (wpS_mono (wpS_forRange (I:=fun i c st'=>Eqv st st'∧∃ x y o mg,c=(none,x,y,o,mg)∧HiA rk a b o x y∧1≤x∧x<a.size∧2≤y∧y≤b.size∧i+x+y≤a.size+b.size) (Q:=fun c st'=>Eqv st st'∧∃ r x y o mg,c=(some r,x,y,o,mg)∧vc rk a b r) ?_ ?_ ⟨Eqv.refl st,_,_,_,_,rfl,b0,by omega,by omega,by omega,by omega,by omega⟩) ?_)
 ·rintro i c st1 _ hi ⟨ev,x,y,o,mg,rfl,ho,hx,hx2,hy,hy2,hm⟩
  dsimp only
  refine wpS_bind (wpS_mono (wpS_forRange (I:=fun j c st'=>Eqv st st'∧∃ x y o ca cb,c=(none,x,y,o,ca,cb)∧HiA rk a b o x y∧1≤x∧x<a.size∧2≤y∧y≤b.size∧i+j+x+y≤a.size+b.size) (Q:=fun c st'=>Eqv st st'∧∃ r x y o ca cb,c=(r,x,y,o,ca,cb)∧HiP rk a b (i+1) r o x y) ?_ ?_ ⟨ev,_,_,_,_,_,rfl,ho,hx,hx2,hy,hy2,hm⟩) ?_)
  ·rintro j c st2 _ hj ⟨ev,x,y,o,ca,cb,rfl,ho,hx,hx2,hy,hy2,hm⟩
   dsimp only
   have hx0:=ha.at (i:=x-1) (by omega)
   have hy0:=hb.at (i:=y-1) (by omega)
   have ex:=yd (rk:=rk) (show x-1<a.size by omega)
   have ey:=yd (rk:=rk) (show y-1<b.size by omega)
   refine wpS_bind (t_elem (by omega) (wpS_bind (t_elem (by omega) (wpS_bind (W8 C (ev.k.trans hk) hy0 hx0 ?_)))))
   by_cases bw:rk (b[y-1]'(by omega)).1<rk (a[x-1]'(by omega)).1
   ·rw[decide_eq_true bw]
    simp only[if_true]
    refine wpS_bind (t_elem (by omega) ?_)
    have ho':=ho.pa1 sa sb hx (by omega) hy2 fun _=>by omega
    by_cases q3:(x-1 == 0)=true
    ·rw[if_pos q3]
     exact wpS_pure ⟨ev,_,_,_,_,_,_,rfl,ho'.done sa sb (.inl (by simpa using q3))⟩
    ·rw[if_neg q3]
     have q3:x-1≠0:=fun z=>q3 (by simp[z])
     by_cases q4:ca+1≥mg
     ·rw[if_pos q4]
      exact wpS_pure ⟨ev,_,_,_,_,_,_,rfl,ho',by omega,by omega,by omega,by omega,by omega⟩
     ·rw[if_neg q4]
      exact wpS_pure ⟨ev,_,_,_,_,_,rfl,ho',by omega,by omega,by omega,by omega,by omega⟩
   ·rw[decide_eq_false bw]
    simp only[Bool.false_eq_true,if_false]
    refine wpS_bind (t_elem (by omega) ?_)
    have ho':=ho.pb1 sa sb (by omega) (by omega) hy2 fun _=>by omega
    by_cases q3:(y-1 == 1)=true
    ·rw[if_pos q3]
     exact wpS_pure ⟨ev,_,_,_,_,_,_,rfl,ho'.first sa sb (by simpa using q3) h0⟩
    ·rw[if_neg q3]
     have q3:y-1≠1:=fun z=>q3 (by simp[z])
     by_cases q4:cb+1≥mg
     ·rw[if_pos q4]
      exact wpS_pure ⟨ev,_,_,_,_,_,_,rfl,ho',by omega,by omega,by omega,by omega,by omega⟩
     ·rw[if_neg q4]
      exact wpS_pure ⟨ev,_,_,_,_,_,rfl,ho',by omega,by omega,by omega,by omega,by omega⟩
  ·rintro c st2 ⟨ev,x,y,o,ca,cb,rfl,ho,hx,hx2,hy,hy2,hm⟩
   exact⟨ev,_,_,_,_,_,_,rfl,ho,hx,hx2,hy,hy2,by omega⟩
  ·rintro c st2 ⟨ev,r,x,y,o,ca,cb,rfl,hp⟩
   dsimp only
   cases r with
   |some r=>exact wpS_pure ⟨ev,_,_,_,_,_,rfl,hp⟩
   |none =>
    obtain⟨ho,hx,hx2,hy,hy2,hm⟩:=hp
    refine wpS_bind (wpS_lift (wpAny_rule ⟨rfl,?_⟩))
    refine wpS_bind (wpS_mono (wpS_forRange (I:=fun _ c st'=>Eqv st st'∧∃ x y o mg ca cb,c=(none,x,y,o,mg,ca,cb)∧HiA rk a b o x y∧1≤x∧x<a.size∧2≤y∧y≤b.size∧i+1+x+y≤a.size+b.size) (Q:=fun c st'=>Eqv st st'∧∃ r x y o mg ca cb,c=(r,x,y,o,mg,ca,cb)∧HiP rk a b (i+1) r o x y) ?_ ?_ ⟨ev,_,_,_,_,_,_,rfl,ho,hx,hx2,hy,hy2,hm⟩) ?_)
    ·rintro j c st3 _ hj ⟨ev,x,y,o,mg,ca,cb,rfl,ho,hx,hx2,hy,hy2,hm⟩
     dsimp only
     revert mg
     apply jn1
     case k =>
      intro J mg
      by_cases qm:¬ mg>1
      ·rw[if_neg qm]
       exact J mg
      ·rw[if_pos (Decidable.not_not.mp qm)]
       exact J (mg-1)
     case J =>
      intro mg
      refine wpS_bind (t_setMin ev fun st4 ev4=>?_)
      refine wpS_bind (t_elem (by omega) ?_)
      have hy9:y-1<b.size:=by omega
      have ey:=yd (rk:=rk) hy9
      refine wpS_bind (yN C (ev4.k.trans hk) (hb.at (i:=y-1) (by omega)) ha (by omega) (by omega) (fun i j hij hj=>sa.le (by omega) (by rw[Array.length_toList];omega)) fun k hk1 g1 g2=>?_)
      simp only[Bool.false_eq_true,if_false,Nat.zero_add] at g1 g2
      dsimp only
      generalize hn1:x-k=n1
      have HH:=And.intro ho (And.intro hx (And.intro hx2 (And.intro hm (And.intro hk1 (And.intro hn1 (And.intro g1 g2))))))
      clear ho hx hx2 hm hk1 hn1 g1 g2
      revert HH
      revert o x
      refine jn2 (H:=fun x o=>HiA rk a b o x y∧1≤x∧x<a.size∧i+1+x+y≤a.size+b.size∧kf rk a.toList (x-1)≤kf rk b.toList (y-1)) ?_
      apply Exists.intro
      apply And.intro
      case right =>
       intro J x o ⟨ho,hx,hx2,hm,hk1,hn1,g1,g2⟩
       by_cases qk:¬ n1>0
       ·rw[if_neg qk]
        have:=g1 (x-1) (by omega)
        exact J x o ⟨ho,hx,hx2,hm,by omega⟩
       rw[if_pos (Decidable.not_not.mp qk)]
       have ho1:=ho.as (k:=k) sa sb (by omega) (by omega) hy2 fun i hi hi2 _=>by have:=g2 i hi hi2;omega
       by_cases qa:(k == 0)=true
       ·rw[if_pos qa]
        exact wpS_pure ⟨ev4,_,_,_,_,_,_,_,rfl,ho1.done sa sb (.inl (by simpa using qa))⟩
       rw[if_neg qa]
       have qa:k≠0:=fun z=>qa (by simp[z])
       have:=g1 (k-1) (by omega)
       exact J k _ ⟨ho1,by omega,by omega,by omega,by omega⟩
      case left =>
       intro x o ⟨ho,hx,hx2,hm,hc⟩
       refine wpS_bind (t_elem (by omega) ?_)
       have ho2:=ho.pb1 sa sb (by omega) (by omega) hy2 fun _=>hc
       by_cases qc:(y-1 == 1)=true
       ·rw[if_pos qc]
        exact wpS_pure ⟨ev4,_,_,_,_,_,_,_,rfl,ho2.first sa sb (by simpa using qc) h0⟩
       rw[if_neg qc]
       have qc:y-1≠1:=fun z=>qc (by simp[z])
       refine wpS_bind (t_elem (by omega) ?_)
       have hx9:x-1<a.size:=by omega
       have ex:=yd (rk:=rk) hx9
       refine wpS_bind (yN C (ev4.k.trans hk) (ha.at (i:=x-1) (by omega)) hb (by omega) (by omega) (fun i j hij hj=>sb.le (by omega) (by rw[Array.length_toList];omega)) fun k2 hk2 g1 g2=>?_)
       simp only[if_true,Nat.zero_add] at g1 g2
       dsimp only
       have hy1:2≤y-1∧y-1≤b.size∧i+1+x+(y-1)≤a.size+b.size:=⟨by omega,by omega,by omega⟩
       generalize o.push (b[y-1]'(by omega))=o2 at ho2 ⊢
       clear ey hy9 hc
       generalize y-1=y1 at hy1 hk2 ho2 g1 g2 ⊢
       generalize hn2:y1-k2=n2
       have HH:=And.intro ho2 (And.intro hy1 (And.intro hk2 (And.intro hn2 (And.intro g1 g2))))
       clear ho2 hy1 hk2 hn2 g1 g2
       revert HH
       revert o2 y1
       refine jn2 (H:=fun o y=>HiA rk a b o x y∧2≤y∧y≤b.size∧i+1+x+y≤a.size+b.size∧kf rk b.toList (y-1)≤kf rk a.toList (x-1)) ?_
       apply Exists.intro
       apply And.intro
       case right =>
        intro J o2 y1 ⟨ho2,⟨hy1,hy3,hm1⟩,hk2,hn2,g1,g2⟩
        by_cases qk2:¬ n2>0
        ·rw[if_neg qk2]
         have:=g1 (y1-1) (by omega)
         exact J o2 y1 ⟨ho2,hy1,hy3,hm1,by omega⟩
        rw[if_pos (Decidable.not_not.mp qk2)]
        have ho3:=ho2.bs (k:=k2) sa sb (by omega) (by omega) (by omega) fun i hi hi2 _=>by have:=g2 i hi hi2;omega
        by_cases qd:(k2 == 1)=true
        ·rw[if_pos qd]
         exact wpS_pure ⟨ev4,_,_,_,_,_,_,_,rfl,ho3.first sa sb (by simpa using qd) h0⟩
        rw[if_neg qd]
        have qd:k2≠1:=fun z=>qd (by simp[z])
        by_cases qd2:(k2 == 0)=true
        ·rw[if_pos qd2]
         exact wpS_pure ⟨ev4,_,_,_,_,_,_,_,rfl,ho3.done sa sb (.inr (by simpa using qd2))⟩
        rw[if_neg qd2]
        have qd2:k2≠0:=fun z=>qd2 (by simp[z])
        have:=g1 (k2-1) (by omega)
        exact J _ k2 ⟨ho3,by omega,by omega,by omega,by omega⟩
       case left =>
        intro o y ⟨ho,hy,hy2,hm,hc⟩
        refine wpS_bind (t_elem (by omega) ?_)
        have ho4:=ho.pa1 sa sb hx (by omega) hy2 fun _=>hc
        by_cases qe:(x-1 == 0)=true
        ·rw[if_pos qe]
         exact wpS_pure ⟨ev4,_,_,_,_,_,_,_,rfl,ho4.done sa sb (.inl (by simpa using qe))⟩
        rw[if_neg qe]
        have qe:x-1≠0:=fun z=>qe (by simp[z])
        have H:HiA rk a b (o.push (a[x-1]'(by omega))) (x-1) y∧1≤x-1∧x-1<a.size∧2≤y∧y≤b.size∧i+1+(x-1)+y≤a.size+b.size:=⟨ho4,by omega,by omega,hy,hy2,by omega⟩
        split
        ·exact wpS_pure ⟨ev4,_,_,_,_,_,_,_,rfl,H⟩
        ·exact wpS_pure ⟨ev4,_,_,_,_,_,_,rfl,H⟩
    ·rintro c st3 ⟨ev,x,y,o,mg,ca,cb,rfl,ho,hx,hx2,hy,hy2,hm⟩
     exact⟨ev,_,_,_,_,_,_,_,rfl,ho,hx,hx2,hy,hy2,hm⟩
    ·rintro c st3 ⟨ev,r,x,y,o,mg,ca,cb,rfl,hp⟩
     dsimp only
     cases r with
     |some r=>exact wpS_pure ⟨ev,_,_,_,_,_,rfl,hp⟩
     |none =>
      obtain⟨ho,hx,hx2,hy,hy2,hm⟩:=hp
      refine wpS_bind (t_setMin ev fun st4 ev4=>?_)
      exact wpS_pure ⟨ev4,_,_,_,_,rfl,ho,hx,hx2,hy,hy2,hm⟩
 ·rintro c st1 ⟨ev,x,y,o,mg,rfl,ho,hx,hx2,hy,hy2,hm⟩
  omega
 ·rintro c st1 ⟨ev,r,x,y,o,mg,rfl,hr⟩
  exact wpS_pure (h r st1 hr ev)
end
section
variable {prog:Program}{w:World}{A:Around}{E:Value→Shared→Prop}{s:Shared}{it T:List Keyed}{κ:SortKind}{n:Nat}{rk:Value→Int}
structure TB (it T:List Keyed) (κ:SortKind) (n:Nat) (st:SortSt):Prop where
 z:(arrOf st).size=n
 p:(arrOf st).toList.Perm T
 i:In it (arrOf st)
 k:kindOf st=κ
 f:failedOf st=none
theorem TB.perm {st:SortSt}(t:TB it T κ n st){xs:Array Keyed}(p:xs.Perm (arrOf st)):TB it T κ n (setArr st xs) :=
 ⟨p.size_eq.trans t.z,(Array.perm_iff_toList_perm.mp p).trans t.p,fun x hx=>t.i x (Array.mem_def.mpr ((Array.perm_iff_toList_perm.mp p).mem_iff.mp (Array.mem_def.mp hx))),t.k,t.f⟩
def ks (rk:Value→Int) (st:SortSt) (i:Nat):Int:=kf rk (arrOf st).toList i
theorem ZX {st st':SortSt}{i j:Nat}(h:(arrOf st')[i]?=(arrOf st)[j]?):ks rk st' i=ks rk st j:=by
 unfold ks kf
 rw[Array.getElem?_toList,Array.getElem?_toList,h]
def Sg (rk:Value→Int) (st:SortSt) (lo hi:Nat):Prop:=∀ i j,lo≤i→i≤j→j<hi→ks rk st i≤ks rk st j
theorem t_ltAt (C:Cmp prog w A s it κ rk){st:SortSt}(t:TB it T κ n st){i j:Nat}(hi:i<n) (hj:j<n){Q:Option Bool→SortSt→Prop}(h:Q (some (decide (ks rk st i<ks rk st j))) st):wpS (model prog w) A E s (ltAt' i j) Q st:=by
 rw[ltAt'_eq]
 refine wpS_bind (wpS_get ?_)
 have hi:i<(arrOf st).size:=by rw[t.z];exact hi
 have hj:j<(arrOf st).size:=by rw[t.z];exact hj
 refine wpS_bind (t_elem hi (wpS_bind (t_elem hj (W8 C t.k (t.i.at hi) (t.i.at hj) ?_))))
 rw[yd (rk:=rk) hi,yd (rk:=rk) hj]
 exact h
structure Od (rk:Value→Int) (it T:List Keyed) (κ:SortKind) (n:Nat) (p:Array (Nat×Nat×Nat)) (lo:Nat) (f:Nat→Int) (st:SortSt):Prop where
 t:TB it T κ n st
 p:pendingOf st=p
 l:∀ i,i<lo→ks rk st i=f i
variable {p:Array (Nat×Nat×Nat)}{lo:Nat}{f:Nat→Int}
theorem t_rev {st:SortSt}(o:Od rk it T κ n p lo f st){i j:Nat}(hi:lo≤i) (hj:j≤n){Q:Unit→SortSt→Prop}(h:∀ st',Od rk it T κ n p lo f st'→(∀ k,ks rk st' k=if i≤k∧k<j then ks rk st (i+j-1-k) else ks rk st k)→Q () st'):wpS (model prog w) A E s (reverseSlice' i j) Q st:=by
 rw[reverseSlice'_eq]
 have hk:∀ k,ks rk (setArr st (mirror (arrOf st) i j ((j-i)/2))) k=if i≤k∧k<j then ks rk st (i+j-1-k) else ks rk st k:=fun k=>by
  have e:=getElem?_mirror_all (xs:=arrOf st) (i:=i) (j:=j) (by rw[o.t.z];exact hj) k
  by_cases q:i≤k∧k<j
  ·rw[if_pos q] at e ⊢
   exact ZX e
  ·rw[if_neg q] at e ⊢
   exact ZX e
 refine wpS_modify (h _ ⟨o.t.perm (mirror_perm _ _ _ _),o.p,fun k hk'=>?_⟩ hk)
 rw[hk k,if_neg (by omega)]
 exact o.l k hk'
theorem t_move {st:SortSt}(o:Od rk it T κ n p lo f st){i j:Nat}(hj:lo≤j) (hji:j≤i) (hi:i<n){Q:Unit→SortSt→Prop}(h:∀ st',Od rk it T κ n p lo f st'→(∀ k,ks rk st' k=if k=j then ks rk st i else if j<k∧k≤i then ks rk st (k-1) else ks rk st k)→Q () st'):wpS (model prog w) A E s (moveDown' i j) Q st:=by
 rw[moveDown'_eq]
 have hk:∀ k,ks rk (setArr st (bubble (arrOf st) i (i-j))) k=if k=j then ks rk st i else if j<k∧k≤i then ks rk st (k-1) else ks rk st k:=fun k=>by
  have e:=getElem?_bubble (xs:=arrOf st) (src:=i) (by rw[o.t.z];exact hi) (i-j) (by omega) k
  rw[show i-(i-j)=j by omega] at e
  by_cases q:k=j
  ·rw[if_pos q] at e ⊢
   exact ZX e
  ·rw[if_neg q] at e ⊢
   by_cases q2:j<k∧k≤i
   ·rw[if_pos q2] at e ⊢
    exact ZX e
   ·rw[if_neg q2] at e ⊢
    exact ZX e
 refine wpS_modify (h _ ⟨o.t.perm (bubble_perm _ _ _),o.p,fun k hk'=>?_⟩ hk)
 rw[hk k,if_neg (by omega),if_neg (by omega)]
 exact o.l k hk'
theorem zaN (C:Cmp prog w A s it κ rk){st:SortSt}(o:Od rk it T κ n p lo f st){m ok:Nat}(hm:lo+m≤n) (hok:ok≤m) (hm1:1≤m) (sg:Sg rk st lo (lo+ok)){Q:Bool→SortSt→Prop}(h:∀ st',Od rk it T κ n p lo f st'→Sg rk st' lo (lo+m)→Q true st'):wpS (model prog w) A E s (binarySort' lo m ok) Q st:=by
 rw[binarySort'_eq]
 refine wpS_bind (wpS_mono (wpS_forRange (I:=fun k c st'=>c=(none,())∧Od rk it T κ n p lo f st'∧Sg rk st' lo (lo+k)) (Q:=fun c st'=>c=(none,())∧Od rk it T κ n p lo f st'∧Sg rk st' lo (lo+m)) ?_ ?_ ⟨rfl,o,?_⟩) ?_)
 ·rintro k c st1 hk1 hk ⟨rfl,o1,sg1⟩
  dsimp only
  refine wpS_bind (wpS_mono (wpS_forRange (I:=fun jj c st'=>st'=st1∧∃ l r,c=(none,l,r)∧l≤r∧r≤k∧r≤l+(k-jj)∧(∀ i,i<l→ks rk st1 (lo+i)≤ks rk st1 (lo+k))∧(∀ i,r≤i→i<k→ks rk st1 (lo+k)≤ks rk st1 (lo+i))) (Q:=fun c st'=>st'=st1∧∃ l r,c=(none,l,r)∧l≤k∧(∀ i,i<l→ks rk st1 (lo+i)≤ks rk st1 (lo+k))∧(∀ i,l≤i→i<k→ks rk st1 (lo+k)≤ks rk st1 (lo+i))) ?_ ?_ ⟨rfl,_,_,rfl,by omega,Nat.le_refl _,by omega,fun i hi=>by omega,fun i h1 h2=>by omega⟩) ?_)
  ·rintro j c st2 _ hj ⟨rfl,l,r,rfl,hlr,hr,hf,g1,g2⟩
   dsimp only
   by_cases q:l≥r
   ·rw[if_pos q]
    exact wpS_pure ⟨rfl,_,_,rfl,by omega,g1,fun i h1 h2=>g2 i (by omega) h2⟩
   ·rw[if_neg q]
    refine wpS_bind (t_ltAt C o1.t (by omega) (by omega) ?_)
    by_cases z:ks rk st2 (lo+k)<ks rk st2 (lo+(l+r)/2)
    ·rw[decide_eq_true z]
     refine wpS_pure ⟨rfl,_,_,rfl,by omega,by omega,by omega,g1,fun i h1 h2=>?_⟩
     have:=sg1 (lo+(l+r)/2) (lo+i) (by omega) (by omega) (by omega)
     omega
    ·rw[decide_eq_false z]
     refine wpS_pure ⟨rfl,_,_,rfl,by omega,by omega,by omega,fun i h1=>?_,g2⟩
     have:=sg1 (lo+i) (lo+(l+r)/2) (by omega) (by omega) (by omega)
     omega
  ·rintro c st2 ⟨rfl,l,r,rfl,hlr,hr,hf,g1,g2⟩
   have e:max 0 k=k:=by omega
   rw[e] at hf
   exact⟨rfl,_,_,rfl,by omega,g1,fun i h1 h2=>g2 i (by omega) h2⟩
  ·rintro c st2 ⟨rfl,l,r,rfl,hl,g1,g2⟩
   dsimp only
   refine wpS_bind (t_move o1 (by omega) (by omega) (by omega) fun st3 o3 e3=>wpS_pure ⟨rfl,o3,fun i j h1 h2 h3=>?_⟩)
   rw[e3 i,e3 j]
   have ge:∀ x,lo≤x→x<lo+l→ks rk st2 x≤ks rk st2 (lo+k):=fun x a1 a2=>by
    have:=g1 (x-lo) (by omega)
    rw[show lo+(x-lo)=x by omega] at this
    exact this
   have le:∀ x,lo+l≤x→x<lo+k→ks rk st2 (lo+k)≤ks rk st2 x:=fun x a1 a2=>by
    have:=g2 (x-lo) (by omega) (by omega)
    rw[show lo+(x-lo)=x by omega] at this
    exact this
   by_cases c1:i=lo+l
   ·rw[if_pos c1]
    by_cases c2:j=lo+l
    ·rw[if_pos c2];exact Int.le_refl _
    ·rw[if_neg c2,if_pos (by omega)]
     exact le (j-1) (by omega) (by omega)
   ·rw[if_neg c1]
    by_cases c3:lo+l<i∧i≤lo+k
    ·rw[if_pos c3,if_neg (by omega),if_pos (by omega)]
     exact sg1 _ _ (by omega) (by omega) (by omega)
    ·rw[if_neg c3]
     by_cases c2:j=lo+l
     ·rw[if_pos c2]
      exact ge i h1 (by omega)
     ·rw[if_neg c2]
      by_cases c4:lo+l<j∧j≤lo+k
      ·rw[if_pos c4]
       exact sg1 _ _ h1 (by omega) (by omega)
      ·rw[if_neg c4]
       exact sg1 _ _ h1 h2 (by omega)
 ·rintro c st' ⟨rfl,o1,sg1⟩
  refine⟨rfl,o1,?_⟩
  rw[show max (max ok 1) m=m by omega] at sg1
  exact sg1
 ·intro i j h1 h2 h3
  by_cases q:ok=0
  ·have:i=j:=by omega
   rw[this]
   exact Int.le_refl _
  ·exact sg i j h1 h2 (by omega)
 ·rintro c st1 ⟨rfl,o1,sg1⟩
  exact wpS_pure (h st1 o1 sg1)
def Dn (rk:Value→Int) (st:SortSt) (lo m g:Nat):Prop:=(∀ i j,lo≤i→i≤j→j<lo+m→ks rk st j≤ks rk st i)∧g+1≤m∧∀ i,lo+m≤i+g+1→i<lo+m→ks rk st i=ks rk st (lo+m-1)
theorem zdM (C:Cmp prog w A s it κ rk){st:SortSt}(o:Od rk it T κ n p lo f st){m k:Nat}(hm:lo+m≤n) (hk1:1≤k) (hk:k≤m) (sg:Sg rk st lo (lo+k)){c0:Option (Option Nat)×Nat}(hc:c0=(none,k)){g:Nat→Option (Option Nat)×Nat→StateT SortSt Sem (ForInStep (Option (Option Nat)×Nat))}
  (hg:∀ (x i:Nat) (R:ForInStep (Option (Option Nat)×Nat)→SortSt→Prop),1≤i→i<m→(ks rk st (lo+i)<ks rk st (lo+i-1)→R (.done (none,i)) st)→(¬ ks rk st (lo+i)<ks rk st (lo+i-1)→R (.yield (none,i+1)) st)→wpS (model prog w) A E s (g x (none,i)) R st){Q:Option (Option Nat)×Nat→SortSt→Prop}
  (h:∀ j,k≤j→j≤m→Sg rk st lo (lo+j)→(j=m∨ks rk st (lo+j)<ks rk st (lo+j-1))→Q (none,j) st):wpS (model prog w) A E s (forIn [k:m] c0 g) Q st:=by
 subst hc
 refine wpS_mono (wpS_forRange (I:=fun i c st'=>st'=st∧c=(none,i)∧Sg rk st lo (lo+i)) (Q:=fun c st'=>st'=st∧∃ j,c=(none,j)∧k≤j∧j≤m∧Sg rk st lo (lo+j)∧(j=m∨ks rk st (lo+j)<ks rk st (lo+j-1))) ?_ ?_ ⟨rfl,rfl,sg⟩) ?_
 ·rintro i c st1 hi1 hi ⟨rfl,rfl,sg1⟩
  refine hg i i _ (by omega) hi (fun z=>⟨rfl,i,rfl,hi1,by omega,sg1,.inr z⟩) fun z=>⟨rfl,rfl,fun a b h1 h2 h3=>?_⟩
  by_cases e:b=lo+i
  ·subst e
   by_cases e2:a=lo+i
   ·subst e2;exact Int.le_refl _
   ·have:=sg1 a (lo+i-1) h1 (by omega) (by omega)
    omega
  ·exact sg1 a b h1 h2 (by omega)
 ·rintro c st1 ⟨rfl,rfl,sg1⟩
  rw[show max k m=m by omega] at sg1 ⊢
  exact⟨rfl,m,rfl,hk,Nat.le_refl _,sg1,.inl rfl⟩
 ·rintro c st1 ⟨rfl,j,rfl,h1,h2,h3,h4⟩
  exact h j h1 h2 h3 h4
theorem jn3 {α:Type}{H:α→Prop}{G:Prop}(h:∃ P:α→Prop,(∀ m,H m→P m)∧((∀ m,H m→P m)→G)):G:=by
 obtain⟨P,J,k⟩:=h
 exact k J
theorem XY (C:Cmp prog w A s it κ rk){st:SortSt}(o:Od rk it T κ n p lo f st){m:Nat}(h1:1≤m) (hm:lo+m≤n){Q:Option Nat→SortSt→Prop}(h:∀ k st',1≤k→k≤m→Od rk it T κ n p lo f st'→Sg rk st' lo (lo+k)→Q (some k) st'):wpS (model prog w) A E s (countRun' lo m) Q st:=by
 rw[countRun'_eq]
 refine wpS_bind (zdM C o hm (Nat.le_refl _) h1 (fun i j a b c=>by rw[show i=j by omega];exact Int.le_refl _) rfl (fun x i R i1 i2 y1 y2=>wpS_bind (t_ltAt C o.t (by omega) (by omega) (by
  dsimp only
  by_cases z:ks rk st (lo+i)<ks rk st (lo+i-1)
  ·rw[decide_eq_true z]
   exact wpS_pure (y1 z)
  ·rw[decide_eq_false z]
   exact wpS_pure (y2 z)))) fun k k1 k2 sg k3=>?_)
 dsimp only
 by_cases q:(k == m)=true
 ·rw[if_pos q]
  exact wpS_pure (h k st k1 k2 o sg)
 rw[if_neg q]
 have q:k≠m:=fun z=>q (by simp[z])
 have k3:ks rk st (lo+k)<ks rk st (lo+k-1):=k3.resolve_left q
 refine jn3 (H:=fun st2=>Od rk it T κ n p lo f st2∧Dn rk st2 lo (k+1) 0) ?_
 apply Exists.intro
 apply And.intro
 case right =>
  intro J
  by_cases qk:k>1
  ·rw[if_pos qk]
   refine wpS_bind (t_ltAt C o.t (by omega) (by omega) ?_)
   by_cases z:ks rk st lo<ks rk st (lo+k-1)
   ·rw[decide_eq_true z]
    exact wpS_pure (h k st k1 k2 o sg)
   ·rw[decide_eq_false z]
    simp only[Bool.false_eq_true,if_false]
    refine wpS_bind (t_rev o (by omega) (by omega) fun st2 o2 e2=>J st2 ⟨o2,fun i j a1 a2 a3=>?_,by omega,fun i a1 a2=>by rw[show i=lo+(k+1)-1 by omega]⟩)
    have eq:∀ x,lo≤x→x<lo+k→ks rk st x=ks rk st lo:=fun x b1 b2=>by
     have c1:=sg lo x (Nat.le_refl _) b1 b2
     have c2:=sg x (lo+k-1) b1 (by omega) (by omega)
     omega
    have eq2:∀ x,lo≤x→x<lo+k→ks rk st2 x=ks rk st lo:=fun x b1 b2=>by
     rw[e2 x,if_pos ⟨b1,b2⟩]
     exact eq _ (by omega) (by omega)
    have e4:ks rk st2 (lo+k)=ks rk st (lo+k):=by rw[e2,if_neg (by omega)]
    have e5:=eq (lo+k-1) (by omega) (by omega)
    by_cases c:j=lo+k
    ·subst c
     by_cases c2:i=lo+k
     ·subst c2;exact Int.le_refl _
     ·rw[e4,eq2 i a1 (by omega)]
      omega
    ·rw[eq2 j (by omega) (by omega),eq2 i a1 (by omega)]
     exact Int.le_refl _
  ·rw[if_neg qk]
   have:k=1:=by omega
   subst this
   refine J st ⟨o,fun i j a1 a2 a3=>?_,by omega,fun i a1 a2=>by rw[show i=lo+(1+1)-1 by omega]⟩
   rcases Nat.lt_or_eq_of_le a2 with c | c
   ·rw[show i=lo by omega,show j=lo+1 by omega]
    rw[Nat.add_sub_cancel] at k3
    omega
   ·subst c;exact Int.le_refl _
 case left =>
  intro st2 ⟨o2,d2⟩
  refine wpS_bind (wpS_lift (wpAny_rule ⟨rfl,?_⟩))
  refine wpS_bind (wpS_mono (wpS_forRange (I:=fun i c st'=>Od rk it T κ n p lo f st'∧∃ g,c=(none,i,g)∧Dn rk st' lo i g) (Q:=fun c st'=>Od rk it T κ n p lo f st'∧∃ j g,c=(none,j,g)∧k+1≤j∧j≤m∧Dn rk st' lo j g) ?_ ?_ ⟨o2,_,rfl,d2⟩) ?_)
  ·rintro i c st3 hi1 hi ⟨o3,g,rfl,⟨d1,d2,d3⟩⟩
   dsimp only
   refine wpS_bind (t_ltAt C o3.t (by omega) (by omega) ?_)
   by_cases z:ks rk st3 (lo+i)<ks rk st3 (lo+i-1)
   ·rw[decide_eq_true z]
    simp only[if_true]
    by_cases qg:g>0
    ·rw[if_pos qg]
     refine wpS_bind (t_rev o3 (by omega) (by omega) fun st4 o4 e4=>wpS_pure ⟨o4,_,rfl,?_⟩)
     have same:∀ x,lo≤x→x<n→ks rk st4 x=ks rk st3 x:=fun x b1 b2=>by
      rw[e4 x]
      by_cases c:lo+i-(g+1)≤x∧x<lo+i
      ·rw[if_pos c,d3 (lo+i-(g+1)+(lo+i)-1-x) (by omega) (by omega),d3 x (by omega) (by omega)]
      ·rw[if_neg c]
     refine⟨fun a b a1 a2 a3=>?_,by omega,fun x a1 a2=>by rw[show x=lo+(i+1)-1 by omega]⟩
     rw[same a a1 (by omega),same b (by omega) (by omega)]
     by_cases c:b=lo+i
     ·subst c
      by_cases c2:a=lo+i
      ·subst c2;exact Int.le_refl _
      ·have:=d1 a (lo+i-1) a1 (by omega) (by omega)
       omega
     ·exact d1 a b a1 a2 (by omega)
    ·rw[if_neg qg]
     refine wpS_pure ⟨o3,_,rfl,fun a b a1 a2 a3=>?_,by omega,fun x a1 a2=>by rw[show x=lo+(i+1)-1 by omega]⟩
     by_cases c:b=lo+i
     ·subst c
      by_cases c2:a=lo+i
      ·subst c2;exact Int.le_refl _
      ·have:=d1 a (lo+i-1) a1 (by omega) (by omega)
       omega
     ·exact d1 a b a1 a2 (by omega)
   ·rw[decide_eq_false z]
    simp only[Bool.false_eq_true,if_false]
    refine wpS_bind (t_ltAt C o3.t (by omega) (by omega) ?_)
    by_cases z2:ks rk st3 (lo+i-1)<ks rk st3 (lo+i)
    ·rw[decide_eq_true z2]
     exact wpS_pure ⟨o3,_,_,rfl,hi1,by omega,d1,d2,d3⟩
    ·rw[decide_eq_false z2]
     refine wpS_pure ⟨o3,_,rfl,fun a b a1 a2 a3=>?_,by omega,fun x a1 a2=>?_⟩
     ·by_cases c:b=lo+i
      ·subst c
       by_cases c2:a=lo+i
       ·subst c2;exact Int.le_refl _
       ·have:=d1 a (lo+i-1) a1 (by omega) (by omega)
        omega
      ·exact d1 a b a1 a2 (by omega)
     ·rw[show lo+(i+1)-1=lo+i by omega]
      by_cases c:x=lo+i
      ·rw[c]
      ·have:=d3 x (by omega) (by omega)
       omega
  ·rintro c st3 ⟨o3,g,rfl,d3⟩
   rw[show max (k+1) m=m by omega] at d3 ⊢
   exact⟨o3,_,_,rfl,by omega,Nat.le_refl _,d3⟩
  ·rintro c st3 ⟨o3,j,g,rfl,j1,j2,d3⟩
   dsimp only
   refine jn3 (H:=fun st4=>Od rk it T κ n p lo f st4∧∀ i j',lo≤i→i≤j'→j'<lo+j→ks rk st4 j'≤ks rk st4 i) ?_
   apply Exists.intro
   apply And.intro
   case right =>
    intro J
    by_cases qg:g>0
    ·rw[if_pos qg]
     refine wpS_bind (t_rev o3 (by have:=d3.2.1;omega) (by omega) fun st4 o4 e4=>J st4 ⟨o4,fun a b a1 a2 a3=>?_⟩)
     have same:∀ x,lo≤x→x<n→ks rk st4 x=ks rk st3 x:=fun x b1 b2=>by
      have:=d3.2.1
      rw[e4 x]
      by_cases c:lo+j-(g+1)≤x∧x<lo+j
      ·rw[if_pos c,d3.2.2 (lo+j-(g+1)+(lo+j)-1-x) (by omega) (by omega),d3.2.2 x (by omega) (by omega)]
      ·rw[if_neg c]
     rw[same a a1 (by omega),same b (by omega) (by omega)]
     exact d3.1 a b a1 a2 a3
    ·rw[if_neg qg]
     exact J st3 ⟨o3,d3.1⟩
   case left =>
    intro st4 ⟨o4,d4⟩
    refine wpS_bind (t_rev o4 (by omega) (by omega) fun st5 o5 e5=>?_)
    have sg5:Sg rk st5 lo (lo+j):=fun a b a1 a2 a3=>by
     rw[e5 a,e5 b,if_pos ⟨a1,by omega⟩,if_pos ⟨by omega,a3⟩]
     exact d4 _ _ (by omega) (by omega) (by omega)
    refine wpS_bind (zdM C o5 hm (by omega) j2 sg5 rfl (fun x i R i1 i2 y1 y2=>wpS_bind (t_ltAt C o5.t (by omega) (by omega) (by
     dsimp only
     by_cases z:ks rk st5 (lo+i)<ks rk st5 (lo+i-1)
     ·rw[decide_eq_true z]
      exact wpS_pure (y1 z)
     ·rw[decide_eq_false z]
      exact wpS_pure (y2 z)))) fun k' b1 b2 b3 b4=>?_)
    exact wpS_pure (h k' st5 (by omega) b2 o5 b3)
theorem Sg.sa {st:SortSt}(h:Sg rk st 0 (arrOf st).size):SA rk (arrOf st).toList:=SA.of fun i j hij hj=>h i j (Nat.zero_le _) (by omega) (by simpa using hj)
theorem sets_get:∀ (l:List Keyed) (s b:Nat) (a:Array Keyed) (i:Nat),b+s+l.length≤a.size→((l.zipIdx s).foldl (fun a (q,j)=>a.setIfInBounds (b+j) q) a)[i]?=if b+s≤i∧i<b+s+l.length then l[i-(b+s)]? else a[i]?
 |[],s,b,a,i,h=>by
  rw[if_neg (by simp)]
  rfl
 |q::l,s,b,a,i,h=>by
  rw[List.length_cons] at h
  rw[List.zipIdx_cons,List.foldl_cons,sets_get l (s+1) b _ i (by rw[Array.size_setIfInBounds];omega)]
  rw[Array.getElem?_setIfInBounds]
  by_cases c:b+s=i
  ·subst c
   rw[if_neg (by omega),if_pos rfl,if_pos (by omega),if_pos (by rw[List.length_cons];omega),Nat.sub_self]
   rfl
  ·rw[if_neg c]
   by_cases d:b+(s+1)≤i∧i<b+(s+1)+l.length
   ·rw[if_pos d,if_pos (by rw[List.length_cons];omega)]
    rw[show i-(b+s)=(i-(b+(s+1)))+1 by omega,List.getElem?_cons_succ]
   ·rw[if_neg d,if_neg (by rw[List.length_cons];omega)]
theorem Zw (l:List Keyed) (b:Nat) (a:Array Keyed) (h:b+l.length≤a.size):(l.zipIdx.foldl (fun a (q,j)=>a.setIfInBounds (b+j) q) a).toList=a.toList.take b++l++a.toList.drop (b+l.length):=by
 apply List.ext_getElem?
 intro i
 rw[Array.getElem?_toList,sets_get l 0 b a i h,Nat.add_zero]
 have lt:(a.toList.take b).length=b:=by rw[List.length_take,Array.length_toList];omega
 by_cases c:i<b
 ·rw[if_neg (by omega),List.append_assoc,List.getElem?_append_left (by omega),List.getElem?_take_of_lt c,Array.getElem?_toList]
 ·by_cases d:i<b+l.length
  ·rw[if_pos (by omega),List.append_assoc,List.getElem?_append_right (by omega),lt,List.getElem?_append_left (by omega)]
  ·rw[if_neg (by omega),List.getElem?_append_right (by rw[List.length_append];omega),List.length_append,lt,List.getElem?_drop,Array.getElem?_toList]
   congr 1
   omega
theorem zaK {x st:SortSt}{Q:PUnit→SortSt→Prop}(h:Q ⟨⟩ x):wpS (model prog w) A E s (set x:StateT SortSt Sem PUnit) Q st:=by
 unfold wpS
 rw[StateT.run_set]
 exact wpAny_pure ⟨rfl,h⟩
theorem uN (C:Cmp prog w A s it κ rk){st:SortSt}(t:TB it T κ n st){n1 p1 p2:Nat}(hp:pendingOf st = #[(0,n1,p1),(n1,n-n1,p2)]) (h1:1≤n1) (h2:n1<n) (sg1:Sg rk st 0 n1) (sg2:Sg rk st n1 n){Q:Bool→SortSt→Prop}
  (h:∀ st',TB it T κ n st'→pendingOf st' = #[(0,n,p1)]→Sg rk st' 0 n→Q true st'):wpS (model prog w) A E s (mergeAt' 0) Q st:=by
 refine wpS_bind (wpS_get ?_)
 have hq:=hp
 unfold pendingOf at hq
 rw[hq]
 have e0 : #[(0,n1,p1),(n1,n-n1,p2)][0]?=some (0,n1,p1):=rfl
 have e1 : #[(0,n1,p1),(n1,n-n1,p2)][0+1]?=some (n1,n-n1,p2):=rfl
 rw[e0,e1]
 dsimp only
 have ep:(#[(0,n1,p1),(n1,n-n1,p2)].setIfInBounds 0 (0,n1+(n-n1),p1)).eraseIdxIfInBounds (0+1) = #[(0,n,p1)]:=by
  rw[show n1+(n-n1)=n by omega]
  apply Array.toList_inj.mp
  simp[Array.setIfInBounds,Array.eraseIdxIfInBounds]
 rw[ep]
 refine wpS_bind (zaK ?_)
 have t2:TB it T κ n (setPending st #[(0,n,p1)]):=⟨t.z,t.p,t.i,t.k,t.f⟩
 have hz:=t.z
 have hn1:n1<(arrOf st).size:=by omega
 refine wpS_bind (t_elem hn1 ?_)
 have en1:=yd (rk:=rk) hn1
 refine wpS_bind (yN C t2.k (t.i.at hn1) t.i (by omega) (by omega) (fun i j hij hj=>by rw[Nat.zero_add,Nat.zero_add];exact sg1 i j (Nat.zero_le _) hij hj) fun k hk1 g1 g2=>?_)
 simp only[Bool.false_eq_true,if_false,Nat.zero_add] at g1 g2
 rw[en1] at g1 g2
 dsimp only
 by_cases q1:(n1-k == 0)=true
 ·rw[if_pos q1]
  have q1:n1-k=0:=by simpa using q1
  refine wpS_pure (h _ t2 rfl fun i j _ hij hj=>?_)
  show ks rk st i≤ks rk st j
  by_cases c:j<n1
  ·exact sg1 i j (Nat.zero_le _) hij c
  ·by_cases d:i<n1
   ·have:=g1 i (by omega)
    have:=sg2 n1 j (Nat.le_refl _) (by omega) hj
    unfold ks at this ⊢
    omega
   ·exact sg2 i j (by omega) hij hj
 rw[if_neg q1]
 have q1:n1-k≠0:=fun z=>q1 (by simp[z])
 have hn2:0+k+(n1-k)-1<(arrOf st).size:=by omega
 refine wpS_bind (t_elem hn2 ?_)
 have en2:=yd (rk:=rk) hn2
 refine wpS_bind (yN C t2.k (t.i.at hn2) t.i (by omega) (by omega) (fun i j hij hj=>sg2 _ _ (by omega) (by omega) (by omega)) fun m hm1 g3 g4=>?_)
 simp only[if_true] at g3 g4
 rw[en2,show 0+k+(n1-k)-1=n1-1 by omega] at g3 g4
 dsimp only
 by_cases q2:(m == 0)=true
 ·rw[if_pos q2]
  have q2:m=0:=by simpa using q2
  refine wpS_pure (h _ t2 rfl fun i j _ hij hj=>?_)
  show ks rk st i≤ks rk st j
  by_cases c:j<n1
  ·exact sg1 i j (Nat.zero_le _) hij c
  ·by_cases d:i<n1
   ·have a1:=g4 (j-n1) (by omega) (by omega)
    rw[show n1+(j-n1)=j by omega] at a1
    have a2:=sg1 i (n1-1) (Nat.zero_le _) (by omega) (by omega)
    unfold ks at a2 ⊢
    omega
   ·exact sg2 i j (by omega) hij hj
 rw[if_neg q2]
 have q2:m≠0:=fun z=>q2 (by simp[z])
 have lL:(arrOf st).toList.length=n:=by rw[Array.length_toList];exact hz
 have ea:((arrOf st).extract (0+k) n1).toList=((arrOf st).toList.drop k).take (n1-k):=by rw[Nat.zero_add];exact WH _ _ _
 have eb:((arrOf st).extract n1 (n1+m)).toList=((arrOf st).toList.drop n1).take m:=WI _ _ _
 have ka:∀ i,i<n1-k→kf rk (((arrOf st).toList.drop k).take (n1-k)) i=kf rk (arrOf st).toList (k+i):=fun i hi=>by
  unfold kf
  rw[List.getElem?_take_of_lt hi,List.getElem?_drop]
 have kb:∀ i,i<m→kf rk (((arrOf st).toList.drop n1).take m) i=kf rk (arrOf st).toList (n1+i):=fun i hi=>by
  unfold kf
  rw[List.getElem?_take_of_lt hi,List.getElem?_drop]
 have la:(((arrOf st).toList.drop k).take (n1-k)).length=n1-k:=by rw[List.length_take,List.length_drop];omega
 have lb:(((arrOf st).toList.drop n1).take m).length=m:=by rw[List.length_take,List.length_drop];omega
 have sa:SA rk ((arrOf st).extract (0+k) n1).toList:=by
  rw[ea]
  refine SA.of fun i j hij hj=>?_
  rw[la] at hj
  rw[ka i (by omega),ka j hj]
  exact sg1 _ _ (Nat.zero_le _) (by omega) (by omega)
 have sb:SA rk ((arrOf st).extract n1 (n1+m)).toList:=by
  rw[eb]
  refine SA.of fun i j hij hj=>?_
  rw[lb] at hj
  rw[kb i (by omega),kb j hj]
  exact sg2 _ _ (by omega) (by omega) (by omega)
 have za:((arrOf st).extract (0+k) n1).size=n1-k:=by rw[← Array.length_toList,ea,la]
 have zb:((arrOf st).extract n1 (n1+m)).size=m:=by rw[← Array.length_toList,eb,lb]
 have fin:∀ (o:Array Keyed) (st3:SortSt),vc rk ((arrOf st).extract (0+k) n1) ((arrOf st).extract n1 (n1+m)) o→Eqv (setPending st #[(0,n,p1)]) st3→TB it T κ n (setArr st3 (o.toList.zipIdx.foldl (fun a (q,j)=>a.setIfInBounds (0+k+j) q) (arrOf st3)))∧Sg rk (setArr st3 (o.toList.zipIdx.foldl (fun a (q,j)=>a.setIfInBounds (0+k+j) q) (arrOf st3))) 0 n:=fun o st3 ⟨po,so⟩ ev=>by
  rw[ea,eb] at po
  have hf:failedOf st3=none:=ev.f.trans t.f
  have ha:arrOf st3=arrOf st:=ev.a
  have lo:o.toList.length=n1-k+m:=by rw[po.length_eq,List.length_append,la,lb]
  have el:=Zw o.toList (0+k) (arrOf st3) (by rw[ha,lo];omega)
  rw[ha,lo,show 0+k+(n1-k+m)=n1+m by omega,Nat.zero_add] at el
  have el2:(o.toList.zipIdx.foldl (fun a (q,j)=>a.setIfInBounds (0+k+j) q) (arrOf st3)).toList=(arrOf st).toList.take k++o.toList++(arrOf st).toList.drop (n1+m):=by
   rw[ha,Nat.zero_add]
   exact el
  have perm:((arrOf st).toList.take k++o.toList++(arrOf st).toList.drop (n1+m)).Perm (arrOf st).toList:=by
   have e3:(arrOf st).toList=(arrOf st).toList.take k++(((arrOf st).toList.drop k).take (n1-k)++((arrOf st).toList.drop n1).take m)++(arrOf st).toList.drop (n1+m):=by
    have a1:(arrOf st).toList.take k++((arrOf st).toList.drop k).take (n1-k)=(arrOf st).toList.take n1:=(xm hk1).symm
    have a2:(arrOf st).toList.take n1++((arrOf st).toList.drop n1).take m=(arrOf st).toList.take (n1+m):=by rw[List.take_add]
    rw[← List.append_assoc,a1,a2,List.take_append_drop]
   exact(List.Perm.append_right _ (List.Perm.append_left _ po)).trans (List.Perm.of_eq e3.symm)
  have size:(o.toList.zipIdx.foldl (fun a (q,j)=>a.setIfInBounds (0+k+j) q) (arrOf st3)).size=n:=by
   rw[← Array.length_toList,el2,perm.length_eq,lL]
  refine⟨⟨size,?_,fun x hx=>?_,ev.k.trans t.k,hf⟩,?_⟩
  ·show(o.toList.zipIdx.foldl (fun a (q,j)=>a.setIfInBounds (0+k+j) q) (arrOf st3)).toList.Perm T
   rw[el2]
   exact perm.trans t.p
  ·have hx:x∈(o.toList.zipIdx.foldl (fun a (q,j)=>a.setIfInBounds (0+k+j) q) (arrOf st3)).toList:=Array.mem_def.mp hx
   rw[el2] at hx
   exact t.i x (Array.mem_def.mpr (perm.mem_iff.mp hx))
  ·have key:SA rk ((arrOf st).toList.take k++o.toList++(arrOf st).toList.drop (n1+m)):=by
    have sT:SA rk ((arrOf st).toList.take k):=by
     refine SA.of fun i j hij hj=>?_
     rw[List.length_take] at hj
     have x1:∀ i,i<k→kf rk ((arrOf st).toList.take k) i=kf rk (arrOf st).toList i:=fun i hi=>by unfold kf;rw[List.getElem?_take_of_lt hi]
     rw[x1 i (by omega),x1 j (by omega)]
     exact sg1 i j (Nat.zero_le _) (by omega) (by omega)
    have sD:SA rk ((arrOf st).toList.drop (n1+m)):=by
     refine SA.of fun i j hij hj=>?_
     rw[List.length_drop] at hj
     have x1:∀ i,kf rk ((arrOf st).toList.drop (n1+m)) i=kf rk (arrOf st).toList (n1+m+i):=fun i=>by unfold kf;rw[List.getElem?_drop]
     rw[x1 i,x1 j]
     exact sg2 _ _ (by omega) (by omega) (by omega)
    have oo:∀ u∈o.toList,kf rk (arrOf st).toList n1≤rk u.1∧rk u.1≤kf rk (arrOf st).toList (n1-1):=fun u hu=>by
     rcases List.mem_append.mp (po.mem_iff.mp hu) with z | z
     ·obtain⟨i,c1,c2,c3,e⟩:=wf (rk:=rk) z
      have d1:=g2 i (by omega) (by omega)
      have d2:=sg1 i (n1-1) (Nat.zero_le _) (by omega) (by omega)
      unfold ks at d2
      omega
     ·obtain⟨i,c1,c2,c3,e⟩:=wf (rk:=rk) z
      have d1:=g3 (i-n1) (by omega)
      rw[show n1+(i-n1)=i by omega] at d1
      have d2:=sg2 n1 i (Nat.le_refl _) (by omega) (by omega)
      unfold ks at d2
      omega
    refine(sT.app so fun u hu v hv=>?_).app sD fun u hu v hv=>?_
    ·obtain⟨i,c1,c2,e⟩:=ye (rk:=rk) hu
     have:=g1 i c1
     have:=(oo v hv).1
     omega
    ·obtain⟨j,c1,c2,e⟩:=yj (rk:=rk) hv
     rw[lL] at c2
     have d1:=g4 (j-n1) (by omega) (by omega)
     rw[show n1+(j-n1)=j by omega] at d1
     rcases List.mem_append.mp hu with z | z
     ·obtain⟨i,c3,c4,e2⟩:=ye (rk:=rk) z
      have d2:=sg1 i (n1-1) (Nat.zero_le _) (by omega) (by omega)
      unfold ks at d2
      omega
     ·have:=(oo u z).2
      omega
   intro i j _ hij hj
   show kf rk (o.toList.zipIdx.foldl (fun a (q,j)=>a.setIfInBounds (0+k+j) q) (arrOf st3)).toList i≤kf rk (o.toList.zipIdx.foldl (fun a (q,j)=>a.setIfInBounds (0+k+j) q) (arrOf st3)).toList j
   rw[el2]
   exact key.le hij (by rw[perm.length_eq,lL];exact hj)
 have fin2:∀ (o:Array Keyed) (st3:SortSt),vc rk ((arrOf st).extract (0+k) n1) ((arrOf st).extract n1 (n1+m)) o→Eqv (setPending st #[(0,n,p1)]) st3→Q (failedOf (setArr st3 (o.toList.zipIdx.foldl (fun a (q,j)=>a.setIfInBounds (0+k+j) q) (arrOf st3)))).isNone (setArr st3 (o.toList.zipIdx.foldl (fun a (q,j)=>a.setIfInBounds (0+k+j) q) (arrOf st3))):=fun o st3 fo ev=>by
  obtain⟨x1,x2⟩:=fin o st3 fo ev
  rw[x1.f]
  exact h _ x1 ev.p x2
 have a0:∀ i,i<n1-k→kf rk ((arrOf st).extract n1 (n1+m)).toList 0≤kf rk ((arrOf st).extract (0+k) n1).toList i:=fun i hi=>by
  rw[ea,eb,ka i hi,kb 0 (by omega),Nat.add_zero]
  have:=g2 (k+i) (by omega) (by omega)
  omega
 have al:∀ i,i<m→kf rk ((arrOf st).extract n1 (n1+m)).toList i≤kf rk ((arrOf st).extract (0+k) n1).toList (n1-k-1):=fun i hi=>by
  rw[ea,eb,kb i hi,ka _ (by omega),show k+(n1-k-1)=n1-1 by omega]
  have:=g3 i hi
  omega
 by_cases q3:n1-k≤m
 ·rw[if_pos q3]
  refine wpS_bind (uL C t2.k t.i.ext t.i.ext (by omega) (by omega) sa sb (a0 0 (by omega)) (fun i hi=>by rw[zb] at hi;rw[za];exact al i hi) fun o st3 fo ev=>?_)
  exact wpS_bind (wpS_modify (wpS_bind (wpS_get (wpS_pure (fin2 o st3 fo ev)))))
 ·rw[if_neg q3]
  refine wpS_bind (uM C t2.k t.i.ext t.i.ext (by omega) (by omega) sa sb (fun i hi=>by rw[za] at hi;exact a0 i hi) (by rw[za,zb];exact al (m-1) (by omega)) fun o st3 fo ev=>?_)
  exact wpS_bind (wpS_modify (wpS_bind (wpS_get (wpS_pure (fin2 o st3 fo ev)))))
end
end Sco
namespace Sco
open PySem PyProof.Rows PySem.W
section
variable {prog:Program}{w:World}{A:Around}{E:Value→Shared→Prop}{s:Shared}{it T:List Keyed}{κ:SortKind}{n:Nat}{rk:Value→Int}
theorem ZT:∀ z,z≤66→2≤z→z≤2*minRun' z z 0∧minRun' z z 0≤z∧1≤minRun' z z 0:=by decide
theorem W7 (C:Cmp prog w A s it κ rk){st:SortSt}(t:TB it T κ n st) (hp:pendingOf st = #[]) (h2:2≤n) (h66:n≤66){Q:Unit→SortSt→Prop}(h:∀ st',TB it T κ n st'→Sg rk st' 0 n→Q () st'):wpS (model prog w) A E s sortRuns' Q st:=by
 obtain⟨r1,r2,r3⟩:=ZT n h66 h2
 rw[sortRuns'_eq]
 refine wpS_bind (wpS_get ?_)
 rw[t.z]
 dsimp only
 refine wpS_bind (wpS_mono (wpS_forRange (I:=fun i c st'=>TB it T κ n st'∧∃ lo,c=(none,lo)∧i≤lo∧((lo=0∧pendingOf st' = #[])∨(1≤lo∧lo≤n∧(lo=n∨minRun' n n 0≤lo)∧Sg rk st' 0 lo∧∃ p1,pendingOf st' = #[(0,lo,p1)])∨(lo=n∧∃ n1 p1 p2,1≤n1∧n1<n∧Sg rk st' 0 n1∧Sg rk st' n1 n∧pendingOf st' = #[(0,n1,p1),(n1,n-n1,p2)])))
  (Q:=fun c st'=>TB it T κ n st'∧∃ lo,c=(none,lo)∧((Sg rk st' 0 n∧∃ p1,pendingOf st' = #[(0,n,p1)])∨∃ n1 p1 p2,1≤n1∧n1<n∧Sg rk st' 0 n1∧Sg rk st' n1 n∧pendingOf st' = #[(0,n1,p1),(n1,n-n1,p2)])) ?_ ?_ ⟨t,0,rfl,Nat.le_refl _,.inl ⟨rfl,hp⟩⟩) ?_)
 ·rintro i c st1 _ hi ⟨t1,lo,rfl,hil,hc⟩
  dsimp only
  by_cases q1:lo≥n
  ·rw[if_pos q1]
   refine wpS_pure ⟨t1,lo,rfl,?_⟩
   rcases hc with⟨l0,_⟩ | ⟨l1,l2,l3,s1,p1,hpd⟩ | ⟨l0,hpd⟩
   ·omega
   ·have:lo=n:=by omega
    subst this
    exact .inl ⟨s1,p1,hpd⟩
   ·exact .inr hpd
  rw[if_neg q1]
  have old:∀ {st2:SortSt},Sg rk st1 0 lo→(∀ i,i<lo→ks rk st2 i=ks rk st1 i)→Sg rk st2 0 lo:=fun s1 l i j h1 h2 h3=>by
   rw[l i (by omega),l j h3]
   exact s1 i j h1 h2 h3
  refine wpS_bind (XY (p:=pendingOf st1) (f:=ks rk st1) C ⟨t1,rfl,fun _ _=>rfl⟩ (by omega) (by omega) fun fd st0 f1 f2 o0 s0=>?_)
  dsimp only
  by_cases q2:fd<minRun' n n 0
  ·rw[if_pos q2]
   refine wpS_bind (wpS_lift (wpAny_rule ⟨rfl,?_⟩))
   refine wpS_bind (zaN C o0 (by omega) (by omega) (by omega) s0 fun st2 o2 s2=>?_)
   simp only[Bool.not_true,Bool.false_eq_true,if_false]
   refine wpS_bind (wpS_get ?_)
   rcases hc with⟨l0,hpd⟩ | ⟨l1,l2,l3,s1,p1,hpd⟩ | ⟨l0,_⟩
   ·subst l0
    rw[o2.p,hpd]
    refine wpS_bind (wpS_modify (wpS_pure ⟨⟨o2.t.z,o2.t.p,o2.t.i,o2.t.k,o2.t.f⟩,_,rfl,by omega,.inr (.inl ⟨by omega,by omega,by omega,by rw[Nat.zero_add] at s2 ⊢;exact s2,0,?_⟩)⟩))
    show(pendingOf st2).push _=_
    rw[o2.p,hpd,Nat.zero_add]
    rfl
   ·have hRe:min (n-lo) (minRun' n n 0)=n-lo:=by omega
    have hpd2:pendingOf st2 = #[(0,lo,p1)]:=o2.p.trans hpd
    rw[hpd2]
    refine wpS_bind (wpS_mono (wpS_forRange (I:=fun _ c st'=>st'=st2∧c=(none,())) (Q:=fun c st'=>st'=st2∧c=(none,())) ?_ (fun _ _ h=>h) ⟨rfl,rfl⟩) ?_)
    ·rintro j c st3 _ hj ⟨rfl,rfl⟩
     refine wpS_bind (wpS_get ?_)
     rw[hpd2]
     exact wpS_pure ⟨rfl,rfl⟩
    ·rintro c st3 ⟨rfl,rfl⟩
     refine wpS_bind (wpS_modify (wpS_bind (wpS_modify (wpS_pure ⟨⟨o2.t.z,o2.t.p,o2.t.i,o2.t.k,o2.t.f⟩,_,rfl,by omega,.inr (.inr ⟨by omega,lo,power' n (2*0+lo) (2*0+lo+lo+min (n-lo) (minRun' n n 0)) n,0,by omega,by omega,old s1 o2.l,by rw[hRe,show lo+(n-lo)=n by omega] at s2;exact s2,?_⟩)⟩))))
     show((pendingOf st3).modify ((pendingOf st3).size-1) _).push _=_
     rw[hpd2,hRe]
     apply Array.toList_inj.mp
     simp[Array.modify]
     rfl
   ·omega
  ·rw[if_neg q2]
   obtain⟨st2,e2⟩:∃ st2,st2=st0:=⟨_,rfl⟩
   rw[← e2] at o0 s0 ⊢
   have o2:=o0
   have s2:=s0
   refine wpS_bind (wpS_get ?_)
   rcases hc with⟨l0,hpd⟩ | ⟨l1,l2,l3,s1,p1,hpd⟩ | ⟨l0,_⟩
   ·subst l0
    rw[o2.p,hpd]
    refine wpS_bind (wpS_modify (wpS_pure ⟨⟨o2.t.z,o2.t.p,o2.t.i,o2.t.k,o2.t.f⟩,_,rfl,by omega,.inr (.inl ⟨by omega,by omega,by omega,by rw[Nat.zero_add] at s2 ⊢;exact s2,0,?_⟩)⟩))
    show(pendingOf st2).push _=_
    rw[o2.p,hpd,Nat.zero_add]
    rfl
   ·have hRe:fd=n-lo:=by omega
    have hpd2:pendingOf st2 = #[(0,lo,p1)]:=o2.p.trans hpd
    rw[hpd2]
    refine wpS_bind (wpS_mono (wpS_forRange (I:=fun _ c st'=>st'=st2∧c=(none,())) (Q:=fun c st'=>st'=st2∧c=(none,())) ?_ (fun _ _ h=>h) ⟨rfl,rfl⟩) ?_)
    ·rintro j c st3 _ hj ⟨rfl,rfl⟩
     refine wpS_bind (wpS_get ?_)
     rw[hpd2]
     exact wpS_pure ⟨rfl,rfl⟩
    ·rintro c st3 ⟨rfl,rfl⟩
     refine wpS_bind (wpS_modify (wpS_bind (wpS_modify (wpS_pure ⟨⟨o2.t.z,o2.t.p,o2.t.i,o2.t.k,o2.t.f⟩,_,rfl,by omega,.inr (.inr ⟨by omega,lo,power' n (2*0+lo) (2*0+lo+lo+fd) n,0,by omega,by omega,old s1 o2.l,by rw[hRe,show lo+(n-lo)=n by omega] at s2;exact s2,?_⟩)⟩))))
     show((pendingOf st3).modify ((pendingOf st3).size-1) _).push _=_
     rw[hpd2,hRe]
     apply Array.toList_inj.mp
     simp[Array.modify]
     rfl
   ·omega
 ·rintro c st1 ⟨t1,lo,rfl,hil,hc⟩
  refine⟨t1,lo,rfl,?_⟩
  rcases hc with⟨l0,_⟩ | ⟨l1,l2,l3,s1,p1,hpd⟩ | ⟨l0,hpd⟩
  ·omega
  ·have:lo=n:=by omega
   subst this
   exact .inl ⟨s1,p1,hpd⟩
  ·exact .inr hpd
 ·rintro c st1 ⟨t1,lo,rfl,hc⟩
  dsimp only
  refine wpS_bind (wpS_mono (wpS_forRange (I:=fun i c st'=>TB it T κ n st'∧c=(none,())∧((Sg rk st' 0 n∧∃ p1,pendingOf st' = #[(0,n,p1)])∨i=0∧∃ n1 p1 p2,1≤n1∧n1<n∧Sg rk st' 0 n1∧Sg rk st' n1 n∧pendingOf st' = #[(0,n1,p1),(n1,n-n1,p2)])) (Q:=fun c st'=>TB it T κ n st'∧c=(none,())∧Sg rk st' 0 n) ?_ ?_ ⟨t1,rfl,hc.imp id fun x=>⟨rfl,x⟩⟩) ?_)
  ·rintro i c st2 _ hi ⟨t2,rfl,hc⟩
   refine wpS_bind (wpS_get ?_)
   rcases hc with⟨sf,p1,hpd⟩ | ⟨i0,n1,p1,p2,h1,h2,s1,s2,hpd⟩
   ·rw[hpd]
    exact wpS_pure ⟨t2,rfl,sf⟩
   ·rw[hpd]
    refine wpS_bind (uN C t2 hpd h1 h2 s1 s2 fun st3 t3 hp3 sf=>?_)
    exact wpS_pure ⟨t3,rfl,.inl ⟨sf,_,hp3⟩⟩
  ·rintro c st2 ⟨t2,rfl,hc⟩
   rcases hc with⟨sf,_⟩ | ⟨i0,_⟩
   ·exact⟨t2,rfl,sf⟩
   ·omega
  ·rintro c st2 ⟨t2,rfl,sf⟩
   exact wpS_pure (h st2 t2 sf)
end
def PrV (h:Heap) (v:Value) (p:Int×Int):Prop:=∃ x o t u n,v=.ref x∧h.get? x=some o∧o.cls=.type "tuple" ∧ o.data=.seq #[.int p.1 t,.int p.2 u] n
def rkP (p:Int×Int):Int:=p.1*1000+p.2
section
variable {prog:Program}{w:World}{A:Around}{E:Value→Shared→Prop}{s:Shared}
theorem zbe {x y:Value}{p q:Int×Int}(hx:PrV s.heap x p) (hy:PrV s.heap y q) (bp:0≤p.2∧p.2<1000) (bq:0≤q.2∧q.2<1000){Q:Bool→Shared→Prop}(h:Q (decide (rkP p<rkP q)) s):wpAny (model prog w) A (keyLt' (tuples' true) x y) Q E s:=by
 obtain⟨x,o,t,u,n,rfl,ho,_,hd⟩:=hx
 obtain⟨y,o',t',u',n',rfl,ho',_,hd'⟩:=hy
 unfold rkP at h
 refine kat_lt ho hd ho' hd' (kat_cons (wpAny_eqBool_int ?_))
 by_cases e1:p.1=q.1
 ·refine kat_go (fun _=>kat_yes (kat_cons (wpAny_eqBool_int ?_))) fun z=>absurd e1 (by simpa using z)
  by_cases e2:p.2=q.2
  ·refine kat_go (fun _=>kat_yes (kat_nil ?_)) fun z=>absurd e2 (by simpa using z)
   have e:decide (p.1*1000+p.2<q.1*1000+q.2)=false:=decide_eq_false (by omega)
   rw[e] at h
   exact h
  ·refine kat_go (fun z=>absurd (by simpa using z) e2) fun _=>kat_no (kat_one _ _ (lt_int ?_))
   have e:decide (p.1*1000+p.2<q.1*1000+q.2)=decide (p.2<q.2):=decide_eq_decide.mpr (by omega)
   rw[e] at h
   exact h
 ·refine kat_go (fun z=>absurd (by simpa using z) e1) fun _=>kat_no (oneLt_int ?_)
  have e:decide (p.1*1000+p.2<q.1*1000+q.2)=decide (p.1<q.1):=decide_eq_decide.mpr (by omega)
  rw[e] at h
  exact h
theorem Zy:∀ {vs:List Value},(∀ v∈vs,(∃ p,PrV s.heap v p))→∃ fs:List Value,KatTups s.heap vs fs∧fs.length=vs.length∧∀ f∈fs,∃ i t,f=.int i t
 |[],_=>⟨[],.nil,rfl,fun f hf=>by cases hf⟩
 |v::vs,h=>by
  obtain⟨fs,k,hl,hi⟩:=Zy (vs:=vs) fun v hv=>h v (List.mem_cons_of_mem _ hv)
  obtain⟨⟨i,j⟩,x,o,t,u,n,rfl,ho,hc,hd⟩:=h v List.mem_cons_self
  refine⟨.int i t::fs,.cons ho hc hd rfl k,by simp[hl],fun f hf=>?_⟩
  rcases List.mem_cons.mp hf with rfl | hf
  ·exact⟨i,t,rfl⟩
  ·exact hi f hf
theorem Wk {vs:List Value}(h:∀ v∈vs,(∃ p,PrV s.heap v p)) (hne:0<vs.length){Q:SortKind→Shared→Prop}(q:Q (tuples' true) s):wpAny (model prog w) A (keyKind' vs.toArray) Q E s:=by
 obtain⟨fs,k,hl,hi⟩:=Zy h
 refine kat_kind (T:=.type "int") k (by omega) (fun v hv=>?_) rfl q
 obtain⟨i,t,rfl⟩:=hi v hv
 exact Looks.of_pure rfl
theorem v5 {vs:List Value}{p:Keyed}(h:p∈vs.toArray.zip vs.toArray):p.1∈vs∧p.2∈vs:=by
 have h:p∈(vs.toArray.zip vs.toArray).toList:=Array.mem_def.mp h
 rw[Array.toList_zip] at h
 obtain⟨a,b⟩:=p
 exact List.of_mem_zip h
theorem PrV.keeps {h h':Heap}{v:Value}{p:Int×Int}(q:PrV h v p) (k:∀ b o,h.get? b=some o→o.cls=.type "tuple" → h'.get? b=some o):PrV h' v p:=by
 obtain⟨x,o,t,u,n,e,ho,hc,hd⟩:=q
 exact⟨x,o,t,u,n,e,k _ _ ho hc,hc,hd⟩
theorem uD:∀ vs:List Value,(vs.toArray.zip vs.toArray).toList.map (fun p:Keyed=>p.2)=vs:=fun vs=>by
 rw[Array.toList_zip]
 exact List.map_snd_zip (Nat.le_refl _)
theorem vH {vs:List Value}{p:Keyed}(h:p∈(vs.toArray.zip vs.toArray).toList):p.1=p.2:=by
 rw[Array.toList_zip] at h
 obtain⟨i,hi,e⟩:=List.getElem_of_mem h
 rw[List.getElem_zip] at e
 rw[← e]
theorem Wj {vs:List Value}{val:Value→Int×Int}(h:∀ v∈vs,PrV s.heap v (val v)) (hb:∀ v∈vs,0≤(val v).2∧(val v).2<1000) (h2:2≤vs.length) (h66:vs.length≤66){Q:Unit→SortSt→Prop}
  (q:∀ st':SortSt,failedOf st'=none→((arrOf st').map (·.2)).toList.Perm vs→((arrOf st').map (·.2)).toList.Pairwise (fun x y=>rkP (val x)≤rkP (val y))→Q () st') :
  wpS (model prog w) A E s sortRuns' Q (SortSt.mk' (tuples' true) (vs.toArray.zip vs.toArray) #[] 7 none):=by
 have hz:(vs.toArray.zip vs.toArray).size=vs.length:=by simp
 refine W7 (it:=(vs.toArray.zip vs.toArray).toList) (T:=(vs.toArray.zip vs.toArray).toList) (κ:=tuples' true) (n:=vs.length) (rk:=fun v=>rkP (val v)) (fun x hx y hy Q E hq=>?_) ⟨hz,List.Perm.refl _,fun x hx=>Array.mem_def.mp hx,rfl,rfl⟩ rfl h2 h66 fun st' t sg=>q st' t.f ?_ ?_
 ·have mx:=(v5 (Array.mem_def.mpr hx)).1
  have my:=(v5 (Array.mem_def.mpr hy)).1
  exact zbe (h _ mx) (h _ my) (hb _ mx) (hb _ my) hq
 ·rw[Array.toList_map]
  have:=t.p.map (fun p:Keyed=>p.2)
  rw[uD] at this
  exact this
 ·rw[Array.toList_map,List.pairwise_map]
  have sa:SA (fun v=>rkP (val v)) (arrOf st').toList:=Sg.sa (by rw[t.z];exact sg)
  refine sa.imp_of_mem fun {x y} hx hy hxy=>?_
  rw[← vH (t.p.mem_iff.mp hx),← vH (t.p.mem_iff.mp hy)]
  exact hxy
theorem uo {a:Addr}{vs:List Value}{n:Nat}{P:PySem.Fin→Shared→Prop}(ho:s.heap.get? a=some (seqObj "list" vs.toArray n)){val:Value→Int×Int}(hp:∀ v∈vs,PrV s.heap v (val v)) (hb:∀ v∈vs,0≤(val v).2∧(val v).2<1000) (h66:vs.length≤66)
  (h:∀ o:Array Value,o.toList.Perm vs→o.toList.Pairwise (fun x y=>rkP (val x)≤rkP (val y))→P (.done (.ret .none)) { s with heap:=sortedHeap s.heap a vs o }):wpAny (model prog w) A (Builtin.«list.sort» ⟨[.ref a],[]⟩) P E s:=by
 have big:66≤sizeLine:=by decide
 have ha:=Heap.lt_size ho
 rw[list_sort_plain]
 refine wpAny_bind (listItems_at ho rfl (wpAny_bind (listUpdate_at ho rfl ?_ (by simp;omega) (Nat.zero_le _))))
 have o1:=get?_update_seq ho (fun _=>(#[]:Array Value))
 refine wpAny_bind (seqEpoch_at o1 rfl (wpAny_bind (wpAny_newTuple (wpAny_bind (wpAny_newList (wpAny_holding ?_) (Nat.zero_le _))) (by show vs.length≤_;omega))))
 generalize hH:Heap.push (Heap.push (s.heap.update a (Obj.mapSeq fun _=>(#[]:Array Value))) (seqObj "tuple" vs.toArray 0)) (seqObj "list" #[] 0)=H6
 have hs:∀ o:Array Value,sortedHeap s.heap a vs o=H6.update a (Obj.mapSeq fun _=>o):=fun o=>by rw[← hH];rfl
 have o6:=Heap.get?_push_of_some (seqObj "list" #[] 0) (Heap.get?_push_of_some (seqObj "tuple" vs.toArray 0) o1)
 rw[hH] at o6
 have hp6:∀ v∈vs,PrV H6 v (val v):=fun v hv=>(hp v hv).keeps fun b o e hc=>by
  have hb:a≠b:=fun z=>by
   rw[← z,ho] at e
   cases e
   have hc:Value.type "list" = .type "tuple" := hc
   injection hc with hc
   exact absurd hc (by decide)
  rw[← hH]
  refine Heap.get?_push_of_some _ (Heap.get?_push_of_some _ ?_)
  rw[Heap.get?_update_other _ _ hb]
  exact e
 have e6:({ s with heap:=Heap.push (Heap.push (s.heap.update a (Obj.mapSeq fun _=>(#[]:Array Value))) (seqObj "tuple" vs.toArray 0)) (seqObj "list" #[] 0) }:Shared)={ s with heap:=H6 }:=by rw[hH]
 refine(show wpAny (model prog w) A _ P E { s with heap:=H6 } from ?_)
 dsimp only
 have hz0:((vs.toArray.zip vs.toArray).map (fun p:Keyed=>p.2)).size=vs.length:=by simp
 by_cases q:vs.toArray.size<2
 ·rw[if_pos q,if_pos q]
  refine wpAny_bind (wpAny_pure ?_)
  rw[StateT.run_pure]
  refine wpAny_bind (wpAny_pure (wpAny_bind (seqEpoch_at o6 rfl (wpAny_bind (listUpdate_at o6 rfl ?_ (Nat.zero_le _) (by show((vs.toArray.zip vs.toArray).map (fun p:Keyed=>p.2)).size≤_;omega))))))
  simp only[bne_self_eq_false,Bool.false_eq_true,if_false]
  refine wpAny_pure ?_
  rw[← hs]
  have e:((vs.toArray.zip vs.toArray).map (fun p:Keyed=>p.2)).toList=vs:=by rw[Array.toList_map];exact uD vs
  refine h _ (by rw[e]) ?_
  rw[e]
  have q:vs.length<2:=by simpa using q
  match vs,q with
  |[],_=>exact List.Pairwise.nil
  |[x],_=>exact List.pairwise_singleton _ _
 ·rw[if_neg q,if_neg q]
  have q:2≤vs.length:=by simp at q;omega
  refine wpAny_bind (Wk (fun v hv=>⟨_,hp6 v hv⟩) (by omega) ?_)
  refine wpAny_bind (wpAny_mono (Wj (s:={ s with heap:=H6 }) hp6 hb q h66 (Q:=fun _ st'=>failedOf st'=none∧((arrOf st').map (·.2)).toList.Perm vs∧((arrOf st').map (·.2)).toList.Pairwise (fun x y=>rkP (val x)≤rkP (val y))) fun st' a1 a2 a3=>⟨a1,a2,a3⟩) ?_ fun _ _ e=>e)
  rintro⟨⟨⟩,st'⟩ s' ⟨rfl,hf,hz,hm⟩
  have hz':((arrOf st').map (·.2)).size=vs.length:=by rw[← Array.length_toList,hz.length_eq]
  refine wpAny_bind (seqEpoch_at o6 rfl (wpAny_bind (listUpdate_at o6 rfl ?_ (Nat.zero_le _) (by show((arrOf st').map (·.2)).size≤_;omega))))
  rw[hf]
  simp only[bne_self_eq_false,Bool.false_eq_true,if_false]
  refine wpAny_pure ?_
  rw[← hs]
  exact h _ hz hm
theorem wJ {l:Addr}{vs:List Value}{Q:Value→Shared→Prop}(hl:s.heap.IsList l vs.toArray){val:Value→Int×Int}(hp:∀ v∈vs,PrV s.heap v (val v)) (hb:∀ v∈vs,0≤(val v).2∧(val v).2<1000) (h66:vs.length≤66)
  (h:∀ o:Array Value,o.toList.Perm vs→o.toList.Pairwise (fun x y=>rkP (val x)≤rkP (val y))→Q (.ref (s.heap.objs.size+1)) { s with heap:=sortedAll s.heap vs o }):wpAny (model prog w) A (call (.builtin "sorted") [.ref l]) Q E s:=by
 have big:66≤sizeLine:=by decide
 refine Calls.call_function_entry kind_sorted plain_sorted entry_sorted (args_sorted1 _) ?_
 unfold Builtin.«sorted»
 refine wpAny_bind (m:=checkCount "sorted" 1 1 _) (wpAny_pure (wpAny_bind (collect_list hl (wpAny_bind (wpAny_newList ?_ (by show vs.length≤_;omega))) (by omega))))
 have hz:(Heap.update (Heap.push s.heap (seqObj "list" #[] 0)) s.heap.objs.size (Obj.mapSeq fun x=>x++vs.toArray)).objs.size=s.heap.objs.size+1:=(Heap.size_update _ _ _).trans (size_push' _ _)
 have hk:∀ b o,s.heap.get? b=some o→(Heap.push (Heap.update (Heap.push s.heap (seqObj "list" #[] 0)) s.heap.objs.size (Obj.mapSeq fun x=>x++vs.toArray)) (seqObj "list" vs.toArray 0)).get? b=some o:=fun b o e=>by
  refine Heap.get?_push_of_some _ ?_
  rw[Heap.get?_update_other _ _ (Nat.ne_of_gt (Heap.lt_size e))]
  exact Heap.get?_push_of_some _ e
 have ho:=Heap.get?_push_size (Heap.update (Heap.push s.heap (seqObj "list" #[] 0)) s.heap.objs.size (Obj.mapSeq fun x=>x++vs.toArray)) (o:=seqObj "list" vs.toArray 0) rfl
 refine(show wpAny _ _ _ _ _ { s with heap:=Heap.push (Heap.update (Heap.push s.heap (seqObj "list" #[] 0)) s.heap.objs.size (Obj.mapSeq fun x=>x++vs.toArray)) (seqObj "list" vs.toArray 0) } from ?_)
 rw[hz] at ho ⊢
 refine wpAny_bind (wpAny_holding (wpAny_call_entry slot_list_sort ⟨_,ho,rfl⟩ entry_list_sort ?_ (args_list_sort _)))
 refine uo ho (fun v hv=>(hp v hv).keeps fun b o e _=>hk b o e) hb h66 fun o z m=>⟨_,rfl,wpAny_pure ⟨_,rfl,h o z m⟩⟩
end
section
variable {X:Cx}
abbrev PT:=Addr×Int×Int
theorem ZE {α β:Type}{f:α→β}:∀ {l m:List β},l.Perm m→∀ ps:List α,ps.map f=m→∃ qs:List α,qs.Perm ps∧qs.map f=l:=by
 intro l m h
 induction h with
 |nil =>
  intro ps e
  exact⟨ps,List.Perm.refl _,e⟩
 | @cons x l m _ ih =>
  intro ps e
  cases ps with
  |nil=>cases e
  |cons p ps =>
   rw[List.map_cons] at e
   injection e with e1 e2
   obtain⟨qs,h1,h2⟩:=ih ps e2
   exact⟨p::qs,h1.cons p,by rw[List.map_cons,h2,e1]⟩
 |swap x y l =>
  intro ps e
  match ps,e with
  |p::q::ps,e =>
   rw[List.map_cons,List.map_cons] at e
   injection e with e1 e2
   injection e2 with e2 e3
   exact⟨q::p::ps,List.Perm.swap _ _ _,by rw[List.map_cons,List.map_cons,e1,e2,e3]⟩
 |trans _ _ ih1 ih2 =>
  intro ps e
  obtain⟨qs,h1,h2⟩:=ih2 ps e
  obtain⟨rs,h3,h4⟩:=ih1 qs h2
  exact⟨rs,h3.trans h1,h4⟩
def vlH (H:Hp):Value→Int×Int
 |.ref a=>match H a with
  |some (.tup [.int i,.int j])=>(i,j)
  |_=>(0,0)
 |_=>(0,0)
def PsAt (H:Hp) (ps:List PT):Prop:=∀ p∈ps,H p.1=some (.tup [.int p.2.1,.int p.2.2])∧0≤p.2.2∧p.2.2<1000
theorem PsAt.vl {H:Hp}{ps:List PT}(h:PsAt H ps){p:PT}(hp:p∈ps):vlH H (.ref p.1)=p.2:=by
 show(match H p.1 with
  |some (.tup [.int i,.int j])=>(i,j)
  |_=>(0,0))=p.2
 rw[(h p hp).1]
theorem PsAt.prv {pins:List (Addr×Obj)}{σ:St}{H:Hp}{s:Shared}{ps:List PT}(I:Inv X pins σ H s) (h:PsAt H ps):∀ v∈ps.map (fun p=>Value.ref p.1),PrV s.heap v (vlH H v):=fun v hv=>by
 obtain⟨p,hp,rfl⟩:=List.mem_map.mp hv
 rw[h.vl hp]
 obtain⟨_,vs,rr,ob,e1,e2,n,e3⟩:=(show ObjOk X.prog X.w H s.heap p.1 (.tup [.int p.2.1,.int p.2.2]) from I.hok p.1 _ (h p hp).1)
 cases rr with
 |cons r1 rr =>
  cases rr with
  |cons r2 rr =>
   cases rr
   obtain⟨t1,rfl⟩:=r1
   obtain⟨t2,rfl⟩:=r2
   exact⟨p.1,ob,t1,t2,n,rfl,e1,e2,e3⟩
theorem wD:∀ {ps:List PT}{us:List Value},Vals (ps.map fun p=>V.ref p.1) us→us=ps.map fun p=>Value.ref p.1
 |[],_,h=>by cases h;rfl
 |p::ps,_,h=>by
  cases h with
  |cons r t =>
   cases r
   rw[List.map_cons,wD t]
theorem wL:∀ (ps:List PT),Vals (ps.map fun p=>V.ref p.1) (ps.map fun p=>Value.ref p.1)
 |[]=>.nil
 |p::ps=>.cons rfl (wL ps)
def Vr (K:PySem.W.Frag):List V→Hp→VK→Prop:=fun xs H Q=>∃ (a:Addr) (ps:List PT),xs=[V.ref a]∧SqL K H a (ps.map fun p=>V.ref p.1)∧ps.length≤66∧PsAt H ps ∧
 ∀ (l:Addr) (qs:List PT),H l=none→qs.Perm ps→qs.Pairwise (fun x y=>rkP x.2≤rkP y.2)→Q (.ref l) (upd H l (.lst (qs.map fun p=>V.ref p.1)))
theorem Zv {H:Hp}{ps:List PT}(h:PsAt H ps){o:Array Value}(po:o.toList.Perm (ps.map fun p=>Value.ref p.1)) (so:o.toList.Pairwise (fun x y=>rkP (vlH H x)≤rkP (vlH H y))):∃ qs:List PT,qs.Perm ps∧qs.Pairwise (fun x y=>rkP x.2≤rkP y.2)∧o.toList=qs.map fun p=>Value.ref p.1:=by
 obtain⟨qs,h1,h2⟩:=ZE po ps rfl
 refine⟨qs,h1,?_,h2.symm⟩
 rw[← h2,List.pairwise_map] at so
 refine so.imp_of_mem fun {x y} hx hy hxy=>?_
 rw[h.vl (h1.mem_iff.mp hx),h.vl (h1.mem_iff.mp hy)] at hxy
 exact hxy
theorem call_sortX:yY X (.builtin "sorted") (Vr X.K):=by
 intro pins s σ H xs us Q I r h
 obtain⟨a,ps,rfl,ha,h66,hy,q⟩:=h
 obtain⟨u,rfl,ru⟩:=r.one
 cases ru
 obtain⟨its,rv,p,hz⟩:=I.list ha
 have hl:=wD rv
 subst hl
 refine wJ p.isList (hy.prv I) (fun v hv=>?_) (by rw[List.length_map];exact h66) fun o z m=>?_
 ·obtain⟨p,hp,rfl⟩:=List.mem_map.mp hv
  rw[hy.vl hp]
  exact(hy p hp).2
 ·obtain⟨qs,h1,h2,h3⟩:=Zv hy z m
  have hn:H (s.heap.objs.size+1)=none:=I.hok.fresh (Nat.le_succ _)
  obtain⟨c,hc⟩:=sortedAll_at s.heap (ps.map fun p=>Value.ref p.1) o
  refine⟨.ref _,_,I.laid (a:=s.heap.objs.size+1) (o:=.lst (qs.map fun p=>V.ref p.1)) (t':=s.toks) (fun _ _ e=>sortedAll_old e) (Nat.le_succ _) ⟨by rw[List.length_map,h1.length_eq];rw[List.length_map] at hz;exact hz,o.toList,c,by rw[h3];exact wL qs,hc⟩,rfl,q _ qs hn h1 h2⟩
end
end Sco
end L2
namespace L2
open PySem PySem.Spec PyProof.Rows
def Uh (h:Heap) (d:Addr) (es:Array DictEntry) (ep:Nat):Prop:=∃ o,h.get? d=some o∧o.ExactDict∧o.data=.dict es ep
def KIt (h:Heap) (it d:Addr) (i n ep:Nat):Prop:=h.get? it=some { cls:=.type "dict_keyiterator",data:=.fields #[.ref d,.int i 0,.int n 0,.int ep 0] }
section
variable {prog:Program}{w:World}{A:Around}{E:Value→Shared→Prop}{s:Shared}
theorem XV {it d:Addr}{i ep:Nat}{es:Array DictEntry}{e:DictEntry}{Q:PySem.Fin→Shared→Prop}(hi:KIt s.heap it d i es.size ep) (hd:Uh s.heap d es ep) (he:es[i]?=some e)
  (h:∀ h',KIt h' it d (i+1) es.size ep→Heap.SameBut it s.heap h'→Q (.done (.ret e.key)) { s with heap:=h' }):wpAny (model prog w) A (Builtin.«dict_keyiterator.__next__» ⟨[.ref it],[]⟩) Q E s:=by
 obtain⟨⟨c,dct,dat,sl⟩,ho,ex,hdat⟩:=hd
 cases hdat
 have hT:s.TypeIs (.ref it) "dict_keyiterator" := ⟨_,hi,rfl⟩
 refine wpAny_bind (m:=Builtin.Dict_items.slot0 "__next__" _) (wpAny_pure ?_)
 refine wpAny_bind ?_
 refine wpAny_bind ?_
 have z1:((es.size:Int) != (es.size:Int))=false:=by simp
 have z2:((ep:Int) != (ep:Int))=false:=by simp
 repeat (any_goals (first | assumption | (simp only[z1,z2,Bool.false_eq_true,if_false]) | wp_step))
 have z3:(if (i:Int)<0 then none else es[((i:Int)).toNat]?)=some e:=by
  rw[if_neg (by omega)]
  exact he
 rw[z3]
 refine wpAny_bind ?_
 refine wpAny_bind (m:=typeNameOfWhole (.ref it)) ?_
 repeat (any_goals (first | assumption | wp_step))
 refine h _ ((Heap.get?_update_self _ hi (by kernel_rfl)).trans (congrArg some ?_)) ⟨Heap.size_update _ _ _,fun b hb=>Heap.get?_update_ne _ _ _ _ hb⟩
 kernel_rfl
theorem W4 {it d:Addr}{ep:Nat}{es:Array DictEntry}{Q:PySem.Fin→Shared→Prop}(hh:A.handled=none){i:Nat}(hi:KIt s.heap it d i es.size ep) (hle:es.size≤i) (hd:Uh s.heap d es ep)
  (h:∀ h' e,Heap.ExtBut it s.heap h'→(∃ o,h'.get? e=some o∧o.cls=.type "StopIteration")→E (.ref e) { s with heap:=h' }):wpAny (model prog w) A (Builtin.«dict_keyiterator.__next__» ⟨[.ref it],[]⟩) Q E s:=by
 obtain⟨⟨c,dct,dat,sl⟩,ho,ex,hdat⟩:=hd
 cases hdat
 have hT:s.TypeIs (.ref it) "dict_keyiterator" := ⟨_,hi,rfl⟩
 refine wpAny_bind (m:=Builtin.Dict_items.slot0 "__next__" _) (wpAny_pure ?_)
 refine wpAny_bind ?_
 refine wpAny_bind ?_
 have z1:((es.size:Int) != (es.size:Int))=false:=by simp
 have z2:((ep:Int) != (ep:Int))=false:=by simp
 repeat (any_goals (first | assumption | (simp only[z1,z2,Bool.false_eq_true,if_false]) | wp_step))
 have z3:(if (i:Int)<0 then none else es[((i:Int)).toNat]?)=none:=by
  rw[if_neg (by omega)]
  show es[i]?=none
  simp[hle]
 rw[z3]
 refine wpAny_bind ?_
 refine wpAny_bind (m:=typeNameOfWhole (.ref it)) ?_
 repeat (any_goals (first | assumption | wp_step))
 refine wpAny_raiseNew_none hh ?_
 refine h _ _ (fun b o hb e=>?_) ⟨_,Heap.get?_push_size _ rfl,rfl⟩
 exact Heap.get?_push_of_some _ (Heap.get?_push_of_some _ ((Heap.get?_update_ne _ _ _ _ hb).trans e))
theorem uI {it d:Addr}{i ep:Nat}{es:Array DictEntry}{e:DictEntry}{Q:Option Value→Shared→Prop}(hi:KIt s.heap it d i es.size ep) (hd:Uh s.heap d es ep) (he:es[i]?=some e)
  (h:∀ h',KIt h' it d (i+1) es.size ep→Heap.SameBut it s.heap h'→Q (some e.key) { s with heap:=h' }):wpAny (model prog w) A (pyNext (.ref it)) Q E s:=by
 have hT:s.TypeIs (.ref it) "dict_keyiterator" := ⟨_,hi,rfl⟩
 unfold pyNext
 exact wpAny_bind (wpAny_attempt (wpAny_callSpecial?_slot (name:=Str.ofString "__next__") hT F.slot_dict_keyiterator_next (wpAny_call_entry F.slot_dict_keyiterator_next hT F.entry_dict_keyiterator_next (XV hi hd he fun h' a1 a2=>⟨_,rfl,wpAny_pure (h h' a1 a2)⟩) (F.args_dict_keyiterator_next_1 _))))
theorem Yy {it d:Addr}{ep:Nat}{es:Array DictEntry}{Q:Option Value→Shared→Prop}(hh:A.handled=none){i:Nat}(hi:KIt s.heap it d i es.size ep) (hle:es.size≤i) (hd:Uh s.heap d es ep)
  (h:∀ h',Heap.ExtBut it s.heap h'→Q none { s with heap:=h' }):wpAny (model prog w) A (pyNext (.ref it)) Q E s:=by
 have hT:s.TypeIs (.ref it) "dict_keyiterator" := ⟨_,hi,rfl⟩
 unfold pyNext
 refine wpAny_bind (wpAny_attempt (wpAny_callSpecial?_slot (name:=Str.ofString "__next__") hT F.slot_dict_keyiterator_next (wpAny_call_entry F.slot_dict_keyiterator_next hT F.entry_dict_keyiterator_next (W4 hh hi hle hd fun h' e hk he=>?_) (F.args_dict_keyiterator_next_1 _))))
 obtain⟨o,ho,hc⟩:=he
 exact wpAny_bind (wpAny_isInstance (T := "StopIteration") (b:=true) ⟨o,ho,hc⟩ isSubtype_stop (wpAny_pure (h _ hk)))
theorem XW {d:Addr}{ep:Nat}{es:Array DictEntry}{Q:Value→Shared→Prop}(hd:Uh s.heap d es ep) (hm:(d == sysModules)=false)
  (q:Q (.ref s.heap.objs.size) { s with heap:=s.heap.push { cls:=.type "dict_keyiterator",data:=.fields #[.ref d,.int 0 0,.int es.size 0,.int ep 0] } }):wpAny (model prog w) A (pyIter (.ref d)) Q E s:=by
 obtain⟨⟨c,dct,dat,sl⟩,ho,ex,hdat⟩:=hd
 cases hdat
 have hT:s.TypeIs (.ref d) "dict" := ⟨_,ho,ex.1⟩
 refine wpAny_pyIter_slot hT F.slot_dict_iter (wpAny_call_entry F.slot_dict_iter hT F.entry_dict_iter ?_ (F.args_dict_iter_1 _))
 unfold Builtin.«dict.__iter__»
 refine wpAny_bind ?_
 unfold Builtin.Dict.dictSlotNone
 refine wpAny_bind (wpAny_notOrdered_dict hT ?_)
 show wpAny _ _ (pure (Value.ref d)) _ _ _
 refine wpAny_pure ?_
 have e:Builtin.Dict.showsAll d=pure ():=by
  unfold Builtin.Dict.showsAll
  rw[if_neg (by rw[hm];simp)]
 refine wpAny_bind (m:=Builtin.Dict.addrOf (.ref d)) (wpAny_pure ?_)
 rw[e]
 repeat (any_goals (first | assumption | wp_step))
 refine⟨_,rfl, "dict_keyiterator",_,⟨_,Heap.get?_push_size _ rfl,rfl⟩,F.slot_dict_keyiterator_next.lookup,?_⟩
 exact q
end
section
variable {X:Cx}{pins:List (Addr×Obj)}{σ:St}{H G:Hp}{s:Shared}{d:Addr}{od:Obj}{kvs:List (List Key×V)}
theorem Inv.frozT (I:Inv X pins σ H s) (e:H d=some (.dT kvs)) (q0:s.heap.get? d=some od):Inv X pins σ (upd H d (.frz od (.dT kvs))) s:=by
 have ne:∀ {b:Addr}{o:HO},H b=some o→(∀ kvs,o≠.dT kvs)→upd H d (.frz od (.dT kvs)) b=some o:=fun {b o} q n=>by
  rw[upd_ne (fun z=>by rw[z,e] at q;injection q with q;exact n _ q.symm)];exact q
 have no:∀ {b:Addr},H b=none→upd H d (.frz od (.dT kvs)) b=none:=fun {b} q=>by
  rw[upd_ne (fun z=>by rw[z,e] at q;cases q)];exact q
 refine⟨I.ok,I.os,I.bare,⟨I.base.keep,I.base.slot,fun b o q n x=>no (I.base.free b o q n x),I.base.there,fun b xs q=>ne (I.base.tups b xs q) (fun _ z=>by cases z),fun b o u q=>ne (I.base.frzs b o u q) (fun _ z=>by cases z),fun b ps q=>?_⟩,I.loc,I.cell,no I.free,fun x c q=>no (I.freeC x c q),fun p hp=>?_,fun b o q=>?_,I.len⟩
 ·obtain⟨m,q⟩:=I.base.tbls b ps q
  exact⟨m,ne q (fun _ z=>by cases z)⟩
 ·obtain⟨p1,p2,p3⟩:=I.pin p hp
  exact⟨p1,no p2,p3⟩
 ·have st:∀ {b:Addr}{o:HO},H b=some o→ObjOk X.prog X.w (upd H d (.frz od (.dT kvs))) s.heap b o:=fun {b o} q=>(I.hok b o q).stay (fun c u _ q=>q) (fun c q=>ne q (fun _ z=>by cases z)) fun c xs q=>ne q (fun _ z=>by cases z)
  by_cases c:b=d
  ·subst c
   rw[upd_same] at q
   cases q
   exact⟨q0,st e⟩
  ·rw[upd_ne c] at q
   exact st q
def ItT (d:Addr) (od:Obj) (kvs:List (List Key×V)):It :=
 ⟨fun i H=>H d=some (.frz od (.dT kvs))∧i<kvs.length,fun i H x H'=>H'=H∧∃ kv b,kvs[i]?=some kv∧x=.ref b∧H b=some (.tup (kv.1.map kV)),fun i H=>H d=some (.frz od (.dT kvs))∧kvs.length≤i⟩
theorem KT.getAt {H:Hp}:∀ {kvs:List (List Key×V)}{xs:List (List Key×Addr×Value)},KT H kvs xs→∀ {i:Nat}{p:List Key×V},kvs[i]?=some p→∃ x,xs[i]?=some x∧p.1=x.1∧H x.2.1=some (.tup (p.1.map kV))
 |_,_,.cons h t,0,p,e=>by cases e;exact⟨_,rfl,h.1,h.2.1⟩
 |_,_,.cons h t,i+1,p,e=>by
  obtain⟨x,h1,h2⟩:=KT.getAt t (i:=i) (p:=p) (by simpa using e)
  exact⟨x,by simpa using h1,h2⟩
 |_,_,.nil,i,p,e=>by simp at e
theorem vg {P:Program}{w:World}{K:PySem.W.Frag}{tg:Expr}{it d:Addr}{od:Obj}{kvs:List (List Key×V)}{es:Array DictEntry}{ep:Nat}(hed:od.ExactDict) (hda:od.data=.dict es ep) (hle:es.size=kvs.length) :
  Turn P w K tg (ItT d od kvs) [it] it (fun i h=>KIt h it d i es.size ep) where
 mem:=by simp
 obj:=fun i h o1 b hb=>by
  rw[List.mem_singleton.mp hb]
  exact⟨_,o1,fun v z=>by
   have z':Data.fields _=Data.cell v:=z
   cases z'⟩
 keep:=fun i h h' st k=>k it (by simp) _ st
 item:=by
  intro X hP hw hK hc i pins s σ H E I hf st hg
  subst hP hw hK
  obtain⟨f0,f1,f2,f3,f4,f5⟩:=hf it (by simp)
  obtain⟨d3,d4⟩:=I.hok d _ hg.1
  have hx:kvs[i]?=some (kvs[i]'hg.2):=List.getElem?_eq_getElem hg.2
  obtain⟨z,y,xs,rel,o,es2,ep2,h1,h2,h3,h4,h5⟩:=(show ObjOk X.prog X.w H s.heap d (.dT kvs) from d4)
  rw[d3] at h1
  cases h1
  rw[hda] at h3
  cases h3
  obtain⟨x,hxi,e1,e2⟩:=KT.getAt rel hx
  have he:es[i]?=some (entryOfKey (tupleKind (zA X.prog X.w)) x):=by
   rw[← Array.getElem?_toList,h4,List.getElem?_map,hxi]
   rfl
  refine uI st ⟨od,d3,hed,hda⟩ he fun h' st4 sb=>?_
  refine⟨_,rfl,Yb (s:={ s with heap:=h' }) (n := "dict_keyiterator") st4 rfl rfl (by decide) ⟨.ref x.2.1,H,I.turned (t':=s.toks) (fun b o hb q=>sb.extBut b o hb q) f0 f1 f3 f4 f5,rfl,⟨rfl,_,x.2.1,hx,rfl,e2⟩,st4,fun b hb=>(hf b hb).1⟩⟩
 done:=by
  intro X hP hw hK hc i pins s σ H E I hf st hg
  subst hP hw hK
  obtain⟨f0,f1,f2,f3,f4,f5⟩:=hf it (by simp)
  have d3:=(I.hok d _ hg.1).1
  exact Yy (I.ok.hd hc) st (by have:=hg.2;omega) ⟨od,d3,hed,hda⟩ fun h' kk=>⟨rfl,I.turned (t':=s.toks) (fun b o hb q=>kk b o hb q) f0 f1 f3 f4 f5⟩
 self:=fun _ i s _ _ st h=>wpAny_pyIter_keyiter (it:=it) (d:=d) (i:=i) (n:=es.size) (ep:=ep) ⟨_,st,rfl,rfl⟩ h
def zg2 (td:TE):TI:=fun σ H R=>td σ H fun x H1=>∃ (d:Addr) (kvs:List (List Key×V)),x=.ref d∧H1 d=some (.dT kvs)∧∀ od:Obj,R (ItT d od kvs) (upd H1 d (.frz od (.dT kvs)))
theorem ZB {tg l:Expr}{td:TE}(hl:PE X l td):PI X tg l (zg2 td):=by
 intro pins s σ H R I h
 refine thn (hl pins s σ H _ I h) fun v s1 hq0=>?_
 obtain⟨x,H1,I1,rx,d,kvs,ex,e,q⟩:=hq0
 subst ex
 obtain rfl:v=Value.ref d:=rx
 obtain⟨z,hd,xs,rel,dd⟩:=WJ I1.hok e
 obtain⟨od,es',ep,q1,q2,q3,q4,q5,q6⟩:=dd
 refine XW ⟨od,q1,q2,q3⟩ hd ?_
 have I1f:=I1.frozT e q1
 have hle:es'.size=kvs.length:=by
  rw[← Array.length_toList,q4,List.length_map]
  exact(Paired.length rel).symm
 refine⟨_,[s1.heap.objs.size],_,_,_,rfl,I1f.kept (t':=s1.toks) fun b u q=>Heap.get?_push_of_some _ q,vg q2 q3 hle,Heap.get?_push_size _ rfl,fun b hb=>?_,q od⟩
 rw[List.mem_singleton.mp hb]
 exact I1f.fpOk (Nat.le_refl _) (I1f.hok.fresh (Nat.le_refl _))
end
theorem for_keysT {d:Addr}{od:Obj}{kvs:List (List Key×V)}{g:TG}{tb:TS}{D:Ends}{σ:St}{H:Hp}(Pv:Nat→St→Hp→Prop) (h0:Pv 0 σ H) (hf:∀ i σ H,Pv i σ H→H d=some (.frz od (.dT kvs)))
  (hs:∀ i kv b σ H,kvs[i]?=some kv→H b=some (.tup (kv.1.map kV))→Pv i σ H→g (.ref b) σ H fun σ2 H2=>tb { D with nx:=Pv (i+1),ct:=Pv (i+1),bk:=D.nx } σ2 H2) (hd:∀ σ H,Pv kvs.length σ H→D.nx σ H) :
  ∃ W:Nat→Nat→St→Hp→Prop,(∃ m,W 0 m σ H)∧∀ i m σ H,W i m σ H →
   ((ItT d od kvs).stop i H∧D.nx σ H)∨((ItT d od kvs).go i H∧∃ N:St→Hp→Prop,(∀ σ' H',N σ' H'→∃ m',m'<m∧W (i+1) m' σ' H')∧∀ x H',(ItT d od kvs).yld i H x H'→g x σ H' fun σ2 H2=>tb { D with nx:=N,ct:=N,bk:=D.nx } σ2 H2):=by
 refine⟨fun i m σ H=>m=kvs.length-i∧i≤kvs.length∧Pv i σ H,⟨_,rfl,Nat.zero_le _,h0⟩,?_⟩
 rintro i m σ H ⟨rfl,hi,p⟩
 by_cases hlt:i<kvs.length
 ·refine .inr ⟨⟨hf i σ H p,hlt⟩,Pv (i+1),fun σ' H' p'=>⟨_,by omega,rfl,hlt,p'⟩,fun x H' y=>?_⟩
  obtain⟨rfl,kv,b,hk,rfl,hb⟩:=y
  exact hs i kv b σ _ hk hb p
 ·have e:i=kvs.length:=by omega
  subst e
  exact .inl ⟨⟨hf _ σ H p,Nat.le_refl _⟩,hd σ H p⟩
section
variable {X:Cx}{pins:List (Addr×Obj)}{σ:St}{H G:Hp}{s:Shared}{d:Addr}{od:Obj}{kvs:List (Key×V)}
theorem uF {e:Expr}{t:TE}(h:Bx (PE X e t)):Bx (PE X e (zdP X.H₀ t)):=⟨Wm h.of⟩
theorem xD {st:Stmt}{t:TS}(h:Bx (PS X st t)):Bx (PS X st (zdO X.H₀ t)):=⟨Wi h.of⟩
theorem yU {o:Expr}{es:List Expr}{n:Nat}{tp:Pos}{td:TE}{apos cpos:Pos}(ho:Bx (PE X o td)) (hbase:attributeBase o "items" X.env (eval o X.env)=eval o X.env:=by rfl) (hline:(apos.endLine == cpos.line)=true:=by rfl):Bx (PI X (.Tuple es n tp) (.Call (.Attribute o "items" apos) [] [] cpos) (zaJ yI X.H₀ td)):=⟨ZC ho.of hbase hline⟩
theorem ud {tg l:Expr}{td:TE}(hl:Bx (PE X l td)):Bx (PI X tg l (zaJ yK X.H₀ td)):=⟨YJ hl.of⟩
end
section
variable {X:Cx}{o e f:Expr}{apos cpos:Pos}{td ty tx:TE}
theorem uH (hu:X.A.units+1<cLine) (ho:Bx (PE X o td)) (he:Bx (PE X e ty)) (hf:Bx (PE X f tx)) (m:M2 X o "setdefault" apos e f cpos):Bx (PE X (.Call (.Attribute o "setdefault" apos) [e,f] [] cpos) (Vi td ty tx)):=⟨Wp hu ho.of he.of hf.of m⟩
end
section
variable {X:Cx}{pins:List (Addr×Obj)}{σ:St}{H G:Hp}{s:Shared}{d:Addr}{od:Obj}{kvs:List (List Key×V)}
theorem vd {tg l:Expr}{td:TE}(hl:Bx (PE X l td)):Bx (PI X tg l (zg2 td)):=⟨ZB hl.of⟩
end
end L2
namespace L2
open PySem PySem.Spec PyProof.Rows
open PySem.F
section
variable {prog:Program}{w:World}{A:Around}{E:Value→Shared→Prop}{s:Shared}
theorem X7 {l:Addr}{items:Array Value}{ns:List Int}{Q:Value→Shared→Prop}
  (hh:A.handled=none) (hl:s.heap.IsTuple l items) (hi:IntsAre items.toList ns) (hb:items.size+1<scanBound)
  (h:∀ (h':Heap) (tk:Nat) (S:Int→Bool) (n:Nat),h'.SetOf (intKind prog w) s.heap.objs.size S n →
   (∀ b o,b<s.heap.objs.size→s.heap.get? b=some o→h'.get? b=some o)→Q (.ref s.heap.objs.size) { s with heap:=h',toks:=tk }) :
  wpAny (model prog w) A (call (.type "set") [.ref l]) Q E s:=by
 obtain⟨c,tl,hmro⟩:=F.called_set.mro
 have hmade:=F.called_set.made
 have hsub:=F.called_set.sub
 refine wpAny_call (codeAny_of_tree ?_)
 show wpAny _ _ (callAny (.type "set") _) _ _ _
 refine wpAny_pure ⟨Code.quiet_builtin _ (by decide +kernel),codeAny_builtin F.entry_type_call ?_⟩
 rw[Around.under_plain (weight_type_call_type "set" [.ref l] []) rfl]
 have h1:=F.called_set.notType
 have h2:=F.called_set.canCreate
 have hct:=F.typeCall_set_1 (.ref l)
 repeat (any_goals (first | assumption | wp_step))
 refine codeAny_mono (code_set_new_1 (.ref l) (E:=E) (Q₁:=fun obj s₁=>∃ led:Bool,obj=.ref s.heap.objs.size∧s₁={ s with heap:=s.heap.push { cls:=.type "set",dict:=none,data:=.set #[] 0 (.fresh 0 0 led) } }) fun led=>⟨led,rfl,rfl⟩) fun r s₁ hr=>?_
 rcases r with e | fl
 ·exact hr
 rcases fl with obj | _ | _ | _
 all_goals try exact hr.elim
 obtain⟨led,rfl,rfl⟩:=hr
 let so:Obj:={ cls:=.type "set",dict:=none,data:=.set #[] 0 (.fresh 0 0 led) }
 have hS:(s.heap.push so).get? s.heap.objs.size=some so:=Heap.get?_push_size _ rfl
 have hT:Shared.TypeIs { s with heap:=s.heap.push so } (.ref s.heap.objs.size) "set" := ⟨_,hS,rfl⟩
 have hli:=F.called_set.init.lookup
 have hbi:=F.called_set.init.bind (.ref s.heap.objs.size)
 repeat (any_goals (first | assumption | wp_step))
 refine codeAny_mono (codeAny_call_builtin (R:=wants (fun r s₂=>r=.none∧∃ h' tk S n,s₂={ s with heap:=h',toks:=tk }∧h'.SetOf (intKind prog w) s.heap.objs.size S n∧(∀ b o,b<s.heap.objs.size→s.heap.get? b=some o→h'.get? b=some o)) E) F.called_set.init.plain F.entry_set_init (check_set_init_1 hT ?_)) fun r₂ s₂ hr₂=>?_
 ·obtain⟨⟨ocls,odict,odata,oslots⟩,hol,hcl,nl,hdl⟩:=hl
  simp only at hcl hdl
  subst hcl
  subst hdl
  have hol':(s.heap.push so).get? l=some { cls:=.type "tuple",dict:=odict,data:=.seq items nl,slots:=oslots }:=Heap.get?_push_of_some _ hol
  have hsls:=F.sub_tuple_set
  have hslf:=F.sub_tuple_frozenset
  have hne:(Value.type "tuple" == Value.type "dict")=false:=by decide
  have hl1:(s.heap.push so).IsTuple l items:=⟨_,hol',rfl,nl,rfl⟩
  unfold Builtin.«set.__init__» noKeywords Builtin.Frozenset.updateFrom
  generalize hPI:pyIter=PI
  wp_walk
  subst hPI
  refine wpAny_pyIter_tuple hl1 ?_
  refine wpAny_bind (wpAny_runValue ?_)
  have hlS:l<s.heap.objs.size:=Heap.lt_size hol
  have hh3:A.in1.in1.in1.handled=none:=by simp[hh]
  have hneI:l≠(s.heap.push so).objs.size:=by
   rw[Heap.size_push];exact Nat.ne_of_lt (Nat.lt_succ_of_lt hlS)
  have hSf:s.heap.objs.size∉[(s.heap.push so).objs.size,l]:=by
   rw[Heap.size_push];simp only[List.mem_cons,List.mem_singleton,List.not_mem_nil,or_false,not_or]
   exact⟨Nat.ne_of_lt (Nat.lt_succ_self _),Nat.ne_of_gt hlS⟩
  have hval:∀ (i:Nat) (v:Value),items[i]?=some v→∃ t,v=.int ((fun i=>ns.getD i 0) i) t:=fun i v hv=>IntsAre.int_at hi i v (by rw[Array.getElem?_toList];exact hv)
  refine codeAny_set_update_loopS ((Walks.tuple hh3 _ l hneI items).toS) s.heap.objs.size hSf (fun i=>ns.getD i 0) hval hb (items.size-0) 0 _ (by omega) (Nat.zero_le _) ⟨⟨_,Heap.get?_push_size _ rfl,rfl,rfl⟩,(hl1.push _)⟩ ?_ ?_
  ·exact SetOf_congr ((setObjOf_fresh (knd:=intKind prog w) led).setOf (Heap.get?_push_of_some _ hS) (by unfold scanBound;omega)) (fun _=>rfl) rfl
  ·intro s' hm hS'
   obtain⟨h',g',d',tk',os'⟩:=s'
   have eg:g'=s.gens:=hm.gens
   have ed:d'=s.drawn:=hm.drawn
   have eo:os'=s.os:=hm.os
   subst eg;subst ed;subst eo
   show wpAny _ _ _ _ _ _
   refine wpAny_pure ?_
   show wpAny _ _ (ret Value.none) _ _ _
   refine wpAny_pure ⟨rfl,h',tk',_,_,rfl,hS',fun b o hb e=>?_⟩
   have hb2:b≠(s.heap.push so).objs.size:=by
    rw[Heap.size_push];exact Nat.ne_of_lt (Nat.lt_succ_of_lt hb)
   exact hm.heap b o (by simp only[List.mem_cons,List.mem_singleton,List.not_mem_nil,or_false,not_or];exact⟨Nat.ne_of_lt hb,hb2⟩) (Heap.get?_push_of_some _ (Heap.get?_push_of_some _ e))
 ·rcases r₂ with e | fl₂
  ·exact hr₂
  rcases fl₂ with r | _ | _ | _
  all_goals try exact hr₂.elim
  obtain⟨rfl,h',tk,S,n,rfl,hS',hk'⟩:=hr₂
  repeat (any_goals (first | assumption | wp_step))
  exact h _ _ _ _ hS' hk'
end
end L2
namespace L2
open PySem PySem.Spec PyProof.Rows
section
variable {X:Cx}
theorem Yl (hc:X.calm=true):yY X (.type "set") (fun xs H Q=>∃ (p:Addr) (ns:List Int),xs=[V.ref p]∧SqT X.K H p (ns.map V.int)∧ns.length≤100∧∀ (l:Addr) (S:Int→Bool) (n:Nat),H l=none→Q (.ref l) (upd H l (.set S n))):=by
 intro pins s σ H xs us Q I r h
 obtain⟨p,ns,rfl,hq,hn,q⟩:=h
 obtain⟨u,rfl,ru⟩:=r.one
 cases ru
 obtain⟨its,rv,pl,hz⟩:=I.tuple hq
 have hl:=rv.length
 rw[List.length_map] at hl
 refine X7 (ns:=ns) (show X.A.handled=none from I.ok.hd hc) pl (by simpa using vz rv) (by rw[List.size_toArray,← hl];unfold scanBound;omega) fun h' tk S n hS hk=>?_
 refine⟨.ref s.heap.objs.size,_,I.laid (a:=s.heap.objs.size) (o:=.set S n) (t':=tk) (fun b o e=>hk b o (Heap.lt_size e) e) (Nat.le_refl _) hS,rfl,q _ S n (I.hok.fresh (Nat.le_refl _))⟩
theorem Yn:yY X (.builtin "len") (fun xs H Q=>∃ (p:Addr) (S:Int→Bool) (n:Nat),xs=[V.ref p]∧H p=some (.set S n)∧Q (.int n) H):=by
 intro pins s σ H xs us Q I r h
 obtain⟨p,S,n,rfl,hp,q⟩:=h
 obtain⟨u,rfl,ru⟩:=r.one
 cases ru
 have hS:s.heap.SetOf (intKind X.prog X.w) p S n:=I.hok p _ hp
 obtain⟨o,es,ep,t,ho,rest⟩:=hS
 obtain⟨hex,hd,_,_,hb,hf,rfl⟩:=rest
 exact call_len_set ho hex hd hf (by unfold scanBound at hb;omega) ⟨.int _,H,I.tok _,⟨s.toks+1,rfl⟩,q⟩
theorem vq {H:Hp}{q t:Addr}{i j i' j':Int}(hq:H q=some (.tup [.int i',.int j'])) (ht:H t=some (.tup [.int i,.int j])):EqP X H (.ref q) (.ref t) (decide ((i',j')=(i,j))) 1:=by
 by_cases z:q=t
 ·subst z
  rw[hq] at ht
  cases ht
  rw[decide_eq_true rfl]
  exact EqP.same
 ·refine EqP.of ?_
  have e:decide ((i',j')=(i,j))=(List.range 2).all (fun k=>if k=0 then i' == i else j' == j):=by
   show decide ((i',j')=(i,j))=((i' == i)&&((j' == j)&&true))
   by_cases h1:i'=i
   ·by_cases h2:j'=j
    ·subst h1 h2;simp
    ·subst h1;simp[h2]
   ·simp[h1]
  rw[e]
  refine EqD.tup (xs:=[.int i',.int j']) (ys:=[.int i,.int j]) (e:=fun k=>if k=0 then i' == i else j' == j) (n:=0) z (SqT.of hq) (SqT.of ht) rfl fun k x y e1 e2=>?_
  match k,e1,e2 with
  |0,e1,e2=>cases e1;cases e2;exact EqD.flat (x:=.int i') (y:=.int i) rfl rfl
  |1,e1,e2=>cases e1;cases e2;exact EqD.flat (x:=.int j') (y:=.int j) rfl rfl
  |_+2,e1,e2=>simp at e1
def prO (ps:List (Addr×Int×Int)) (v:Value):Int×Int:=match v with
 |.ref t=>((ps.find? fun p=>p.1=t).map (·.2)).getD (0,0)
 |_=>(0,0)
theorem wa {H:Hp}{ps:List (Addr×Int×Int)}(hy:∀ p∈ps,H p.1=some (.tup [.int p.2.1,.int p.2.2])){p:Addr×Int×Int}(hm:p∈ps):prO ps (.ref p.1)=p.2:=by
 obtain⟨t,i,j⟩:=p
 have ht:=hy _ hm
 show((ps.find? fun p=>p.1=t).map (·.2)).getD (0,0)=(i,j)
 cases hf:ps.find? fun p=>p.1=t with
 |none =>
  have:=List.find?_eq_none.mp hf (t,i,j) hm
  simp at this
 |some p' =>
  have e1:p'.1=t:=by simpa using List.find?_some hf
  have h2:=hy p' (List.mem_of_find?_eq_some hf)
  rw[e1] at h2
  rw[h2] at ht
  injection ht with ht
  injection ht with ht
  obtain⟨c,i',j'⟩:=p'
  simp at ht
  simp[ht]
theorem xx:∀ {ps:List (Addr×Int×Int)}{us:List Value},Vals (ps.map fun p=>V.ref p.1) us→us=ps.map fun p=>Value.ref p.1
 |[],_,.nil=>rfl
 |p::ps,_,.cons r t=>by rw[xx t];cases r;rfl
def zgh (K:PySem.W.Frag) (A:Around) (neg:Bool):R2:=fun x y H Q=>∃ (l t:Addr) (ps:List (Addr×Int×Int)) (i j:Int),x=.ref t∧y=.ref l∧SqL K H l (ps.map fun p=>V.ref p.1)∧(∀ p∈ps,H p.1=some (.tup [.int p.2.1,.int p.2.2]))∧H t=some (.tup [.int i,.int j])∧A.units+5<cLine ∧
 Q (.bl (if neg then !decide ((i,j)∈ps.map (·.2)) else decide ((i,j)∈ps.map (·.2)))) H
theorem Yq {H:Hp}{ps:List (Addr×Int×Int)}{i j:Int}(hps:∀ p∈ps,H p.1=some (.tup [.int p.2.1,.int p.2.2])):((ps.map fun p=>Value.ref p.1).toArray.any fun v=>decide (prO ps v=(i,j)))=decide ((i,j)∈ps.map (·.2)):=by
 rw[Bool.eq_iff_iff,decide_eq_true_eq]
 simp only[List.any_toArray,List.any_eq_true,decide_eq_true_eq]
 constructor
 ·rintro⟨v,hv,e⟩
  obtain⟨p,hp,rfl⟩:=List.mem_map.mp hv
  rw[wa hps hp] at e
  exact List.mem_map.mpr ⟨p,hp,e⟩
 ·intro hm
  obtain⟨p,hp,e⟩:=List.mem_map.mp hm
  exact⟨_,List.mem_map.mpr ⟨p,hp,rfl⟩,by rw[wa hps hp];exact e⟩
theorem VH:OpR X (compareOp .In) (zgh X.K X.A false):=by
 intro pins s σ H x y v u Q I rx ry h
 obtain⟨l,t,ps,i,j,rfl,rfl,hl,hps,ht,hu,q⟩:=h
 cases rx
 cases ry
 obtain⟨its,r,pl,hz⟩:=I.list hl
 obtain rfl:=xx r
 refine SeqAt.in_listAt (fun v=>decide (prO ps v=(i,j))) pl.isList (fun w hw=>?_) ⟨.bl _,H,I,rfl,?_⟩
 ·obtain⟨p,hp,rfl⟩:=List.mem_map.mp (List.mem_toArray.mp hw)
  rw[wa hps hp]
  exact vq (X:=X) (hps p hp) ht pins σ s I X.A.in1 _ _ (by rw[yk];omega) rfl rfl
 ·rw[Yq hps]
  exact q
theorem ZJ:OpR X (compareOp .NotIn) (zgh X.K X.A true):=by
 intro pins s σ H x y v u Q I rx ry h
 obtain⟨l,t,ps,i,j,rfl,rfl,hl,hps,ht,hu,q⟩:=h
 cases rx
 cases ry
 obtain⟨its,r,pl,hz⟩:=I.list hl
 obtain rfl:=xx r
 refine SeqAt.notIn_listAt (fun v=>decide (prO ps v=(i,j))) pl.isList (fun w hw=>?_) ⟨.bl _,H,I,rfl,?_⟩
 ·obtain⟨p,hp,rfl⟩:=List.mem_map.mp (List.mem_toArray.mp hw)
  rw[wa hps hp]
  exact vq (X:=X) (hps p hp) ht pins σ s I X.A.in1 _ _ (by rw[yk];omega) rfl rfl
 ·rw[Yq hps]
  exact q
def Vv (X:Cx):V→List V→Hp→VK→Prop:=fun x vs H Q=>∃ (l t:Addr) (ps:List (Addr×Int×Int)) (i j:Int),x=.ref l∧vs=[.ref t]∧H l=some (.lst (ps.map fun p=>V.ref p.1))∧(∀ p∈ps,H p.1=some (.tup [.int p.2.1,.int p.2.2]))∧H t=some (.tup [.int i,.int j])∧X.A.units+5<cLine ∧
 Q (.int ((ps.map (·.2)).count (i,j):Nat)) H
theorem WL {H:Hp}{ps qs:List (Addr×Int×Int)}{i j:Int}(hps:∀ p∈ps,H p.1=some (.tup [.int p.2.1,.int p.2.2])) (hq:∀ p∈qs,p∈ps):(qs.map fun p=>Value.ref p.1).countP (fun v=>decide (prO ps v=(i,j)))=(qs.map (·.2)).count (i,j):=by
 induction qs with
 |nil=>rfl
 |cons p qs ih =>
  rw[List.map_cons,List.map_cons,List.countP_cons,List.count_cons,ih fun p hp=>hq p (List.mem_cons_of_mem _ hp),wa hps (hq p List.mem_cons_self)]
  congr 1
  by_cases z:p.2=(i,j)
  ·simp[z]
  ·simp[z]
theorem Y0:MtM X "list.count" (Vv X):=by
 intro pins s σ H x vs v us Q I rx rv h
 obtain⟨l,t,ps,i,j,rfl,rfl,hH,hps,ht,hu,q⟩:=h
 cases rx
 obtain⟨u,rfl,ru⟩:=rv.one
 cases ru
 obtain⟨z,its,n,r,hl,e⟩:=I.lstM hH
 obtain rfl:=xx r
 refine call_meets F.slot_list_count ⟨_,e,rfl⟩ F.entry_list_count (F.args_list_count_2 _ _) (SeqAt.list_countAt l _ n _ _ (.ref t) (fun v=>decide (prO ps v=(i,j)))) ⟨e,fun y hy=>?_,?_⟩
 ·obtain⟨p,hp,rfl⟩:=List.mem_map.mp (List.mem_toArray.mp hy)
  rw[wa hps hp]
  exact vq (X:=X) (hps p hp) ht pins σ s I _ _ _ (by simp only[yk];omega) rfl rfl
 ·refine⟨.int _,H,I.tok _,⟨s.toks,rfl⟩,?_⟩
  rw[show((ps.map fun p=>Value.ref p.1).toArray.toList)=(ps.map fun p=>Value.ref p.1) by simp,WL hps fun p hp=>hp]
  exact q
end
end L2
namespace L2
open PySem
theorem Uf:bootBuiltins "set" = some (.type "set"):=by decide +kernel
end L2
namespace K04
open PySem L2
structure Hs (hs:List Int):Prop where
 l1:1≤hs.length
 l12:hs.length≤12
 up:hs.Pairwise (· < ·)
 lo:∀ h∈hs,0≤h
 hi:∀ h∈hs,h≤99
structure Ls (hs:List Int) (ls:List (Int×Int)):Prop where
 nd:ls.Nodup
 ok:∀ p∈ls,p.1∈hs∧p.2∈hs∧p.1<p.2
 le:ls.length≤66
def Adj (ls:List (Int×Int)) (x y:Int):Prop:=(x,y)∈ls∨(y,x)∈ls
theorem YA {as:List Int}(h:as.Pairwise (· < ·)):as.Nodup:=h.imp fun {a b} z=>by omega
theorem wU:∀ {as bs:List Int},as.Nodup→(∀ x∈as,x∈bs)→as.length≤bs.length
 |[],_,_,_=>Nat.zero_le _
 |a::as,bs,hn,hs=>by
  rw[List.nodup_cons] at hn
  have ha:=hs a List.mem_cons_self
  have ih:=wU (as:=as) (bs:=bs.erase a) hn.2 fun x hx=>by
   have ne:x≠a:=fun z=>hn.1 (by rw[← z];exact hx)
   exact(List.mem_erase_of_ne ne).mpr (hs x (List.mem_cons_of_mem _ hx))
  rw[List.length_erase_of_mem ha] at ih
  have:=List.length_pos_of_mem ha
  rw[List.length_cons];omega
def nbs (ls:List (Int×Int)) (h:Int):List Int:=ls.flatMap fun p=>(if p.1=h then[p.2] else[])++if p.2=h then[p.1] else[]
theorem mem_nbs {ls:List (Int×Int)}{h x:Int}:x∈nbs ls h↔Adj ls h x:=by
 unfold nbs Adj
 rw[List.mem_flatMap]
 constructor
 ·rintro⟨⟨u,v⟩,hp,hx⟩
  dsimp only at hx
  rw[List.mem_append] at hx
  rcases hx with hx | hx
  ·split at hx
   ·rename_i e;subst e
    rw[List.mem_singleton] at hx;subst hx;exact .inl hp
   ·cases hx
  ·split at hx
   ·rename_i e;subst e
    rw[List.mem_singleton] at hx;subst hx;exact .inr hp
   ·cases hx
 ·rintro(h1 | h1)
  ·exact⟨_,h1,by simp⟩
  ·exact⟨_,h1,by simp⟩
theorem ZS {h:Int}:∀ {ls:List (Int×Int)},(nbs ls h).length≤2*ls.length
 |[]=>Nat.le_refl _
 |p::ls=>by
  have ih:=ZS (h:=h) (ls:=ls)
  unfold nbs at ih ⊢
  rw[List.flatMap_cons,List.length_append,List.length_append,List.length_cons]
  have h1:(if p.1=h then[p.2] else[]).length≤1:=by split<;>simp
  have h2:(if p.2=h then[p.1] else[]).length≤1:=by split<;>simp
  omega
theorem YY {ls:List (Int×Int)}{p:Int×Int}{h:Int}:nbs (ls++[p]) h=nbs ls h++((if p.1=h then[p.2] else[])++if p.2=h then[p.1] else[]):=by
 unfold nbs
 rw[List.flatMap_append,List.flatMap_cons,List.flatMap_nil,List.append_nil]
theorem YX {ls:List (Int×Int)}{p:Int×Int}{i:Nat}{h:Int}(e:ls[i]?=some p):nbs (ls.take (i+1)) h=nbs (ls.take i) h++((if p.1=h then[p.2] else[])++if p.2=h then[p.1] else[]):=by
 rw[List.take_add_one,e]
 exact YY
def top (i:Nat):Stmt:=PySem.Challenge.pw_beatless_k29_any_parents_and_bridges.main.body.getD i (.Pass ⟨0,0,0,0⟩)
abbrev Zf:Stmt:=top 5
abbrev Ze:Stmt:=top 7
abbrev Zd:Stmt:=top 9
abbrev Zc:Stmt:=top 10
abbrev Zb:Stmt:=top 11
abbrev Za:Stmt:=top 12
abbrev u9:Stmt:=top 13
abbrev u8:Stmt:=top 14
abbrev u7:Stmt:=top 15
abbrev u6:Stmt:=top 19
abbrev u4:Stmt:=top 20
abbrev u3:Stmt:=top 21
abbrev u0:Stmt:=top 22
abbrev uZ:Stmt:=top 25
abbrev uY:Stmt:=top 26
abbrev um:Stmt:=top 27
abbrev uX:Stmt:=top 28
abbrev uW:Stmt:=top 29
abbrev uV:Stmt:=top 30
abbrev uU:Stmt:=top 31
abbrev uT:Stmt:=top 32
abbrev uS:Stmt:=top 33
abbrev ul:Stmt:=top 34
abbrev uj:Stmt:=top 35
abbrev ui:Stmt:=top 36
abbrev uR:Stmt:=top 37
abbrev Zq:Stmt:=inClass (top 8) 0
abbrev Zp:Stmt:=inClass (top 8) 1
abbrev Zo:Stmt:=inClass (top 8) 2
abbrev Zn:Stmt:=inClass (top 8) 3
abbrev Zm:Stmt:=inClass (top 8) 4
abbrev Zl:Stmt:=inClass (top 8) 5
abbrev Zk:Stmt:=inClass (top 23) 0
abbrev Zj:Stmt:=inClass (top 23) 1
abbrev Zi:Stmt:=inClass (top 23) 2
abbrev Zh:Stmt:=inClass (top 23) 3
abbrev Zg:Stmt:=inClass (top 23) 4
theorem Vo:FnScope ["value"] ["value"] (defScope Zf):=⟨rfl,rfl,rfl,by decide +kernel,rfl,by decide +kernel,by decide +kernel⟩
theorem za3:FnScope ["value"] ["value"] (defScope Ze):=⟨rfl,rfl,rfl,by decide +kernel,rfl,by decide +kernel,by decide +kernel⟩
theorem sc_qc:FnScope ["web", "parents", "hand", "parent"] ["web", "parents"] (defScope Zd):=⟨rfl,rfl,rfl,by decide +kernel,rfl,by decide +kernel,by decide +kernel⟩
theorem sc_qd:FnScope ["web", "way", "hand"] ["web", "way"] (defScope Zc):=⟨rfl,rfl,rfl,by decide +kernel,rfl,by decide +kernel,by decide +kernel⟩
theorem za2:FnScope ["web", "way", "bridge"] ["web", "way", "bridge"] (defScope Zb):=⟨rfl,rfl,rfl,by decide +kernel,rfl,by decide +kernel,by decide +kernel⟩
theorem sc_qf:FnScope ["web", "way", "bridges", "seen", "bridge"] ["web", "way", "bridges"] (defScope Za):=⟨rfl,rfl,rfl,by decide +kernel,rfl,by decide +kernel,by decide +kernel⟩
theorem za1:FnScope ["web", "way"] ["web", "way"] (defScope u9):=⟨rfl,rfl,rfl,by decide +kernel,rfl,by decide +kernel,by decide +kernel⟩
theorem sc_qh:FnScope ["way", "lines", "found", "one", "other", "leaders"] ["way", "lines"] (defScope u8):=⟨rfl,rfl,rfl,by decide +kernel,rfl,by decide +kernel,by decide +kernel⟩
theorem sc_qi:FnScope ["web", "way", "bridged", "leaders"] ["web", "way"] (defScope u7):=⟨rfl,rfl,rfl,by decide +kernel,rfl,by decide +kernel,by decide +kernel⟩
theorem sc_qj:FnScope ["hands", "ahead", "hand"] ["hands"] (defScope u6):=⟨rfl,rfl,rfl,by decide +kernel,rfl,by decide +kernel,by decide +kernel⟩
theorem za0:FnScope ["line", "hands"] ["line", "hands"] (defScope u4):=⟨rfl,rfl,rfl,by decide +kernel,rfl,by decide +kernel,by decide +kernel⟩
theorem sc_ql:FnScope ["lines", "hands", "seen", "line"] ["lines", "hands"] (defScope u3):=⟨rfl,rfl,rfl,by decide +kernel,rfl,by decide +kernel,by decide +kernel⟩
theorem sc_qm:FnScope ["hands", "lines", "near", "hand", "one", "other"] ["hands", "lines"] (defScope u0):=⟨rfl,rfl,rfl,by decide +kernel,rfl,by decide +kernel,by decide +kernel⟩
theorem zaZ:FnScope ["_law_script", "_law_k"] ["_law_script", "_law_k"] (defScope uZ):=⟨rfl,rfl,rfl,by decide +kernel,rfl,by decide +kernel,by decide +kernel⟩
theorem sc_qo:FnScope ["_law_cell", "_law_many", "_law_found", "_law_rest", "_law_number", "_law_k", "_law_mixed"] ["_law_cell", "_law_many"] (defScope uY):=⟨rfl,rfl,rfl,by decide +kernel,rfl,by decide +kernel,by decide +kernel⟩
theorem zaY:FnScope ["_law_xs", "_law_size"] ["_law_xs", "_law_size"] (defScope um):=⟨rfl,rfl,rfl,by decide +kernel,rfl,by decide +kernel,by decide +kernel⟩
theorem sc_qq:FnScope ["_law_xs", "_law_most", "_law_hand", "_law_found", "_law_k"] ["_law_xs", "_law_most"] (defScope uX):=⟨rfl,rfl,rfl,by decide +kernel,rfl,by decide +kernel,by decide +kernel⟩
theorem sc_qr:FnScope ["_law_xs", "_law_hands_here", "_law_way", "_law_found", "_law_j", "_law_k", "_law_near_here", "_law_draw", "_law_at"] ["_law_xs", "_law_hands_here"] (defScope uW):=⟨rfl,rfl,rfl,by decide +kernel,rfl,by decide +kernel,by decide +kernel⟩
theorem sc_qs:FnScope ["_law_lines_here", "_law_hand", "_law_found"] ["_law_lines_here", "_law_hand"] (defScope uV):=⟨rfl,rfl,rfl,by decide +kernel,rfl,by decide +kernel,by decide +kernel⟩
theorem sc_qt:FnScope ["_law_parents", "_law_hand", "_law_found"] ["_law_parents", "_law_hand"] (defScope uU):=⟨rfl,rfl,rfl,by decide +kernel,rfl,by decide +kernel,by decide +kernel⟩
theorem zaX:FnScope ["_law_parents", "_law_one", "_law_other"] ["_law_parents", "_law_one", "_law_other"] (defScope uT):=⟨rfl,rfl,rfl,by decide +kernel,rfl,by decide +kernel,by decide +kernel⟩
theorem zaW:FnScope ["_law_thing"] ["_law_thing"] (defScope uS):=⟨rfl,rfl,rfl,by decide +kernel,rfl,by decide +kernel,by decide +kernel⟩
theorem zaV:FnScope ["_law_lines_here", "_law_thing"] ["_law_lines_here", "_law_thing"] (defScope ul):=⟨rfl,rfl,rfl,by decide +kernel,rfl,by decide +kernel,by decide +kernel⟩
theorem sc_qx:FnScope ["_law_hands_here", "_law_lines_here", "_law_parents", "_law_bridges", "_law_strange", "_law_hand", "_law_near_here", "_law_joined", "_law_one", "_law_other", "_law_both_here"] ["_law_hands_here", "_law_lines_here", "_law_parents", "_law_bridges"] (defScope uj):=⟨rfl,rfl,rfl,by decide +kernel,rfl,by decide +kernel,by decide +kernel⟩
theorem sc_qy:FnScope ["_law_xs", "_law_hands_here", "_law_lines_here", "_law_parents", "_law_mode", "_law_hand", "_law_near_here", "_law_way", "_law_bridges", "_law_many", "_law_line"] ["_law_xs", "_law_hands_here", "_law_lines_here"] (defScope ui):=⟨rfl,rfl,rfl,by decide +kernel,rfl,by decide +kernel,by decide +kernel⟩
theorem sc_qz:FnScope ["_law_script", "_law_xs", "_law_hands_here", "_law_lines_here", "_law_web", "_law_cell", "_law_parents", "_law_bridges", "_law_found"] ["_law_script"] (defScope uR):=⟨rfl,rfl,rfl,by decide +kernel,rfl,by decide +kernel,by decide +kernel⟩
theorem zbc:FnScope ["self", "parents", "bridges"] ["self", "parents", "bridges"] (defScope Zq):=⟨rfl,rfl,rfl,by decide +kernel,rfl,by decide +kernel,by decide +kernel⟩
theorem sc_qB:FnScope ["self", "hand", "each", "parent"] ["self", "hand"] (defScope Zp):=⟨rfl,rfl,rfl,by decide +kernel,rfl,by decide +kernel,by decide +kernel⟩
theorem zbb:FnScope ["self"] ["self"] (defScope Zo):=⟨rfl,rfl,rfl,by decide +kernel,rfl,by decide +kernel,by decide +kernel⟩
theorem zba:FnScope ["self"] ["self"] (defScope Zn):=⟨rfl,rfl,rfl,by decide +kernel,rfl,by decide +kernel,by decide +kernel⟩
theorem sc_qE:FnScope ["self", "hand", "path", "above"] ["self", "hand"] (defScope Zm):=⟨rfl,rfl,rfl,by decide +kernel,rfl,by decide +kernel,by decide +kernel⟩
theorem za9:FnScope ["self", "hand"] ["self", "hand"] (defScope Zl):=⟨rfl,rfl,rfl,by decide +kernel,rfl,by decide +kernel,by decide +kernel⟩
theorem za8:FnScope ["self", "hands", "lines"] ["self", "hands", "lines"] (defScope Zk):=⟨rfl,rfl,rfl,by decide +kernel,rfl,by decide +kernel,by decide +kernel⟩
theorem za7:FnScope ["self"] ["self"] (defScope Zj):=⟨rfl,rfl,rfl,by decide +kernel,rfl,by decide +kernel,by decide +kernel⟩
theorem za6:FnScope ["self"] ["self"] (defScope Zi):=⟨rfl,rfl,rfl,by decide +kernel,rfl,by decide +kernel,by decide +kernel⟩
theorem za5:FnScope ["self", "hand"] ["self", "hand"] (defScope Zh):=⟨rfl,rfl,rfl,by decide +kernel,rfl,by decide +kernel,by decide +kernel⟩
theorem za4:FnScope ["self", "one", "other"] ["self", "one", "other"] (defScope Zg):=⟨rfl,rfl,rfl,by decide +kernel,rfl,by decide +kernel,by decide +kernel⟩
set_option genInjectivity false in
set_option genSizeOf false in
structure Ad where
 f_qa:Addr
 d_qa:FuncData
 f_qb:Addr
 d_qb:FuncData
 f_qc:Addr
 d_qc:FuncData
 f_qd:Addr
 d_qd:FuncData
 f_qe:Addr
 d_qe:FuncData
 f_qf:Addr
 d_qf:FuncData
 f_qg:Addr
 d_qg:FuncData
 f_qh:Addr
 d_qh:FuncData
 f_qi:Addr
 d_qi:FuncData
 f_qj:Addr
 d_qj:FuncData
 f_qk:Addr
 d_qk:FuncData
 f_ql:Addr
 d_ql:FuncData
 f_qm:Addr
 d_qm:FuncData
 f_qn:Addr
 d_qn:FuncData
 f_qo:Addr
 d_qo:FuncData
 f_qp:Addr
 d_qp:FuncData
 f_qq:Addr
 d_qq:FuncData
 f_qr:Addr
 d_qr:FuncData
 f_qs:Addr
 d_qs:FuncData
 f_qt:Addr
 d_qt:FuncData
 f_qu:Addr
 d_qu:FuncData
 f_qv:Addr
 d_qv:FuncData
 f_qw:Addr
 d_qw:FuncData
 f_qx:Addr
 d_qx:FuncData
 f_qy:Addr
 d_qy:FuncData
 f_qz:Addr
 d_qz:FuncData
 f_qA:Addr
 d_qA:FuncData
 f_qB:Addr
 d_qB:FuncData
 f_qC:Addr
 d_qC:FuncData
 f_qD:Addr
 d_qD:FuncData
 f_qE:Addr
 d_qE:FuncData
 f_qF:Addr
 d_qF:FuncData
 f_qG:Addr
 d_qG:FuncData
 f_qH:Addr
 d_qH:FuncData
 f_qI:Addr
 d_qI:FuncData
 f_qJ:Addr
 d_qJ:FuncData
 f_qK:Addr
 d_qK:FuncData
 c_Way:Addr
 c_Web:Addr
 t_MOST_HANDS:Tok
 t_LAST_HAND:Tok
structure Txt (w:World) (K:PySem.W.Frag) (mg:Str→Option Value) (a:Ad):Prop where
 n_len:mg "len" = none
 n_int:mg "int" = none
 n_max:mg "max" = none
 n_range:mg "range" = none
 n_isinstance:mg "isinstance" = none
 n_list:mg "list" = none
 n_dict:mg "dict" = none
 n_sorted:mg "sorted" = none
 n_bool:mg "bool" = none
 n_tuple:mg "tuple" = none
 n_set:mg "set" = none
 n_ValueError:mg "ValueError" = none
 F_qa:Fun K "is_whole" "is_whole" Zf a.f_qa a.d_qa
 b_qa:Binds K a.d_qa ["value"] []
 g_qa:mg "is_whole" = some (.ref a.f_qa)
 F_qb:Fun K "copied" "copied" Ze a.f_qb a.d_qb
 b_qb:Binds K a.d_qb ["value"] []
 g_qb:mg "copied" = some (.ref a.f_qb)
 F_qc:Fun K "are_parents" "are_parents" Zd a.f_qc a.d_qc
 b_qc:Binds K a.d_qc ["web", "parents"] []
 g_qc:mg "are_parents" = some (.ref a.f_qc)
 F_qd:Fun K "come_to_leaders" "come_to_leaders" Zc a.f_qd a.d_qd
 b_qd:Binds K a.d_qd ["web", "way"] []
 g_qd:mg "come_to_leaders" = some (.ref a.f_qd)
 F_qe:Fun K "is_bridge" "is_bridge" Zb a.f_qe a.d_qe
 b_qe:Binds K a.d_qe ["web", "way", "bridge"] []
 g_qe:mg "is_bridge" = some (.ref a.f_qe)
 F_qf:Fun K "are_bridges" "are_bridges" Za a.f_qf a.d_qf
 b_qf:Binds K a.d_qf ["web", "way", "bridges"] []
 g_qf:mg "are_bridges" = some (.ref a.f_qf)
 F_qg:Fun K "is_grounded" "is_grounded" u9 a.f_qg a.d_qg
 b_qg:Binds K a.d_qg ["web", "way"] []
 g_qg:mg "is_grounded" = some (.ref a.f_qg)
 F_qh:Fun K "first_joins" "first_joins" u8 a.f_qh a.d_qh
 b_qh:Binds K a.d_qh ["way", "lines"] []
 g_qh:mg "first_joins" = some (.ref a.f_qh)
 F_qi:Fun K "lets" "lets" u7 a.f_qi a.d_qi
 b_qi:Binds K a.d_qi ["web", "way"] []
 g_qi:mg "lets" = some (.ref a.f_qi)
 F_qj:Fun K "are_hands" "are_hands" u6 a.f_qj a.d_qj
 b_qj:Binds K a.d_qj ["hands"] []
 g_qj:mg "are_hands" = some (.ref a.f_qj)
 F_qk:Fun K "is_line" "is_line" u4 a.f_qk a.d_qk
 b_qk:Binds K a.d_qk ["line", "hands"] []
 g_qk:mg "is_line" = some (.ref a.f_qk)
 F_ql:Fun K "are_lines" "are_lines" u3 a.f_ql a.d_ql
 b_ql:Binds K a.d_ql ["lines", "hands"] []
 g_ql:mg "are_lines" = some (.ref a.f_ql)
 F_qm:Fun K "near_by_hand" "near_by_hand" u0 a.f_qm a.d_qm
 b_qm:Binds K a.d_qm ["hands", "lines"] []
 g_qm:mg "near_by_hand" = some (.ref a.f_qm)
 F_qn:Fun K "_law_cell_at" "_law_cell_at" uZ a.f_qn a.d_qn
 b_qn:Binds K a.d_qn ["_law_script", "_law_k"] []
 g_qn:mg "_law_cell_at" = some (.ref a.f_qn)
 F_qo:Fun K "_law_draws" "_law_draws" uY a.f_qo a.d_qo
 b_qo:Binds K a.d_qo ["_law_cell", "_law_many"] []
 g_qo:mg "_law_draws" = some (.ref a.f_qo)
 F_qp:Fun K "_law_take" "_law_take" um a.f_qp a.d_qp
 b_qp:Binds K a.d_qp ["_law_xs", "_law_size"] []
 g_qp:mg "_law_take" = some (.ref a.f_qp)
 F_qq:Fun K "_law_hands" "_law_hands" uX a.f_qq a.d_qq
 b_qq:Binds K a.d_qq ["_law_xs", "_law_most"] []
 g_qq:mg "_law_hands" = some (.ref a.f_qq)
 F_qr:Fun K "_law_lines" "_law_lines" uW a.f_qr a.d_qr
 b_qr:Binds K a.d_qr ["_law_xs", "_law_hands_here"] []
 g_qr:mg "_law_lines" = some (.ref a.f_qr)
 F_qs:Fun K "_law_near" "_law_near" uV a.f_qs a.d_qs
 b_qs:Binds K a.d_qs ["_law_lines_here", "_law_hand"] []
 g_qs:mg "_law_near" = some (.ref a.f_qs)
 F_qt:Fun K "_law_up" "_law_up" uU a.f_qt a.d_qt
 b_qt:Binds K a.d_qt ["_law_parents", "_law_hand"] []
 g_qt:mg "_law_up" = some (.ref a.f_qt)
 F_qu:Fun K "_law_both" "_law_both" uT a.f_qu a.d_qu
 b_qu:Binds K a.d_qu ["_law_parents", "_law_one", "_law_other"] []
 g_qu:mg "_law_both" = some (.ref a.f_qu)
 F_qv:Fun K "_law_is_whole" "_law_is_whole" uS a.f_qv a.d_qv
 b_qv:Binds K a.d_qv ["_law_thing"] []
 g_qv:mg "_law_is_whole" = some (.ref a.f_qv)
 F_qw:Fun K "_law_is_line" "_law_is_line" ul a.f_qw a.d_qw
 b_qw:Binds K a.d_qw ["_law_lines_here", "_law_thing"] []
 g_qw:mg "_law_is_line" = some (.ref a.f_qw)
 F_qx:Fun K "_law_lets" "_law_lets" uj a.f_qx a.d_qx
 b_qx:Binds K a.d_qx ["_law_hands_here", "_law_lines_here", "_law_parents", "_law_bridges"] []
 g_qx:mg "_law_lets" = some (.ref a.f_qx)
 F_qy:Fun K "_law_any_way" "_law_any_way" ui a.f_qy a.d_qy
 b_qy:Binds K a.d_qy ["_law_xs", "_law_hands_here", "_law_lines_here"] []
 g_qy:mg "_law_any_way" = some (.ref a.f_qy)
 F_qz:Fun K "law" "law" uR a.f_qz a.d_qz
 b_qz:Binds K a.d_qz ["_law_script"] []
 b0_qz:∀ (s:Shared) (u:Value),BindsTo s a.d_qz ⟨[u],[]⟩ [("_law_script",u)]
 g_qz:mg "law" = some (.ref a.f_qz)
 F_qA:Fun K "__init__" "Way.__init__" Zq a.f_qA a.d_qA
 b_qA:Binds K a.d_qA ["self", "parents", "bridges"] []
 F_qB:Fun K "parent_of" "Way.parent_of" Zp a.f_qB a.d_qB
 b_qB:Binds K a.d_qB ["self", "hand"] []
 mt_qB:Meth K a.c_Way "parent_of" a.f_qB
 F_qC:Fun K "all_parents" "Way.all_parents" Zo a.f_qC a.d_qC
 b_qC:Binds K a.d_qC ["self"] []
 mt_qC:Meth K a.c_Way "all_parents" a.f_qC
 F_qD:Fun K "all_bridges" "Way.all_bridges" Zn a.f_qD a.d_qD
 b_qD:Binds K a.d_qD ["self"] []
 mt_qD:Meth K a.c_Way "all_bridges" a.f_qD
 F_qE:Fun K "path_up" "Way.path_up" Zm a.f_qE a.d_qE
 b_qE:Binds K a.d_qE ["self", "hand"] []
 mt_qE:Meth K a.c_Way "path_up" a.f_qE
 F_qF:Fun K "leader" "Way.leader" Zl a.f_qF a.d_qF
 b_qF:Binds K a.d_qF ["self", "hand"] []
 mt_qF:Meth K a.c_Way "leader" a.f_qF
 F_qG:Fun K "__init__" "Web.__init__" Zk a.f_qG a.d_qG
 b_qG:Binds K a.d_qG ["self", "hands", "lines"] []
 F_qH:Fun K "hands" "Web.hands" Zj a.f_qH a.d_qH
 b_qH:Binds K a.d_qH ["self"] []
 mt_qH:Meth K a.c_Web "hands" a.f_qH
 F_qI:Fun K "lines" "Web.lines" Zi a.f_qI a.d_qI
 b_qI:Binds K a.d_qI ["self"] []
 mt_qI:Meth K a.c_Web "lines" a.f_qI
 F_qJ:Fun K "has_hand" "Web.has_hand" Zh a.f_qJ a.d_qJ
 b_qJ:Binds K a.d_qJ ["self", "hand"] []
 mt_qJ:Meth K a.c_Web "has_hand" a.f_qJ
 F_qK:Fun K "has_line" "Web.has_line" Zg a.f_qK a.d_qK
 b_qK:Binds K a.d_qK ["self", "one", "other"] []
 mt_qK:Meth K a.c_Web "has_line" a.f_qK
 g_Way:mg "Way" = some (.ref a.c_Way)
 cl_Way:Cls K a.c_Way
 mk_Way:Mk K a.c_Way a.f_qA
 ty_Way:∀ (H:Hp) (p dx:Addr) (fs:List (Str×V)),H p=some (.ins a.c_Way dx fs)→TyOf K H (.ref p) (.ref a.c_Way)
 na_Way_own_parents:NoAttr K a.c_Way "own_parents"
 na_Way_own_bridges:NoAttr K a.c_Way "own_bridges"
 g_Web:mg "Web" = some (.ref a.c_Web)
 cl_Web:Cls K a.c_Web
 mk_Web:Mk K a.c_Web a.f_qG
 ty_Web:∀ (H:Hp) (p dx:Addr) (fs:List (Str×V)),H p=some (.ins a.c_Web dx fs)→TyOf K H (.ref p) (.ref a.c_Web)
 na_Web_own_hands:NoAttr K a.c_Web "own_hands"
 na_Web_own_lines:NoAttr K a.c_Web "own_lines"
 na_Web_near:NoAttr K a.c_Web "near"
 k_tint_tint:PySem.W.kitOne K (.type "int") (.type "int")=some true
 k_tint_tbool:PySem.W.kitOne K (.type "int") (.type "bool")=some false
 k_tlist_tlist:PySem.W.kitOne K (.type "list") (.type "list")=some true
 k_ttuple_ttuple:PySem.W.kitOne K (.type "tuple") (.type "tuple")=some true
 k_ttuple_tlist:PySem.W.kitOne K (.type "tuple") (.type "list")=some false
 k_tdict_tlist:PySem.W.kitOne K (.type "dict") (.type "list")=some false
 k_tdict_ttuple:PySem.W.kitOne K (.type "dict") (.type "tuple")=some false
 k_tdict_tdict:PySem.W.kitOne K (.type "dict") (.type "dict")=some true
 k_tint_tlist:PySem.W.kitOne K (.type "int") (.type "list")=some false
 k_tint_ttuple:PySem.W.kitOne K (.type "int") (.type "tuple")=some false
 k_tint_tdict:PySem.W.kitOne K (.type "int") (.type "dict")=some false
 k_tNoneType_tlist:PySem.W.kitOne K (.type "NoneType") (.type "list")=some false
 k_tNoneType_ttuple:PySem.W.kitOne K (.type "NoneType") (.type "tuple")=some false
 k_tNoneType_tdict:PySem.W.kitOne K (.type "NoneType") (.type "dict")=some false
 k_tNoneType_tint:PySem.W.kitOne K (.type "NoneType") (.type "int")=some false
 k_tstr_tint:PySem.W.kitOne K (.type "str") (.type "int")=some false
 k_Way_Way:PySem.W.kitOne K (.ref a.c_Way) (.ref a.c_Way)=some true
 k_tbool_tbool:PySem.W.kitOne K (.type "bool") (.type "bool")=some true
 g_MOST_HANDS:mg "MOST_HANDS" = some (.int 12 a.t_MOST_HANDS)
 g_LAST_HAND:mg "LAST_HAND" = some (.int 99 a.t_LAST_HAND)
def LnAt (H:Hp) (rs:List V) (ls:List (Int×Int)):Prop:=rs.length=ls.length∧∀ (i:Nat) r p,rs[i]?=some r→ls[i]?=some p→∃ q,r=.ref q∧H q=some (.tup [.int p.1,.int p.2])
theorem LnAt.same {H H':Hp}{rs:List V}{ls:List (Int×Int)}(h:LnAt H rs ls) (s:Same H H'):LnAt H' rs ls:=⟨h.1,fun i r p h1 h2=>by
 obtain⟨q,e,t⟩:=h.2 i r p h1 h2
 exact⟨q,e,s _ _ t⟩⟩
theorem LnAt.get {H:Hp}{rs:List V}{ls:List (Int×Int)}(h:LnAt H rs ls){i:Nat}{r:V}(e:rs[i]?=some r):∃ p q,ls[i]?=some p∧r=.ref q∧H q=some (.tup [.int p.1,.int p.2]):=by
 have hi:i<ls.length:=by rw[← h.1];exact(List.getElem?_eq_some_iff.mp e).1
 have hp:ls[i]?=some ls[i]:=by simp[hi]
 obtain⟨q,e1,e2⟩:=h.2 i r _ e hp
 exact⟨_,q,hp,e1,e2⟩
theorem yx {x:Int}:∀ {ns:List Int},inV (.int x) (ns.map V.int)=decide (x∈ns)
 |[]=>by simp[inV]
 |n::ns=>by
  have ih:=yx (x:=x) (ns:=ns)
  unfold inV at ih ⊢
  rw[List.map_cons,List.any_cons,ih]
  show((n == x)||decide (x∈ns))=decide (x∈n::ns)
  by_cases e:n=x
  ·simp[e]
  ·have e':¬ x=n:=fun z=>e z.symm
   simp[e,e']
theorem ym (ns:List Int):(ns.map V.int).all xO=true:=by
 rw[List.all_eq_true]
 intro v hv
 obtain⟨x,_,rfl⟩:=List.mem_map.mp hv
 rfl
section
variable {P:Program}{w:World}{K:PySem.W.Frag}{mg:Str→Option Value}{base:Heap}{a:Ad}
def wm:Sp:=fun vs H Q _=>∃ i:Int,vs=[.int i]∧Q (.bl true) H
theorem wv (T:Txt w K mg a):FnOk P w K mg base CX0 1 a.f_qa a.d_qa ["value"] wm:=by
 refine T.F_qa.ok Vo (fun vs H Q E h=>?_) (fun cdv A outer s H vs Q E hr h=>?_)
 ·obtain⟨i,rfl,_⟩:=h
  rfl
 ·obtain⟨i,rfl,k⟩:=h
  refine⟨_,(zM (yB (vY (ya zI (by rfl) T.n_isinstance zq (xr (pv 0) (xr (wb T.n_int Yo) zT))) (ZF (XD (ya zI (by rfl) T.n_isinstance zq (xr (pv 0) (xr (wb T.n_bool wB) zT)))))))),?_⟩
  refine⟨_,rfl,_,_,_,_,_,rfl,rfl,.int i,T.k_tint_tint,_,rfl,xh ?_⟩
  exact⟨_,rfl,_,_,_,_,_,rfl,rfl,.int i,T.k_tint_tbool,_,rfl,k⟩
def Zs:Sp:=fun vs H Q _=>∃ (h:Addr) (hs:List Int),vs=[.ref h]∧H h=some (.lst (hs.map V.int))∧Hs hs∧Q (.bl true) H
theorem YU (T:Txt w K mg a):FnOk P w K mg base CX0 2 a.f_qj a.d_qj ["hands"] Zs:=by
 have c_qa:Callee P w K mg base "is_whole" a.f_qa a.d_qa ["value"] 1 wm:=⟨wv T,T.g_qa,T.F_qa.kp,T.b_qa⟩
 refine T.F_qj.ok sc_qj (fun vs H Q E h=>?_) (fun cdv A outer s H vs Q E hr h=>?_)
 ·obtain⟨h,hs,rfl,_⟩:=h
  rfl
 ·obtain⟨h,hs,rfl,hh,W,k⟩:=h
  have w1:=W.l1
  have w12:=W.l12
  refine⟨_,(zG (wo (PW.pt (wM (yR (yQ (ya zI (by rfl) T.n_isinstance zq (xr (pv 0) (xr (wb T.n_list yX) zT))))) (wM (xo wS (ya zw (by rfl) T.n_len zY (xr (pv 0) zT)) yS (zv _)) (xZ (xo vt (ya zw (by rfl) T.n_len zY (xr (pv 0) zT)) (vo (v:=.int 12) rfl T.g_MOST_HANDS ⟨_,rfl⟩) (zv _))))))
    (zM (yB xT))
    yu)
   (zG (wN (i:=1) sc_qj.nd rfl (Or.inl rfl) (VA xF yS))
   (zG (wO PassesOwn.never rfl (xH (pv 0)) (xp (i:=2) sc_qj.nd rfl (Or.inl rfl))
    (zG (wo (PW.pt (wM (yR (yQ (XF c_qa (hr.mono (by omega)) (xr (pv 2) zT)))) (wM (xo zbi (pv 2) (pv 1) (zv _)) (xZ (xo vt (pv 2) (vo (v:=.int 99) rfl T.g_LAST_HAND ⟨_,rfl⟩) (zv _))))))
     (zM (yB xT))
     yu)
    (zM (wN (i:=1) sc_qj.nd rfl (Or.inl rfl) (pv 2)))))
   (zM (yB xT))))),?_⟩
  refine⟨_,rfl,_,_,_,_,_,rfl,rfl,.lst hh,T.k_tlist_tlist,_,rfl,iteN rfl ?_⟩
  refine⟨_,rfl,h,_,rfl,.inl (SqL.of hh),_,_,rfl,rfl,_,rfl,iteN (decide_eq_false (by rw[List.length_map];omega)) ?_⟩
  refine⟨_,rfl,h,_,rfl,.inl (SqL.of hh),_,_,rfl,rfl,_,rfl,iteN (decide_eq_false (by rw[List.length_map];omega)) ?_⟩
  refine⟨1,rfl,_,rfl,h,rfl,⟨_,SqL.of hh⟩,?_⟩
  refine for_list (K:=K) (a:=h) (xs:=hs.map V.int) (fun i σ H'=>H'=H∧∃ (m:Int) (o:Option V),σ=[some (.ref h),some (.int m),o]∧-1≤m∧∀ j x,i≤j→hs[j]?=some x→m<x) ?_ ?_ ?_ ?_
  ·refine⟨rfl,-1,none,rfl,Int.le_refl _,fun j x _ hx=>?_⟩
   have:=W.lo x (List.mem_of_getElem? hx)
   omega
  ·rintro i σ H' _ ⟨rfl,_⟩
   exact SqL.of hh
  ·rintro i x σ H' hi ⟨rfl,m,o,rfl,hm,hall⟩
   rw[List.getElem?_map] at hi
   obtain⟨y,hy,rfl⟩:=Option.map_eq_some_iff.mp hi
   have y1:=hall i y (Nat.le_refl _) hy
   have y2:=W.hi y (List.mem_of_getElem? hy)
   refine⟨_,rfl,y,rfl,_,rfl,iteN rfl ?_⟩
   refine⟨_,rfl,_,rfl,_,_,rfl,rfl,_,rfl,iteN (decide_eq_false (by omega)) ?_⟩
   refine⟨_,rfl,_,_,rfl,rfl,_,rfl,iteN (decide_eq_false (by omega)) ?_⟩
   refine⟨_,rfl,rfl,y,_,rfl,by omega,fun j z hj hz=>?_⟩
   have hlt:i<j:=by omega
   obtain⟨b1,e1⟩:=List.getElem?_eq_some_iff.mp hy
   obtain⟨b2,e2⟩:=List.getElem?_eq_some_iff.mp hz
   rw[← e1,← e2]
   exact List.pairwise_iff_getElem.mp W.up i j b1 b2 hlt
  ·rintro σ H' ⟨rfl,_⟩
   exact k
def spLine:Sp:=fun vs H Q _=>∃ (q h:Addr) (hs:List Int) (p:Int×Int),vs=[.ref q,.ref h]∧H q=some (.tup [.int p.1,.int p.2])∧H h=some (.lst (hs.map V.int))∧(p.1∈hs∧p.2∈hs∧p.1<p.2)∧Q (.bl true) H
theorem Wv (T:Txt w K mg a):FnOk P w K mg base CX0 2 a.f_qk a.d_qk ["line", "hands"] spLine:=by
 have c_qa:Callee P w K mg base "is_whole" a.f_qa a.d_qa ["value"] 1 wm:=⟨wv T,T.g_qa,T.F_qa.kp,T.b_qa⟩
 refine T.F_qk.ok za0 (fun vs H Q E h=>?_) (fun cdv A outer s H vs Q E hr h=>?_)
 ·obtain⟨q,h,hs,p,rfl,_⟩:=h
  rfl
 ·obtain⟨q,h,hs,⟨x,y⟩,rfl,hq,hh,⟨h1,h2,h3⟩,k⟩:=h
  dsimp only at hq h1 h2 h3
  refine⟨_,(zG (wo (PW.pt (wM (yR (yQ (ya zI (by rfl) T.n_isinstance zq (xr (pv 0) (xr (wb T.n_tuple yA) zT))))) (xZ (xo wt (ya zw (by rfl) T.n_len zY (xr (pv 0) zT)) yS (zv _)))))
    (zM (yB xT))
    yu)
   (zG (wo (PW.pt (wM (yR (yQ (XF c_qa (hr.mono (by omega)) (yF (vn zP (pv 0) yS (fun _ _=>rfl)) zT)))) (xZ (yR (yQ (XF c_qa (hr.mono (by omega)) (yF (vn zP (pv 0) yS (fun _ _=>rfl)) zT)))))))
    (zM (yB xT))
    yu)
   (zM (yB (vY (wq xb (vn zP (pv 0) yS (fun _ _=>rfl)) (pv 1) (by with_unfolding_all rfl)) (vY (wq xb (vn zP (pv 0) yS (fun _ _=>rfl)) (pv 1) (by with_unfolding_all rfl)) (ZF (wq wS (vn zP (pv 0) yS (fun _ _=>rfl)) (vn zP (pv 0) yS (fun _ _=>rfl)) (zv _))))))))),?_⟩
  refine⟨_,rfl,_,_,_,_,_,rfl,rfl,.tup hq,T.k_ttuple_ttuple,_,rfl,iteN rfl ?_⟩
  refine⟨_,rfl,q,_,rfl,.inr (SqT.of hq),rfl,_,rfl,iteN rfl ?_⟩
  refine⟨_,rfl,q,_,0,_,rfl,rfl,SqT.of hq,rfl,x,rfl,_,rfl,iteN rfl ?_⟩
  refine⟨_,rfl,q,_,1,_,rfl,rfl,SqT.of hq,rfl,y,rfl,_,rfl,iteN rfl ?_⟩
  refine⟨_,rfl,q,_,0,_,rfl,rfl,SqT.of hq,rfl,_,rfl,h,_,rfl,.inl (SqL.of hh),rfl,ym hs,_,rfl,iteB (by show inV (.int x) _=true;rw[yx];exact decide_eq_true h1) ?_⟩
  refine⟨_,rfl,q,_,1,_,rfl,rfl,SqT.of hq,rfl,_,rfl,h,_,rfl,.inl (SqL.of hh),rfl,ym hs,_,rfl,iteB (by show inV (.int y) _=true;rw[yx];exact decide_eq_true h2) ?_⟩
  refine⟨_,rfl,q,_,0,_,rfl,rfl,SqT.of hq,rfl,_,rfl,q,_,1,_,rfl,rfl,SqT.of hq,rfl,_,_,rfl,rfl,?_⟩
  show Q (.bl (decide (x<y))) H
  rw[decide_eq_true h3]
  exact k
section
variable {κ:Type} [DecidableEq κ]
theorem xE {kvs:List (κ×V)}{k:κ}:(yV kvs k).isSome=decide (k∈kvs.map (·.1)):=by
 rw[← yM]
 by_cases h:k∈kvs.map (·.1)
 ·rw[decide_eq_true h,List.any_eq_true]
  obtain⟨p,hp,rfl⟩:=List.mem_map.mp h
  exact⟨p,hp,decide_eq_true rfl⟩
 ·rw[decide_eq_false h,List.any_eq_false]
  intro p hp e
  exact h (List.mem_map.mpr ⟨p,hp,of_decide_eq_true e⟩)
theorem valV_no {kvs:List (κ×V)}{k:κ}(h:k∉kvs.map (·.1)):(yV kvs k).isSome=false:=by rw[xE];exact decide_eq_false h
theorem putK_new {kvs:List (κ×V)}{k:κ}{v:V}(h:k∉kvs.map (·.1)):putK kvs k v=kvs++[(k,v)]:=by
 unfold putK
 rw[if_neg]
 rw[yM,xE,decide_eq_true_iff]
 exact h
end
theorem _root_.L2.Same.updF {p:Addr}{H H':Hp}{o:HO}(x:Same H H') (h:H p=none):Same H (L2.upd H' p o):=fun b u e=>by
 rw[upd_ne (ne_of_none e h)];exact x b u e
abbrev v7 (p:Int×Int):List Key:=[Sum.inl p.1,Sum.inl p.2]
theorem v6 {p q:Int×Int}(h:v7 p=v7 q):p=q:=by
 obtain⟨a,b⟩:=p
 obtain⟨c,d⟩:=q
 simp[v7] at h
 rw[h.1,h.2]
theorem ww {α:Type}{xs:List α}{i:Nat}{x:α}(h:xs.Nodup) (e:xs[i]?=some x):x∉xs.take i:=by
 intro m
 obtain⟨j,hj,ej⟩:=List.getElem_of_mem m
 obtain⟨hi,ei⟩:=List.getElem?_eq_some_iff.mp e
 rw[List.getElem_take] at ej
 rw[List.length_take] at hj
 have:=(List.nodup_iff_pairwise_ne.mp h)
 exact List.pairwise_iff_getElem.mp this j i (by omega) hi (by omega) (ej.trans ei.symm)
def Zr:Sp:=fun vs H Q _=>∃ (l h:Addr) (rs:List V) (hs:List Int) (ls:List (Int×Int)),vs=[.ref l,.ref h]∧H l=some (.lst rs)∧LnAt H rs ls∧H h=some (.lst (hs.map V.int))∧Ls hs ls∧∀ H',Same H H'→Q (.bl true) H'
theorem YS (T:Txt w K mg a):FnOk P w K mg base CX0 3 a.f_ql a.d_ql ["lines", "hands"] Zr:=by
 have c_qk:Callee P w K mg base "is_line" a.f_qk a.d_qk ["line", "hands"] 2 spLine:=⟨Wv T,T.g_qk,T.F_qk.kp,T.b_qk⟩
 refine T.F_ql.ok sc_ql (fun vs H Q E h=>?_) (fun cdv A outer s H vs Q E hr h=>?_)
 ·obtain⟨l,h,rs,hs,ls,rfl,_⟩:=h
  rfl
 ·obtain⟨l,h,rs,hs,ls,rfl,hl,hrs,hh,L,k⟩:=h
  have l66:=L.le
  have hu:=xw hr
  refine⟨_,(zG (wo (yR (yQ (ya zI (by rfl) T.n_isinstance zq (xr (pv 0) (xr (wb T.n_list yX) zT)))))
    (zM (yB xT))
    yu)
   (zG (wN (i:=2) sc_ql.nd rfl (Or.inl rfl) vW)
   (zG (wO PassesOwn.never rfl (xH (pv 0)) (xp (i:=3) sc_ql.nd rfl (Or.inl rfl))
    (zG (wo (PW.pt (wM (yR (yQ (XF c_qk (hr.mono (by omega)) (xr (pv 3) (xr (pv 1) zT))))) (xZ (XB (XG hu (pv 3) (pv 2))))))
     (zM (yB xT))
     yu)
    (zM (vm hu (pv 2) (pv 3) xT rfl))))
   (zM (yB xT))))),?_⟩
  refine⟨_,rfl,_,_,_,_,_,rfl,rfl,.lst hl,T.k_tlist_tlist,_,rfl,iteN rfl ?_⟩
  refine fun d hd=>?_
  refine⟨_,rfl,l,rfl,⟨_,SqL.of (Same.new hd _ _ hl)⟩,?_⟩
  refine for_list (K:=K) (a:=l) (xs:=rs) (fun i σ H'=>∃ (kvs:List (List Key×V)) (o:Option V),σ=[some (.ref l),some (.ref h),some (.ref d),o]∧H' d=some (.dT kvs)∧kvs.map (·.1)=(ls.take i).map v7∧Same H H') ?_ ?_ ?_ ?_
  ·exact⟨[],none,rfl,upd_same,by simp,Same.new hd⟩
  ·rintro i σ H' _ ⟨kvs,o,_,_,_,sm⟩
   exact SqL.of (sm _ _ hl)
  ·rintro i x σ H' hi ⟨kvs,o,rfl,hd',hk,sm⟩
   obtain⟨p,q,hp,rfl,hq⟩:=(hrs.same sm).get hi
   have hm:p∈ls:=List.mem_of_getElem? hp
   refine⟨_,rfl,_,rfl,q,h,hs,p,rfl,hq,sm _ _ hh,L.ok p hm,_,rfl,iteN rfl ?_⟩
   have hnew:v7 p∉kvs.map (·.1):=by
    rw[hk]
    intro z
    obtain⟨p',m',e'⟩:=List.mem_map.mp z
    rw[v6 e'] at m'
    exact ww L.nd hp m'
   have hz:kvs.length≤1000:=by
    have:=congrArg List.length hk
    rw[List.length_map,List.length_map,List.length_take] at this
    omega
   refine⟨_,rfl,_,rfl,d,_,rfl,DGet.t (k:=v7 p) hd' hq,_,rfl,iteN ?_ ?_⟩
   ·exact valV_no hnew
   ·refine⟨_,rfl,_,rfl,d,_,rfl,DPut.t (k:=v7 p) hd' hq (zo hz),?_⟩
    refine⟨_,_,rfl,upd_same,?_,sm.updF hd⟩
    rw[putK_new hnew,List.map_append,hk,List.take_add_one,hp,List.map_append]
    rfl
  ·rintro σ H' ⟨kvs,o,_,_,_,sm⟩
   exact k H' sm
def tab (ad:Int→Addr) (us:List Int):List (Key×V):=us.map fun h=>(Sum.inl h,V.ref (ad h))
theorem YB {ad:Int→Addr}{us:List Int}:(tab ad us).map (·.1)=us.map Sum.inl:=by
 unfold tab;rw[List.map_map];rfl
theorem Xu {ad:Int→Addr}{x:Int}:∀ {us:List Int},x∈us→yV (tab ad us) (Sum.inl x:Key)=some (V.ref (ad x))
 |u::us,h=>by
  show yV ((Sum.inl u,V.ref (ad u))::tab ad us) _=_
  by_cases e:u=x
  ·subst e;rw[xy rfl]
  ·rw[xz (fun z=>e (by injection z)),Xu]
   rcases List.mem_cons.mp h with z | z
   ·exact absurd z.symm e
   ·exact z
theorem wj {H:Hp}{d:Addr}{ad:Int→Addr}{us:List Int}{x:Int}(e:H d=some (.dK (tab ad us))) (h:x∈us):DGet H d (V.int x) (some (V.ref (ad x))):=by
 have:=DGet.k (k:=Sum.inl x) e
 rw[Xu h] at this
 exact this
theorem Z7 {x:Int}{us:List Int}:(Sum.inl x:Key)∈us.map (Sum.inl:Int→Key)↔x∈us:=by
 rw[List.mem_map]
 exact⟨fun⟨y,h,e⟩=>by injection e with e;exact e ▸ h,fun h=>⟨x,h,rfl⟩⟩
def Um (ad:Int→Addr) (y:Int) (p:Addr):Int→Addr:=fun x=>if x=y then p else ad x
theorem putA_at {ad:Int→Addr}{x y:Int}{p:Addr}(e:x=y):Um ad y p x=p:=if_pos e
theorem putA_ne {ad:Int→Addr}{x y:Int}{p:Addr}(e:¬ x=y):Um ad y p x=ad x:=if_neg e
structure Near (H:Hp) (d:Addr) (hs:List Int) (ls:List (Int×Int)) (ad:Int→Addr):Prop where
 d:H d=some (.dK (tab ad hs))
 nb:∀ h∈hs,H (ad h)=some (.lst ((nbs ls h).map V.int))
theorem Near.same {H H':Hp}{d:Addr}{hs:List Int}{ls:List (Int×Int)}{ad:Int→Addr}(n:Near H d hs ls ad) (s:Same H H'):Near H' d hs ls ad:=⟨s _ _ n.d,fun h m=>s _ _ (n.nb h m)⟩
def Xz:Sp:=fun vs H Q _=>∃ (h l:Addr) (rs:List V) (hs:List Int) (ls:List (Int×Int)),vs=[.ref h,.ref l]∧H h=some (.lst (hs.map V.int))∧H l=some (.lst rs)∧LnAt H rs ls∧Hs hs∧Ls hs ls ∧
 ∀ (d:Addr) (ad:Int→Addr) H',Same H H'→H d=none→(∀ x∈hs,H (ad x)=none)→Near H' d hs ls ad→Q (.ref d) H'
theorem Wu (T:Txt w K mg a):FnOk P w K mg base CX0 1 a.f_qm a.d_qm ["hands", "lines"] Xz:=by
 refine T.F_qm.ok sc_qm (fun vs H Q E h=>?_) (fun cdv A outer s H vs Q E hr h=>?_)
 ·obtain⟨h,l,rs,hs,ls,rfl,_⟩:=h
  rfl
 ·obtain⟨h,l,rs,hs,ls,rfl,hh,hl,hrs,W,L,k⟩:=h
  have l66:=L.le
  have l12:=W.l12
  have hu:=xw hr
  refine⟨_,(zG (wN (i:=2) sc_qm.nd rfl (Or.inl rfl) vX)
   (zG (wO PassesOwn.never rfl (xH (pv 0)) (xp (i:=3) sc_qm.nd rfl (Or.inl rfl))
    (zM (vm hu (pv 2) (pv 3) (XE zT) rfl)))
   (zG (wO PassesOwn.never rfl (xH (pv 1)) (XC rfl (wp (xp (i:=4) sc_qm.nd rfl (Or.inl rfl)) (wp (xp (i:=5) sc_qm.nd rfl (Or.inl rfl)) ZD)))
    (zG (vk (Ws PySem.F.plainAttrs_list PySem.F.slot_list_append PySem.F.type_list_append zQ (vp hu (pv 2) (pv 4) (fun _ _=>rfl)) (xr (pv 5) zT)))
    (zM (vk (Ws PySem.F.plainAttrs_list PySem.F.slot_list_append PySem.F.type_list_append zQ (vp hu (pv 2) (pv 5) (fun _ _=>rfl)) (xr (pv 4) zT))))))
   (zM (yB (pv 2)))))),?_⟩
  refine fun d hd=>?_
  refine⟨_,rfl,h,rfl,⟨_,SqL.of (Same.new hd _ _ hh)⟩,?_⟩
  refine for_list (K:=K) (a:=h) (xs:=hs.map V.int) (fun i σ H'=>∃ (ad:Int→Addr) (o:Option V),σ=[some (.ref h),some (.ref l),some (.ref d),o,none,none]∧H' d=some (.dK (tab ad (hs.take i))) ∧
   (∀ x∈hs.take i,H' (ad x)=some (.lst [])∧H (ad x)=none)∧(∀ x∈hs.take i,∀ y∈hs.take i,ad x=ad y→x=y)∧Same H H') ?_ ?_ ?_ ?_
  ·exact⟨fun _=>0,none,rfl,upd_same,fun x hx=>by simp at hx,fun x hx=>by simp at hx,Same.new hd⟩
  ·rintro i σ H' _ ⟨ad,o,_,_,_,_,sm⟩
   exact SqL.of (sm _ _ hh)
  ·rintro i x σ H' hi ⟨ad,o,rfl,hd',hat,hinj,sm⟩
   rw[List.getElem?_map] at hi
   obtain⟨y,hy,rfl⟩:=Option.map_eq_some_iff.mp hi
   have hnew:y∉hs.take i:=ww (YA W.up) hy
   refine⟨(by show 0≤sizeLine;decide),fun p hp=>?_⟩
   have hpd:p≠d:=fun z=>by rw[z,hd'] at hp;cases hp
   have hd2:(upd H' p (.lst [])) d=some (.dK (tab ad (hs.take i))):=by rw[upd_ne hpd.symm];exact hd'
   refine⟨_,rfl,_,rfl,d,_,rfl,DPut.k (k:=Sum.inl y) hd2 (zo ?_),?_⟩
   ·unfold tab
    rw[List.length_map,List.length_take];omega
   ·have et:hs.take (i+1)=hs.take i++[y]:=by rw[List.take_add_one,hy];rfl
    have hp0:H p=none:=sm.free hp
    have hne:∀ x∈hs.take i,ad x≠p:=fun x hx z=>by
     have:=(hat x hx).1
     rw[z,hp] at this;cases this
    have had:∀ x∈hs.take i,ad x≠d:=fun x hx z=>by
     have:=(hat x hx).1
     rw[z,hd'] at this;cases this
    refine⟨Um ad y p,_,rfl,?_,?_,?_,(sm.updF hp0).updF hd⟩
    ·rw[upd_same,K04.putK_new (by rw[YB,Z7];exact hnew),et]
     unfold tab
     rw[List.map_append]
     congr 3
     ·refine List.map_congr_left fun x hx=>?_
      rw[putA_ne (fun z=>hnew (by rw[← z];exact hx))]
     ·show _=[(Sum.inl y,V.ref (Um ad y p y))]
      rw[putA_at rfl]
    ·intro x hx
     rw[et,List.mem_append,List.mem_singleton] at hx
     by_cases e:x=y
     ·rw[putA_at e,upd_ne hpd,upd_same]
      exact⟨rfl,hp0⟩
     ·rw[putA_ne e]
      have hx:=hx.resolve_right e
      rw[upd_ne (had x hx),upd_ne (hne x hx)]
      exact hat x hx
    ·intro x hx z hz
     rw[et,List.mem_append,List.mem_singleton] at hx hz
     by_cases e1:x=y
     ·by_cases e2:z=y
      ·intro _;rw[e1,e2]
      ·rw[putA_at e1,putA_ne e2]
       intro q;exact absurd q.symm (hne z (hz.resolve_right e2))
     ·by_cases e2:z=y
      ·rw[putA_ne e1,putA_at e2]
       intro q;exact absurd q (hne x (hx.resolve_right e1))
      ·rw[putA_ne e1,putA_ne e2]
       exact hinj x (hx.resolve_right e1) z (hz.resolve_right e2)
  ·rintro σ H1 ⟨ad,o,rfl,hd',hat,hinj,sm⟩
   rw[List.length_map,List.take_length] at hd' hat hinj
   refine⟨_,rfl,l,rfl,⟨_,SqL.of (sm _ _ hl)⟩,?_⟩
   refine for_list (K:=K) (a:=l) (xs:=rs) (fun i σ H'=>∃ (o1 o2:Option V),σ=[some (.ref h),some (.ref l),some (.ref d),o,o1,o2]∧Near H' d hs (ls.take i) ad∧Same H H') ?_ ?_ ?_ ?_
   ·exact⟨none,none,rfl,⟨hd',fun x hx=>by rw[List.take_zero];exact(hat x hx).1⟩,sm⟩
   ·rintro i σ H' _ ⟨o1,o2,_,_,sm'⟩
    exact SqL.of (sm' _ _ hl)
   ·rintro i x σ H' hi ⟨o1,o2,rfl,N,sm'⟩
    obtain⟨⟨x,y⟩,q,hp,rfl,hq⟩:=(hrs.same sm').get hi
    obtain⟨hx,hy,hxy⟩:=L.ok _ (List.mem_of_getElem? hp)
    dsimp only at hq hx hy hxy
    refine⟨q,_,rfl,SqT.of hq,rfl,_,_,rfl,_,_,rfl,rfl,?_⟩
    have len:∀ z,((nbs (ls.take i) z).map V.int).length<sizeLine:=fun z=>by
     rw[List.length_map]
     have:=ZS (h:=z) (ls:=ls.take i)
     rw[List.length_take] at this
     exact zo (by omega)
    have hdx:ad x≠d:=fun z=>by
     have:=N.nb x hx
     rw[z,N.d] at this;cases this
    have hdy:ad y≠d:=fun z=>by
     have:=N.nb y hy
     rw[z,N.d] at this;cases this
    have hne:ad y≠ad x:=fun z=>by have:=hinj y hy x hx z;omega
    refine⟨_,rfl,_,rfl,d,V.ref (ad x),rfl,wj N.d hx,.inl ⟨rfl,_,SqL.of (N.nb x hx)⟩,_,rfl,_,_,_,rfl,rfl,N.nb x hx,len x,?_⟩
    have nd2:(upd H' (ad x) (.lst ((nbs (ls.take i) x).map V.int++[V.int y]))) d=some (.dK (tab ad hs)):=by rw[upd_ne hdx.symm];exact N.d
    have ny2:(upd H' (ad x) (.lst ((nbs (ls.take i) x).map V.int++[V.int y]))) (ad y)=some (.lst ((nbs (ls.take i) y).map V.int)):=by rw[upd_ne hne];exact N.nb y hy
    refine⟨_,rfl,_,rfl,d,V.ref (ad y),rfl,wj nd2 hy,.inl ⟨rfl,_,SqL.of ny2⟩,_,rfl,_,_,_,rfl,rfl,ny2,len y,?_⟩
    refine⟨_,_,rfl,⟨?_,fun z hz=>?_⟩,(sm'.updF (hat x hx).2).updF (hat y hy).2⟩
    ·rw[upd_ne hdy.symm];exact nd2
    ·rw[YX hp]
     by_cases e2:z=y
     ·subst e2
      rw[upd_same,if_neg (by show ¬ x=z;omega),if_pos rfl,List.map_append]
      rfl
     ·rw[upd_ne (fun q=>e2 (hinj z hz y hy q))]
      by_cases e1:z=x
      ·subst e1
       rw[upd_same,if_pos rfl,if_neg (by show ¬ y=z;omega),List.map_append]
       rfl
      ·rw[upd_ne (fun q=>e1 (hinj z hz x hx q)),if_neg (fun q=>e1 q.symm),if_neg (fun q=>e2 q.symm),List.append_nil,List.append_nil]
       exact N.nb z hz
   ·rintro σ H' ⟨o1,o2,rfl,N,sm'⟩
    rw[hrs.1,List.take_length] at N
    exact⟨_,rfl,k d ad H' sm' hd (fun x hx=>(hat x hx).2) N⟩
theorem Near.ext {H H':Hp}{d p dx C:Addr}{fs:List (Str×V)}{hs:List Int}{ls:List (Int×Int)}{ad:Int→Addr}(n:Near H d hs ls ad) (hp:H p=some (.ins C dx fs)) (s:Ext p H H'):Near H' d hs ls ad :=
 ⟨s _ _ n.d (fun z=>by rw[← z,n.d] at hp;cases hp),fun h m=>s _ _ (n.nb h m) (fun z=>by rw[← z,n.nb h m] at hp;cases hp)⟩
theorem LnAt.ext {H H':Hp}{p dx C:Addr}{fs:List (Str×V)}{rs:List V}{ls:List (Int×Int)}(h:LnAt H rs ls) (hp:H p=some (.ins C dx fs)) (s:Ext p H H'):LnAt H' rs ls:=⟨h.1,fun i r q h1 h2=>by
 obtain⟨t,e,ht⟩:=h.2 i r q h1 h2
 exact⟨t,e,s _ _ ht fun z=>by rw[← z,ht] at hp;cases hp⟩⟩
theorem Ext.free {l p:Addr}{H H':Hp}(k:Ext l H H') (n:p≠l) (h:H' p=none):H p=none:=by
 cases e:H p with
 |none=>rfl
 |some o=>have:=k _ _ e n;rw[h] at this;cases this
open Sco
def srt (ls:List (Int×Int)):List (Int×Int):=ls.mergeSort fun p q=>decide (rkP p≤rkP q)
def Bd (ls:List (Int×Int)):Prop:=∀ p∈ls,0≤p.2∧p.2<1000
theorem wk (ls:List (Int×Int)):(srt ls).Perm ls:=List.mergeSort_perm _ _
theorem Vk (ls:List (Int×Int)):(srt ls).Pairwise fun p q=>rkP p≤rkP q:=by
 have:=List.pairwise_mergeSort (le:=fun p q:Int×Int=>decide (rkP p≤rkP q)) (fun a b c h1 h2=>by simp at *;omega) (fun a b=>by simp;omega) ls
 exact this.imp fun h=>by simpa using h
theorem Wa {p q:Int×Int}(bp:0≤p.2∧p.2<1000) (bq:0≤q.2∧q.2<1000) (h:rkP p=rkP q):p=q:=by
 obtain⟨a,b⟩:=p
 obtain⟨c,d⟩:=q
 unfold rkP at h
 dsimp only at *
 have:a=c:=by omega
 subst this
 rw[show b=d by omega]
theorem Xs:∀ {as bs:List (Int×Int)},Bd as→as.Perm bs→as.Pairwise (fun p q=>rkP p≤rkP q)→bs.Pairwise (fun p q=>rkP p≤rkP q)→as=bs
 |[],bs,_,pm,_,_=>(List.nil_perm.mp pm).symm
 |x::as,[],_,pm,_,_=>absurd pm.length_eq (by simp)
 |x::as,y::bs,B,pm,u1,u2=>by
  obtain⟨a1,a2⟩:=List.pairwise_cons.mp u1
  obtain⟨b1,b2⟩:=List.pairwise_cons.mp u2
  have hy:y∈x::as:=pm.mem_iff.mpr List.mem_cons_self
  have hx:x∈y::bs:=pm.mem_iff.mp List.mem_cons_self
  have l1:rkP x≤rkP y:=by
   rcases List.mem_cons.mp hy with z | z
   ·rw[z];exact Int.le_refl _
   ·exact a1 y z
  have l2:rkP y≤rkP x:=by
   rcases List.mem_cons.mp hx with z | z
   ·rw[z];exact Int.le_refl _
   ·exact b1 x z
  have e:x=y:=Wa (B x List.mem_cons_self) (B y hy) (by omega)
  subst e
  rw[Xs (fun p hp=>B p (List.mem_cons_of_mem _ hp)) (List.Perm.cons_inv pm) a2 b2]
theorem Vl {as ls:List (Int×Int)}(B:Bd ls) (pm:as.Perm ls) (u:as.Pairwise fun p q=>rkP p≤rkP q):as=srt ls :=
 Xs (fun p hp=>B p (pm.mem_iff.mp hp)) (pm.trans (wk ls).symm) u (Vk ls)
theorem LnAt.ps {H:Hp}:∀ {rs:List V}{ls:List (Int×Int)},LnAt H rs ls→Bd ls→∃ ps:List PT,ps.map (fun p=>V.ref p.1)=rs∧ps.map (·.2)=ls∧PsAt H ps
 |[],[],_,_=>⟨[],rfl,rfl,fun p hp=>by cases hp⟩
 |[],_::_,h,_=>absurd h.1 (by simp)
 |_::_,[],h,_=>absurd h.1 (by simp)
 |r::rs,p::ls,h,B=>by
  obtain⟨q,rfl,hq⟩:=h.2 0 r p rfl rfl
  obtain⟨ps,e1,e2,e3⟩:=LnAt.ps (H:=H) (rs:=rs) (ls:=ls) ⟨by have:=h.1;simpa using this,fun i r p h1 h2=>h.2 (i+1) r p (by simpa using h1) (by simpa using h2)⟩ fun p hp=>B p (List.mem_cons_of_mem _ hp)
  refine⟨(q,p)::ps,by rw[List.map_cons,e1],by rw[List.map_cons,e2],fun x hx=>?_⟩
  rcases List.mem_cons.mp hx with z | z
  ·rw[z]
   exact⟨hq,B p List.mem_cons_self⟩
  ·exact e3 x z
theorem zbd {H:Hp}{qs:List PT}(h:PsAt H qs):LnAt H (qs.map fun p=>V.ref p.1) (qs.map (·.2)):=by
 refine⟨by simp,fun i r p h1 h2=>?_⟩
 rw[List.getElem?_map] at h1 h2
 obtain⟨q,e1,rfl⟩:=Option.map_eq_some_iff.mp h1
 rw[e1] at h2
 cases h2
 exact⟨q.1,rfl,(h q (List.mem_of_getElem? e1)).1⟩
theorem _root_.L2.Sco.PsAt.same {H H':Hp}{ps:List PT}(h:PsAt H ps) (s:Same H H'):PsAt H' ps:=fun p hp=>⟨s _ _ (h p hp).1,(h p hp).2⟩
theorem _root_.L2.Sco.PsAt.sub {H:Hp}{ps qs:List PT}(h:PsAt H ps) (s:∀ q∈qs,q∈ps):PsAt H qs:=fun p hp=>h p (s p hp)
theorem X1 {H:Hp}{ps qs:List PT}(h:PsAt H ps) (pm:qs.Perm ps) (u:qs.Pairwise fun x y=>rkP x.2≤rkP y.2):LnAt H (qs.map fun p=>V.ref p.1) (srt (ps.map (·.2))):=by
 have e:qs.map (·.2)=srt (ps.map (·.2)):=Vl (fun p hp=>by
  obtain⟨x,hx,rfl⟩:=List.mem_map.mp hp
  exact(h x hx).2) (pm.map _) (by rw[List.pairwise_map];exact u)
 have:=zbd (h.sub fun q hq=>pm.mem_iff.mp hq)
 rw[e] at this
 exact this
theorem Ls.bd {hs:List Int}{ls:List (Int×Int)}(W:Hs hs) (L:Ls hs ls):Bd ls:=fun p hp=>by
 have:=(L.ok p hp).2.1
 have a1:=W.lo p.2 this
 have a2:=W.hi p.2 this
 omega
structure WebAt (a:Ad) (H:Hp) (p:Addr) (hs:List Int) (ls:List (Int×Int)) (dx oh ol d:Addr) (ad:Int→Addr):Prop where
 p:H p=some (.ins a.c_Web dx [("own_hands",.ref oh),("own_lines",.ref ol),("near",.ref d)])
 oh:H oh=some (.lst (hs.map V.int))
 nr:Near H d hs ls ad
 ol:∃ zs,H ol=some (.lst zs)∧LnAt H zs (srt ls)
theorem WebAt.same {H H':Hp}{p dx oh ol d:Addr}{hs:List Int}{ls:List (Int×Int)}{ad:Int→Addr}(w:WebAt a H p hs ls dx oh ol d ad) (s:Same H H'):WebAt a H' p hs ls dx oh ol d ad:=⟨s _ _ w.p,s _ _ w.oh,w.nr.same s,by obtain⟨zs,e1,e2⟩:=w.ol;exact⟨zs,s _ _ e1,e2.same s⟩⟩
def Vm (a:Ad):Sp:=fun vs H Q _=>∃ (p dx h l:Addr) (rs:List V) (hs:List Int) (ls:List (Int×Int)),vs=[.ref p,.ref h,.ref l]∧H p=some (.ins a.c_Web dx [])∧H h=some (.lst (hs.map V.int))∧H l=some (.lst rs)∧LnAt H rs ls∧Hs hs∧Ls hs ls ∧
 ∀ (oh ol d:Addr) (ad:Int→Addr) H',H oh=none→H d=none→(∀ x∈hs,H (ad x)=none)→Ext p H H'→WebAt a H' p hs ls dx oh ol d ad→Q .non H'
theorem VI (T:Txt w K mg a):FnOk P w K mg base CX0 4 a.f_qG a.d_qG ["self", "hands", "lines"] (Vm a):=by
 have c_qj:Callee P w K mg base "are_hands" a.f_qj a.d_qj ["hands"] 2 Zs:=⟨YU T,T.g_qj,T.F_qj.kp,T.b_qj⟩
 have c_ql:Callee P w K mg base "are_lines" a.f_ql a.d_ql ["lines", "hands"] 3 Zr:=⟨YS T,T.g_ql,T.F_ql.kp,T.b_ql⟩
 have c_qm:Callee P w K mg base "near_by_hand" a.f_qm a.d_qm ["hands", "lines"] 1 Xz:=⟨Wu T,T.g_qm,T.F_qm.kp,T.b_qm⟩
 refine T.F_qG.ok za8 (fun vs H Q E h=>?_) (fun cdv A outer s H vs Q E hr h=>?_)
 ·obtain⟨p,dx,h,l,rs,hs,ls,rfl,_⟩:=h
  rfl
 ·obtain⟨p,dx,h,l,rs,hs,ls,rfl,hp,hh,hl,hrs,W,L,k⟩:=h
  have l66:=L.le
  have np:∀ {b:Addr}{xs:List V},H b=some (.lst xs)→b≠p:=fun e z=>by rw[z,hp] at e;cases e
  refine⟨_,(zG (wo (yR (yQ (XF c_qj (hr.mono (by omega)) (xr (pv 1) zT))))
    (zM vU)
    yu)
   (zG (wo (yR (yQ (XF c_ql (hr.mono (by omega)) (xr (pv 2) (xr (pv 1) zT)))))
    (zM vU)
    yu)
   (zG (vV (pv 0) (wQ yJ (by rfl) T.n_list yX (xr (pv 1) zT)) rfl)
   (zG (vV (pv 0) (ya Sco.call_sortX (by rfl) T.n_sorted xi (xr (pv 2) zT)) rfl)
   (zM (vV (pv 0) (XF c_qm (hr.mono (by omega)) (xr (pv 1) (xr (pv 2) zT))) rfl)))))),?_⟩
  refine⟨_,rfl,h,hs,rfl,hh,W,_,rfl,iteN rfl ?_⟩
  refine⟨_,rfl,_,rfl,l,h,rs,hs,ls,rfl,hl,hrs,hh,L,fun H1 s1=>⟨_,rfl,iteN rfl ?_⟩⟩
  refine⟨_,rfl,h,_,rfl,.inl (SqL.of (s1 _ _ hh)),fun oh hoh=>?_⟩
  have ohp:oh≠p:=fun z=>by rw[z,s1 _ _ hp] at hoh;cases hoh
  refine⟨_,rfl,p,a.c_Web,dx,_,rfl,(upd_ne ohp.symm).trans (s1 _ _ hp),T.cl_Web,T.na_Web_own_hands,(by show 0<1000;decide),?_⟩
  have x3:=((Ext.same (l:=p) s1).trans (Ext.new (l:=p) (o:=.lst (hs.map V.int)) hoh)).trans (Ext.at (l:=p) (o:=.ins a.c_Web dx [("own_hands",.ref oh)]))
  obtain⟨ps,e1,e2,e3⟩:=(hrs.ext hp x3).ps (L.bd W)
  have l67:ps.length≤66:=by
   have:=congrArg List.length e2
   rw[List.length_map] at this
   omega
  refine⟨_,rfl,l,ps,rfl,by rw[e1];exact SqL.of (x3 _ _ hl (np hl)),l67,e3,fun ol qs hol pm up=>?_⟩
  have hq3:=X1 e3 pm up
  rw[e2] at hq3
  generalize qs.map (fun p=>V.ref p.1)=zs at hq3 ⊢
  have olp:ol≠p:=fun z=>by rw[z,upd_same] at hol;cases hol
  refine⟨_,rfl,p,a.c_Web,dx,_,rfl,(upd_ne olp.symm).trans upd_same,T.cl_Web,T.na_Web_own_lines,(by show 1<1000;decide),?_⟩
  have x35:=(Ext.new (l:=p) (o:=.lst zs) hol).trans (Ext.at (l:=p) (o:=.ins a.c_Web dx [("own_hands",.ref oh),("own_lines",.ref ol)]))
  have x5:=x3.trans x35
  refine⟨_,rfl,_,rfl,h,l,rs,hs,ls,rfl,x5 _ _ hh (np hh),x5 _ _ hl (np hl),hrs.ext hp x5,W,L,fun d ad H6 s6 hd had N=>?_⟩
  have hp6:=s6 _ _ (upd_same (a:=p))
  refine⟨_,rfl,p,a.c_Web,dx,_,rfl,hp6,T.cl_Web,T.na_Web_near,(by show 2<1000;decide),?_⟩
  have nfr:∀ b,(upd (upd (upd (upd H1 oh (.lst (hs.map V.int))) p (.ins a.c_Web dx [("own_hands",.ref oh)])) ol (.lst zs)) p (.ins a.c_Web dx [("own_hands",.ref oh),("own_lines",.ref ol)])) b=none→H b=none:=fun b e=>x5.free (fun z=>by rw[z,upd_same] at e;cases e) e
  refine k oh ol d ad _ (s1.free hoh) (nfr d hd) (fun x hx=>nfr _ (had x hx)) ((x5.trans (Ext.same s6)).trans Ext.at) ⟨upd_same,?_,N.ext hp6 Ext.at,zs,?_,?_⟩
  ·rw[upd_ne ohp]
   exact s6 _ _ (x35 _ _ ((upd_ne ohp).trans upd_same) ohp)
  ·rw[upd_ne olp]
   exact s6 _ _ ((upd_ne olp).trans upd_same)
  ·exact((hq3.ext upd_same x35).same s6).ext hp6 Ext.at
theorem ZR {x:Int}:∀ {ls:List (Int×Int)},ls.Nodup→(∀ p∈ls,p.1<p.2)→(nbs ls x).Nodup
 |[],_,_=>List.nodup_nil
 |p::ls,nd,ok=>by
  obtain⟨n1,n2⟩:=List.nodup_cons.mp nd
  have ih:=ZR (x:=x) n2 fun q hq=>ok q (List.mem_cons_of_mem _ hq)
  have lt:=ok p (List.mem_cons_self ..)
  have e:nbs (p::ls) x=((if p.1=x then[p.2] else[])++if p.2=x then[p.1] else[])++nbs ls x:=by unfold nbs;rw[List.flatMap_cons]
  have no:∀ y,Adj ls x y→y∉((if p.1=x then[p.2] else[])++if p.2=x then[p.1] else[]):=by
   intro y hy hm
   have key:∀ q∈ls,q≠p:=fun q hq z=>n1 (z ▸ hq)
   rcases List.mem_append.mp hm with h | h
   ·by_cases c:p.1=x
    ·rw[if_pos c] at h
     have ey:y=p.2:=List.mem_singleton.mp h
     rcases hy with z | z
     ·exact key _ z (by rw[ey,← c])
     ·have:=ok _ (List.mem_cons_of_mem _ z)
      simp at this
      omega
    ·rw[if_neg c] at h;cases h
   ·by_cases c:p.2=x
    ·rw[if_pos c] at h
     have ey:y=p.1:=List.mem_singleton.mp h
     rcases hy with z | z
     ·have:=ok _ (List.mem_cons_of_mem _ z)
      simp at this
      omega
     ·exact key _ z (by rw[ey,← c])
    ·rw[if_neg c] at h;cases h
  rw[e,List.nodup_append]
  refine⟨?_,ih,fun a ha b hb z=>no b (mem_nbs.mp hb) (z ▸ ha)⟩
  by_cases c1:p.1=x
  ·have c2:¬ p.2=x:=by omega
   rw[if_pos c1,if_neg c2]
   simp
  ·rw[if_neg c1]
   by_cases c2:p.2=x
   ·rw[if_pos c2];simp
   ·rw[if_neg c2];simp
theorem WA {hs:List Int}{ls:List (Int×Int)}{x:Int}(W:Hs hs) (L:Ls hs ls):(nbs ls x).length≤12:=by
 have nd:=ZR (x:=x) L.nd fun p hp=>(L.ok p hp).2.2
 have sub:∀ y∈nbs ls x,y∈hs:=fun y hy=>by
  rcases mem_nbs.mp hy with z | z
  ·exact(L.ok _ z).2.1
  ·exact(L.ok _ z).1
 have:=wU nd sub
 have:=W.l12
 omega
theorem Xr:∀ {as bs:List Int},as.Pairwise (· < ·)→bs.Pairwise (· < ·)→(∀ x,x∈as↔x∈bs)→as=bs
 |[],[],_,_,_=>rfl
 |[],b::bs,_,_,h=>by have:=(h b).mpr (List.mem_cons_self ..);cases this
 |a::as,[],_,_,h=>by have:=(h a).mp (List.mem_cons_self ..);cases this
 |a::as,b::bs,ha,hb,h=>by
  obtain⟨a1,a2⟩:=List.pairwise_cons.mp ha
  obtain⟨b1,b2⟩:=List.pairwise_cons.mp hb
  have e:a=b:=by
   rcases List.mem_cons.mp ((h a).mp (List.mem_cons_self ..)) with e | e
   ·exact e
   ·rcases List.mem_cons.mp ((h b).mpr (List.mem_cons_self ..)) with e' | e'
    ·exact e'.symm
    ·have:=b1 a e
     have:=a1 b e'
     omega
  subst e
  rw[Xr a2 b2 fun x=>⟨fun hx=>by
   rcases List.mem_cons.mp ((h x).mp (List.mem_cons_of_mem _ hx)) with e | e
   ·have:=a1 x hx;omega
   ·exact e,fun hx=>by
   rcases List.mem_cons.mp ((h x).mpr (List.mem_cons_of_mem _ hx)) with e | e
   ·have:=b1 x hx;omega
   ·exact e⟩]
def adB (ls:List (Int×Int)) (x y:Int):Bool:=decide ((x,y)∈ls)||decide ((y,x)∈ls)
theorem Ys {ls:List (Int×Int)}{x y:Int}:decide (y∈nbs ls x)=adB ls x y:=by
 unfold adB
 rw[Bool.eq_iff_iff,Bool.or_eq_true,decide_eq_true_eq,decide_eq_true_eq,decide_eq_true_eq]
 exact mem_nbs
theorem YF {hs:List Int}{ls:List (Int×Int)}{x:Int}{ms:List Int}(W:Hs hs) (L:Ls hs ls) (pm:ms.Perm (nbs ls x)) (sd:ms.Pairwise (· ≤ ·)):ms=hs.filter (adB ls x):=by
 have nd:ms.Nodup:=pm.nodup_iff.mpr (ZR L.nd fun p hp=>(L.ok p hp).2.2)
 have up:ms.Pairwise (· < ·):=(sd.and (List.nodup_iff_pairwise_ne.mp nd)).imp fun h=>by
  have h1:=h.1
  have h2:=h.2
  omega
 refine Xr up (W.up.filter _) fun y=>?_
 rw[pm.mem_iff,List.mem_filter,← Ys,decide_eq_true_eq]
 refine⟨fun h=>⟨?_,h⟩,fun h=>h.2⟩
 rcases mem_nbs.mp h with z | z
 ·exact(L.ok _ z).2.1
 ·exact(L.ok _ z).1
def zaT (a:Ad):Sp:=fun vs H Q _=>∃ (p:Addr) (x:Int) (hs:List Int) (ls:List (Int×Int)) (dx oh ol d:Addr) (ad:Int→Addr),vs=[.ref p,.int x]∧WebAt a H p hs ls dx oh ol d ad∧x∈hs∧Q (.bl true) H
theorem ZO (T:Txt w K mg a):FnOk P w K mg base CX0 2 a.f_qJ a.d_qJ ["self", "hand"] (zaT a):=by
 have c_qa:Callee P w K mg base "is_whole" a.f_qa a.d_qa ["value"] 1 wm:=⟨wv T,T.g_qa,T.F_qa.kp,T.b_qa⟩
 refine T.F_qJ.ok za5 (fun vs H Q E h=>?_) (fun cdv A outer s H vs Q E hr h=>?_)
 ·obtain⟨p,x,hs,ls,dx,oh,ol,d,ad,rfl,_⟩:=h
  rfl
 ·obtain⟨p,x,hs,ls,dx,oh,ol,d,ad,rfl,W,hx,k⟩:=h
  have hu:=xw hr
  refine zV (zf (zj (yp (zt c_qa (hr.mono (by omega)) (zh (zi 1) zd)) (yo (Yw (vL hu (zi 1) (yh (zi 0) rfl))))))) ?_
  refine⟨_,rfl,x,rfl,_,rfl,xh ?_⟩
  exact⟨_,rfl,_,rfl,p,_,dx,_,_,rfl,W.p,T.cl_Web,T.na_Web_near,rfl,d,some (V.ref (ad x)),rfl,wj W.nr.d hx,k⟩
def YE (a:Ad):Sp:=fun vs H Q _=>∃ (p:Addr) (hs:List Int) (ls:List (Int×Int)) (dx oh ol d:Addr) (ad:Int→Addr),vs=[.ref p]∧WebAt a H p hs ls dx oh ol d ad∧∀ q,H q=none→Q (.ref q) (upd H q (.lst (hs.map V.int)))
theorem wT (T:Txt w K mg a):FnOk P w K mg base CX0 1 a.f_qH a.d_qH ["self"] (YE a):=by
 refine T.F_qH.ok za7 (fun vs H Q E h=>?_) (fun cdv A outer s H vs Q E hr h=>?_)
 ·obtain⟨p,hs,ls,dx,oh,ol,d,ad,rfl,_⟩:=h
  rfl
 ·obtain⟨p,hs,ls,dx,oh,ol,d,ad,rfl,W,k⟩:=h
  refine zV (zf (zj (zX yJ (by rfl) T.n_list yX (zr (yh (zi 0) rfl) zd)))) ?_
  exact⟨_,rfl,p,_,dx,_,_,rfl,W.p,T.cl_Web,T.na_Web_own_hands,rfl,oh,_,rfl,.inl (SqL.of W.oh),k⟩
theorem merge_app:∀ {kvs acc:List (Key×V)},((acc++kvs).map (·.1)).Nodup→mergeK acc kvs=acc++kvs
 |[],acc,_=>by simp[mergeK]
 |kv::kvs,acc,h=>by
  have hn:kv.1∉acc.map (·.1):=by
   rw[List.map_append,List.nodup_append] at h
   intro z
   exact h.2.2 _ z _ (by simp) rfl
  show mergeK (putK acc kv.1 kv.2) kvs=_
  rw[putK_new hn,merge_app (by simpa using h)]
  simp
theorem Y4 {kvs:List (Key×V)}(h:(kvs.map (·.1)).Nodup):mergeK [] kvs=kvs:=by
 have:=merge_app (kvs:=kvs) (acc:=[]) (by simpa using h)
 simpa using this
theorem V8 {us:List Int}(h:us.Nodup):(us.map (Sum.inl:Int→Key)).Nodup:=by
 rw[List.nodup_iff_pairwise_ne,List.pairwise_map]
 exact(List.nodup_iff_pairwise_ne.mp h).imp fun {a b} n z=>n (by injection z)
theorem Z8 {hs:List Int}(W:Hs hs):hs.Nodup:=List.nodup_iff_pairwise_ne.mpr (W.up.imp fun {a b} h=>by omega)
theorem LnAt.snoc {H:Hp}{rs:List V}{ls:List (Int×Int)}{q:Addr}{p:Int×Int}(h:LnAt H rs ls) (hq:H q=some (.tup [.int p.1,.int p.2])):LnAt H (rs++[.ref q]) (ls++[p]):=by
 refine⟨by simp[h.1],fun i r p' h1 h2=>?_⟩
 have l:=h.1
 by_cases hi:i<rs.length
 ·rw[List.getElem?_append_left hi] at h1
  rw[List.getElem?_append_left (by omega)] at h2
  exact h.2 i r p' h1 h2
 ·rw[List.getElem?_append_right (by omega)] at h1
  rw[List.getElem?_append_right (by omega),← l] at h2
  obtain⟨n,hn⟩:∃ n,n=i-rs.length:=⟨_,rfl⟩
  rw[← hn] at h1 h2
  cases n with
  |zero=>cases h1;cases h2;exact⟨q,rfl,hq⟩
  |succ n=>simp at h1
theorem LnAt.updL {H:Hp}{rs zs:List V}{ls:List (Int×Int)}{p:Addr}{o:HO}(hp:H p=some (.lst zs)) (h:LnAt H rs ls):LnAt (L2.upd H p o) rs ls:=⟨h.1,fun n r pr e1 e2=>by
 obtain⟨q,e,t⟩:=h.2 n r pr e1 e2
 exact⟨q,e,by rw[upd_ne (Wz t hp (by intro z;cases z))];exact t⟩⟩
theorem at_last {xs:List V}{v:V}:atI (xs++[v]) (-1)=some v:=by
 unfold atI ixN
 rw[if_neg (by decide),if_pos (by simp;omega)]
 simp
 have:((-1:Int)+((xs.length:Int)+1)).toNat=xs.length:=by omega
 rw[this]
 simp
def tabV (f:Int→V) (us:List Int):List (Key×V):=us.map fun h=>(Sum.inl h,f h)
theorem wG {f:Int→V}{us:List Int}:(tabV f us).map (·.1)=us.map Sum.inl:=by
 unfold tabV
 rw[List.map_map]
 rfl
theorem tabV_len {f:Int→V}{us:List Int}:(tabV f us).length=us.length:=by
 unfold tabV
 rw[List.length_map]
theorem vi {f:Int→V}{x:Int}:∀ {us:List Int},x∈us→yV (tabV f us) (Sum.inl x:Key)=some (f x)
 |u::us,h=>by
  unfold tabV yV
  rw[List.map_cons,List.find?_cons]
  by_cases e:u=x
  ·subst e;simp
  ·have:¬ ((Sum.inl u:Key)=Sum.inl x):=fun z=>e (by injection z)
   simp only[decide_eq_false this]
   have:=vi (f:=f) ((List.mem_cons.mp h).resolve_left fun z=>e z.symm)
   unfold tabV yV at this
   exact this
theorem xA {H:Hp}{d:Addr}{f:Int→V}{us:List Int}{x:Int}(e:H d=some (.dK (tabV f us))) (h:x∈us):DGet H d (V.int x) (some (f x)):=by
 have:=DGet.k (k:=.inl x) e
 rw[vi h] at this
 exact this
theorem xY {f g:Int→V}{us:List Int}(h:∀ x∈us,f x=g x):tabV f us=tabV g us:=List.map_congr_left fun x hx=>by rw[h x hx]
theorem YC {f:Int→V}{us:List Int}{x:Int}{v:V}(h:x∉us):putK (tabV f us) (.inl x) v=tabV (fun y=>if y=x then v else f y) (us++[x]):=by
 rw[putK_new (by rw[wG,Z7];exact h)]
 unfold tabV
 rw[List.map_append]
 congr 1
 ·exact List.map_congr_left fun y hy=>by
   show _=(Sum.inl y,if y=x then v else f y)
   rw[if_neg (fun(e:y=x)=>h (by rw[← e];exact hy))]
 ·simp
def XsAt (H:Hp) (l:Addr):Prop:=∃ ns:List Int,H l=some (.lst (ns.map V.int))∧(∀ n∈ns,0≤n)∧ns.length≤200
theorem XsAt.ne {H:Hp}{l p:Addr}(s:XsAt H l) (h:H p=none):p≠l:=fun z=>by
 obtain⟨ns,e,_⟩:=s
 rw[← z,h] at e
 cases e
theorem XsAt.same {H H':Hp}{l:Addr}(s:XsAt H l) (k:Same H H'):XsAt H' l:=by
 obtain⟨ns,e,h⟩:=s
 exact⟨ns,k _ _ e,h⟩
theorem XsAt.new {H:Hp}{l p:Addr}{o:HO}(s:XsAt H l) (h:H p=none):XsAt (upd H p o) l:=s.same (Same.new h)
theorem XsAt.upd {H:Hp}{l p:Addr}{o:HO}(s:XsAt H l) (h:p≠l):XsAt (upd H p o) l:=by
 obtain⟨ns,e,h'⟩:=s
 exact⟨ns,by rw[upd_ne h.symm];exact e,h'⟩
def XA (K:PySem.W.Frag):Sp:=fun vs H Q _=>∃ (l:Addr) (ns:List Int) (k:Int),vs=[.ref l,.int k]∧SqL K H l (ns.map V.int)∧0≤k∧∀ i:Int,Q (.int i) H
theorem Ww (T:Txt w K mg a):FnOk P w K mg base CX0 1 a.f_qn a.d_qn ["_law_script", "_law_k"] (XA K):=by
 refine T.F_qn.ok zaZ (fun vs H Q E h=>?_) (fun cdv A outer s H vs Q E hr h=>?_)
 ·obtain⟨l,ns,k,rfl,_⟩:=h
  rfl
 ·obtain⟨l,ns,k,rfl,hl,k0,q⟩:=h
  refine zV (ze (zx (zk wS (zi 1) (zl zw (by rfl) T.n_len zY (zh (zi 0) zd)) (zv _))
    (zf (zj (zz z7 (zi 0) (zi 1) (fun _ _=>rfl))))
    zn)
   (zf (zj zg))) ?_
  refine⟨_,rfl,_,rfl,l,_,rfl,.inl hl,_,_,rfl,rfl,_,rfl,?_⟩
  rw[List.length_map]
  refine ite2 (fun z=>?_) (fun z=>?_)
  ·have z:k<ns.length:=of_decide_eq_true z
   obtain⟨n,rfl⟩:∃ n:Nat,k=n:=⟨k.toNat,by omega⟩
   have hn:n<ns.length:=by omega
   refine⟨_,rfl,_,rfl,l,_,_,V.int ns[n],rfl,rfl,hl,xQ (by simp[hn]),?_⟩
   exact q _
  ·exact q 0
def vS:Sp:=fun vs H Q _=>∃ (l:Addr) (n:Int),vs=[.ref l,.int n]∧XsAt H l∧0<n∧∀ (d:Int) (H':Hp),0≤d→d<n→XsAt H' l→Ext l H H'→Q (.int d) H'
theorem vv (T:Txt w K mg a):FnOk P w K mg base CX0 1 a.f_qp a.d_qp ["_law_xs", "_law_size"] vS:=by
 refine T.F_qp.ok zaY (fun vs H Q E h=>?_) (fun cdv A outer s H vs Q E hr h=>?_)
 ·obtain⟨l,n,rfl,_⟩:=h
  rfl
 ·obtain⟨l,n,rfl,⟨ns,hl,h0,hlen⟩,hn,k⟩:=h
  have un:∀ n:Nat,n≤3→(A.deeper (PyProof.Rows.envOfC "_law_take" (defScope um) s.heap.objs.size a.f_qp cdv)).units+n+2<cLine:=fun n hn=>by
   have:=hr.units
   omega
  refine zV (ze (zx (zk (we XM XN) (zi 0) (zF zd) (zv _))
    (zf (zj zg))
    zn)
   (zf (zj (zu xu (yq PySem.F.plainAttrs_list PySem.F.slot_list_pop PySem.F.type_list_pop YZ (zi 0) (zO zg zd)) (zi 1))))) ?_
  refine⟨_,rfl,(by show 0≤sizeLine;decide),fun q hq=>?_⟩
  have hql:q≠l:=fun z=>by rw[z,hl] at hq;cases hq
  have hl1:(L2.upd H q (.lst [])) l=_:=(upd_ne hql.symm).trans hl
  cases ns with
  |nil =>
   refine .inl ⟨l,q,_,_,fun _=>true,0,rfl,rfl,.inl ⟨SqL.of hl1,SqL.of upd_same⟩,rfl,?_,?_,?_⟩
   ·exact un 0 (by decide)
   ·intro j x y hx
    cases hx
   ·refine⟨_,rfl,iteB rfl ?_⟩
    exact k 0 _ (Int.le_refl _) hn ⟨[],hl1,h0,hlen⟩ (Ext.new hq)
  |cons n0 ns =>
   refine .inr ⟨l,q,_,_,rfl,rfl,SqL.of hl1,SqL.of upd_same,(by simp),?_,?_⟩
   ·exact Nat.lt_of_le_of_lt (Nat.le_add_right _ 2) (un 0 (by decide))
   ·refine⟨_,rfl,iteN rfl ?_⟩
    refine⟨_,rfl,.inl ⟨rfl,_,SqL.of hl1⟩,l,_,0,0,_,rfl,rfl,hl1,by decide,by decide,(by simp[seqIndex?]),rfl,?_⟩
    refine⟨_,rfl,_,_,rfl,rfl,hn,?_⟩
    refine k _ _ (Int.emod_nonneg _ (Int.ne_of_gt hn)) (Int.emod_lt_of_pos _ hn) ⟨ns,upd_same,fun x hx=>h0 x (List.mem_cons_of_mem _ hx),?_⟩ ((Ext.new hq).trans Ext.at)
    have:ns.length+1≤200:=hlen
    omega
def Zu:Sp:=fun vs H Q _=>∃ (c:Int) (m:Nat),vs=[.int c,.int (m:Int)]∧m≤200∧∀ (q:Addr) (H':Hp),H q=none→XsAt H' q→Same H H'→Q (.ref q) H'
theorem YV (T:Txt w K mg a):FnOk P w K mg base CX0 1 a.f_qo a.d_qo ["_law_cell", "_law_many"] Zu:=by
 refine T.F_qo.ok sc_qo (fun vs H Q E h=>?_) (fun cdv A outer s H vs Q E hr h=>?_)
 ·obtain⟨c,m,rfl,_⟩:=h
  rfl
 ·obtain⟨c,m,rfl,hm,k⟩:=h
  refine zV (ze (zp (i:=2) sc_qo.nd rfl (Or.inl rfl) (zF zd))
   (ze (zp (i:=3) sc_qo.nd rfl (Or.inl rfl) zg)
   (yE (zx (zk zbj (zi 0) (zu v0 zg zg) (zv _))
    (zf (zp (i:=3) sc_qo.nd rfl (Or.inl rfl) (zu xt (zi 0) (zu v0 zg zg))))
    zn)
   (ze (xj PassesOwn.never (wg (yf (zk vt (zi 3) zg (zv _)) (yb (zk wS (zl zw (by rfl) T.n_len zY (zh (zi 2) zd)) (zi 1) (zv _)))))
    (ze (z4 (yq PySem.F.plainAttrs_list PySem.F.slot_list_append PySem.F.type_list_append zQ (zi 2) (xW (zu xu (zi 3) (zu v0 zg zg)) zd)))
    (zf (zp (i:=3) sc_qo.nd rfl (Or.inl rfl) (zu wu (zi 3) (zu v0 zg zg))))))
   (ze (zp (i:=4) sc_qo.nd rfl (Or.inl rfl) (zu xu (zu wc (zu xf (zu xu (zi 0) zg) zg) zg) zg))
   (ze (zL PassesOwn.never rfl (yt rfl T.n_range (xW (zu xt (zi 1) (zl zw (by rfl) T.n_len zY (zh (zi 2) zd))) zd)) (zm (i:=5) sc_qo.nd rfl (Or.inl rfl))
    (ze (zp (i:=4) sc_qo.nd rfl (Or.inl rfl) (zu xu (zu wc (zu xf (zu xf (zi 4) (zu wc zg (zi 5))) zg) zg) zg))
    (ze (zp (i:=6) sc_qo.nd rfl (Or.inl rfl) (zu xu (zu wc (zi 4) (zu xf (zu wu (zi 4) zg) zg)) zg))
    (zf (z4 (yq PySem.F.plainAttrs_list PySem.F.slot_list_append PySem.F.type_list_append zQ (zi 2) (xW (zu xu (zu wc (zi 6) (zu xf (zu wu (zi 6) zg) zg)) zg) zd)))))))
   (zf (zj (zi 2))))))))) ?_
  refine⟨(by show 0≤sizeLine;decide),fun p hp=>?_⟩
  refine⟨fun σ' H'=>∃ rest:Int,σ'=[some (.int c),some (.int m),some (.ref p),some (.int rest),none,none,none]∧H'=L2.upd H p (.lst []),?_,?_⟩
  ·refine⟨_,rfl,_,_,rfl,rfl,⟨by decide,by decide,by decide⟩,_,_,rfl,rfl,_,rfl,?_⟩
   refine ite2 (fun _=>?_) (fun _=>?_)
   ·exact⟨_,rfl,_,_,rfl,rfl,⟨by decide,by decide,by decide⟩,_,_,rfl,rfl,_,rfl,rfl⟩
   ·exact⟨_,rfl,rfl⟩
  ·rintro σ' H' ⟨rest,rfl,rfl⟩
   refine⟨fun μ σ H'=>∃ (ns:List Int) (rest:Int),μ=m-ns.length∧σ=[some (.int c),some (.int m),some (.ref p),some (.int rest),none,none,none]∧H' p=some (.lst (ns.map V.int))∧Same H H'∧(∀ n∈ns,0≤n)∧ns.length≤m,⟨_,[],rest,rfl,rfl,upd_same,Same.new hp,(fun n hn=>nomatch hn),Nat.zero_le _⟩,?_⟩
   rintro μ σ H1 ⟨ns,rest,rfl,rfl,hp1,s1,h0,hlen⟩
   refine⟨_,rfl,_,_,rfl,rfl,_,rfl,?_⟩
   refine(fun hB=>ite2 (fun _=>⟨_,rfl,p,_,rfl,.inl (SqL.of hp1),_,rfl,_,_,rfl,rfl,_,rfl,ite2 (fun z=>?gC) (fun _=>hB)⟩) (fun _=>hB)) ?gB
   case gC =>
    have z:(ns.length:Int)<m:=by
     have z:=of_decide_eq_true z
     rw[List.length_map] at z
     exact z
    refine⟨_,fun σ' H' h=>h,?_⟩
    refine⟨_,rfl,.inl ⟨rfl,_,SqL.of hp1⟩,_,rfl,_,_,rfl,rfl,⟨by decide,by decide,by decide⟩,_,_,rfl,rfl,(by show(0:Int)<10 ^ Int.toNat 6;decide),p,_,_,rfl,rfl,hp1,(by rw[List.length_map];exact zo (by omega)),?_⟩
    refine⟨_,rfl,_,_,rfl,rfl,⟨by decide,by decide,by decide⟩,_,_,rfl,rfl,⟨(by show(0:Int)<10 ^ Int.toNat 6;decide),(by show(10 ^ Int.toNat 6:Int).natAbs.log2<9000;decide)⟩,?_⟩
    refine⟨m-(ns.length+1),by omega,ns++[rest%10 ^ Int.toNat 6],_,by simp,rfl,?_,Same.updF s1 hp,?_,by simp;omega⟩
    ·rw[upd_same,List.map_append]
     rfl
    ·intro n hn
     rcases List.mem_append.mp hn with h | h
     ·exact h0 n h
     ·rw[List.mem_singleton.mp h]
      exact Int.emod_nonneg _ (by decide)
   case gB =>
    refine⟨_,rfl,_,_,rfl,rfl,(by show(0:Int)<2147483647;decide),_,_,rfl,rfl,_,_,rfl,rfl,.inr ⟨by decide,by decide⟩,_,_,rfl,rfl,(by show(0:Int)<2147483647;decide),?_⟩
    refine⟨_,rfl,_,rfl,p,_,rfl,.inl (SqL.of hp1),_,_,rfl,rfl,?_⟩
    rw[List.length_map]
    refine⟨(m:Int)-ns.length,rfl,by omega,by omega,?_⟩
    generalize ((c%2147483647+1)*48271%2147483647)=x0
    refine for_range (lo:=0) (fun i σ H'=>∃ (ns':List Int) (x:Int) (o5 o6:Option V),σ=[some (.int c),some (.int m),some (.ref p),some (.int rest),some (.int x),o5,o6]∧H' p=some (.lst (ns'.map V.int))∧Same H H'∧(∀ n∈ns',0≤n)∧ns'.length=ns.length+i) ?_ ?_ ?_
    ·exact⟨ns,_,none,none,rfl,hp1,s1,h0,rfl⟩
    ·rintro i σ H2 hi ⟨ns',x,o5,o6,rfl,hp2,s2,h2,hl2⟩
     refine⟨_,rfl,_,rfl,_,_,rfl,rfl,.inl ⟨by decide,by decide⟩,_,_,rfl,rfl,_,_,rfl,rfl,_,_,rfl,rfl,.inr ⟨by decide,by decide⟩,_,_,rfl,rfl,(by show(0:Int)<2147483647;decide),?_⟩
     generalize hv:(x+7919*(0+(i:Int))+1)*48271%2147483647=v
     have v1:0≤v:=by rw[← hv];exact Int.emod_nonneg _ (by decide)
     have v2:v<2147483647:=by rw[← hv];exact Int.emod_lt_of_pos _ (by decide)
     refine⟨_,rfl,_,rfl,_,_,rfl,rfl,⟨by show(0:Int)<1009;decide,Y9⟩,_,_,rfl,rfl,_,_,rfl,rfl,.inl ⟨by omega,by omega⟩,_,_,rfl,rfl,(by show(0:Int)<2147483647;decide),?_⟩
     generalize hu:v*(v/1009+65537)%2147483647=u
     have u1:0≤u:=by rw[← hu];exact Int.emod_nonneg _ (by decide)
     have u2:u<2147483647:=by rw[← hu];exact Int.emod_lt_of_pos _ (by decide)
     refine⟨_,rfl,.inl ⟨rfl,_,SqL.of hp2⟩,_,rfl,_,rfl,_,_,rfl,rfl,⟨by show(0:Int)<2003;decide,Y8⟩,_,_,rfl,rfl,_,_,rfl,rfl,.inl ⟨by omega,by omega⟩,_,_,rfl,rfl,(by show(0:Int)<2147483399;decide),p,_,_,rfl,rfl,hp2,(by rw[List.length_map];exact zo (by omega)),?_⟩
     refine⟨ns'++[u*(u/2003+40697)%2147483399],v,some (.int (0+(i:Int))),some (.int u),(by rw[← hu,← hv];rfl),?_,Same.updF s2 hp,?_,by simp;omega⟩
     ·rw[upd_same,List.map_append,← hu,← hv]
      rfl
     ·intro n hn
      rcases List.mem_append.mp hn with h | h
      ·exact h2 n h
      ·rw[List.mem_singleton.mp h]
       exact Int.emod_nonneg _ (by decide)
    ·rintro σ H2 ⟨ns',x,o5,o6,rfl,hp2,s2,h2,hl2⟩
     exact⟨_,rfl,k p H2 hp ⟨ns',hp2,h2,by omega⟩ s2⟩
def ot1 (ls:List (Int×Int)) (x:Int):List Int:=(ls.filter fun p=>decide (p.1=x)).map (·.2)
def ot2 (ls:List (Int×Int)) (x:Int):List Int:=(ls.filter fun p=>decide (p.2=x)).map (·.1)
theorem YR {ls:List (Int×Int)}{p:Int×Int}{x:Int}:ot1 (ls++[p]) x=ot1 ls x++if p.1=x then[p.2] else[]:=by
 unfold ot1
 rw[List.filter_append,List.map_append]
 by_cases c:p.1=x<;>simp[c]
theorem YQ {ls:List (Int×Int)}{p:Int×Int}{x:Int}:ot2 (ls++[p]) x=ot2 ls x++if p.2=x then[p.1] else[]:=by
 unfold ot2
 rw[List.filter_append,List.map_append]
 by_cases c:p.2=x<;>simp[c]
theorem ZI {x:Int}:∀ {ls:List (Int×Int)},(ot1 ls x++ot2 ls x).Perm (nbs ls x)
 |[]=>List.Perm.refl _
 |p::ls=>by
  have e:nbs (p::ls) x=((if p.1=x then[p.2] else[])++if p.2=x then[p.1] else[])++nbs ls x:=by unfold nbs;rw[List.flatMap_cons]
  have e1:ot1 (p::ls) x=(if p.1=x then[p.2] else[])++ot1 ls x:=by unfold ot1;by_cases c:p.1=x<;>simp[c]
  have e2:ot2 (p::ls) x=(if p.2=x then[p.1] else[])++ot2 ls x:=by unfold ot2;by_cases c:p.2=x<;>simp[c]
  rw[e,e1,e2]
  refine List.Perm.trans ?_ (List.Perm.append_left _ (ZI (ls:=ls)))
  rw[List.append_assoc,List.append_assoc]
  refine List.Perm.append_left _ ?_
  rw[← List.append_assoc,← List.append_assoc]
  exact List.Perm.append_right _ List.perm_append_comm
theorem XH {ls:List (Int×Int)}{x:Int}:(ot1 ls x).length≤ls.length∧(ot2 ls x).length≤ls.length:=by
 unfold ot1 ot2
 rw[List.length_map,List.length_map]
 exact⟨List.length_filter_le _ _,List.length_filter_le _ _⟩
def zaQ:Sp:=fun vs H Q _=>∃ (q:Addr) (x:Int) (rs:List V) (hs:List Int) (ls:List (Int×Int)),vs=[.ref q,.int x]∧H q=some (.lst rs)∧LnAt H rs ls∧Hs hs∧Ls hs ls ∧
 ∀ (p:Addr) (H':Hp),H p=none→Same H H'→H' p=some (.lst ((hs.filter (adB ls x)).map V.int))→Q (.ref p) H'
theorem VM (T:Txt w K mg a):FnOk P w K mg base CX0 1 a.f_qs a.d_qs ["_law_lines_here", "_law_hand"] zaQ:=by
 refine T.F_qs.ok sc_qs (fun vs H Q E h=>?_) (fun cdv A outer s H vs Q E hr h=>?_)
 ·obtain⟨q,x,rs,hs,ls,rfl,_⟩:=h
  rfl
 ·obtain⟨q,x,rs,hs,ls,rfl,hq,L,wh,wl,k⟩:=h
  have hu:=xw hr
  have l66:=wl.le
  refine zV (ze (yn (i:=2) rfl sc_qs.nd rfl (Or.inl rfl) (N':=["_law_one", "_law_other", "_law_hand"]) (t:=2) (caps:=[1]) ⟨rfl,rfl,rfl⟩ (zB (zi 0)) (fun _=>(yg rfl (zy (zm (i:=0) (show(["_law_one", "_law_other", "_law_hand"]:List Str).Nodup by decide +kernel) rfl (Or.inl rfl)) (zy (zm (i:=1) (show(["_law_one", "_law_other", "_law_hand"]:List Str).Nodup by decide +kernel) rfl (Or.inl rfl)) z5)))) (fun _=>(yc (zk xc (zi 0) (zi 2) (zv _)))) (fun _=>(zi 1)))
   (zf (zj (zl xq (by rfl) T.n_sorted xi (xW (zu ZK (zi 2) (z6 rfl (N':=["_law_one", "_law_other", "_law_hand"]) (t:=2) (caps:=[1]) ⟨rfl,rfl,rfl⟩ (zB (zi 0)) (fun _=>(yg rfl (zy (zm (i:=0) (show(["_law_one", "_law_other", "_law_hand"]:List Str).Nodup by decide +kernel) rfl (Or.inl rfl)) (zy (zm (i:=1) (show(["_law_one", "_law_other", "_law_hand"]:List Str).Nodup by decide +kernel) rfl (Or.inl rfl)) z5)))) (fun _=>(yc (zk xc (zi 1) (zi 2) (zv _)))) (fun _=>(zi 0)))) zd))))) ?_
  refine⟨_,rfl,q,rfl,⟨_,SqL.of hq⟩,fun D hD _=>?_⟩
  refine zU (K:=K) (a:=q) (xs:=rs) (fun j zs τ H'=>∃ o1 o2,τ=[o1,o2,some (.int x)]∧zs=(ot1 (ls.take j) x).map V.int∧H' D=some (.lst zs)∧Same H H') ?_ ?_ ?_ ?_
  ·exact⟨none,none,rfl,rfl,upd_same,Same.new hD⟩
  ·rintro j zs τ H' ⟨o1,o2,_,_,_,sm⟩
   exact SqL.of (sm _ _ hq)
  ·rintro j v zs τ H' hj ⟨o1,o2,rfl,rfl,hD',sm⟩
   obtain⟨pr,r,hpr,rfl,hr'⟩:=L.get hj
   refine⟨r,_,rfl,SqT.of (sm _ _ hr'),rfl,_,_,rfl,_,_,rfl,rfl,?_⟩
   refine⟨_,rfl,_,rfl,rfl,_,rfl,?_⟩
   have st:ot1 (ls.take (j+1)) x=ot1 (ls.take j) x++if pr.1=x then[pr.2] else[]:=by
    rw[List.take_add_one,hpr]
    exact YR
   refine ite2 (fun z=>?_) (fun z=>?_)
   ·have z:pr.1=x:=by
     have:=of_decide_eq_true z
     injection this
    refine⟨_,rfl,hD',?_,_,_,rfl,?_,upd_same,Same.updF sm hD⟩
    ·rw[List.length_map]
     have:=(XH (ls:=ls.take j) (x:=x)).1
     rw[List.length_take] at this
     exact zo (by omega)
    ·rw[st,if_pos z,List.map_append]
     rfl
   ·have z:¬ pr.1=x:=fun e=>z (by rw[e];exact decide_eq_true rfl)
    refine⟨_,_,rfl,?_,hD',sm⟩
    rw[st,if_neg z,List.append_nil]
  ·rintro zs τ H1 ⟨o1,o2,rfl,rfl,hD1,sm⟩
   rw[L.1,List.take_length] at hD1
   refine⟨_,rfl,_,rfl,q,rfl,⟨_,SqL.of (sm _ _ hq)⟩,fun D2 hD2 _=>?_⟩
   refine zU (K:=K) (a:=q) (xs:=rs) (fun j zs τ H'=>∃ o1 o2,τ=[o1,o2,some (.int x)]∧zs=(ot2 (ls.take j) x).map V.int∧H' D2=some (.lst zs)∧Same H1 H') ?_ ?_ ?_ ?_
   ·exact⟨none,none,rfl,rfl,upd_same,Same.new hD2⟩
   ·rintro j zs τ H' ⟨o1,o2,_,_,_,sm2⟩
    exact SqL.of (sm2 _ _ (sm _ _ hq))
   ·rintro j v zs τ H' hj ⟨o1,o2,rfl,rfl,hD',sm2⟩
    obtain⟨pr,r,hpr,rfl,hr'⟩:=L.get hj
    refine⟨r,_,rfl,SqT.of (sm2 _ _ (sm _ _ hr')),rfl,_,_,rfl,_,_,rfl,rfl,?_⟩
    refine⟨_,rfl,_,rfl,rfl,_,rfl,?_⟩
    have st:ot2 (ls.take (j+1)) x=ot2 (ls.take j) x++if pr.2=x then[pr.1] else[]:=by
     rw[List.take_add_one,hpr]
     exact YQ
    refine ite2 (fun z=>?_) (fun z=>?_)
    ·have z:pr.2=x:=by
      have:=of_decide_eq_true z
      injection this
     refine⟨_,rfl,hD',?_,_,_,rfl,?_,upd_same,Same.updF sm2 hD2⟩
     ·rw[List.length_map]
      have:=(XH (ls:=ls.take j) (x:=x)).2
      rw[List.length_take] at this
      exact zo (by omega)
     ·rw[st,if_pos z,List.map_append]
      rfl
    ·have z:¬ pr.2=x:=fun e=>z (by rw[e];exact decide_eq_true rfl)
     refine⟨_,_,rfl,?_,hD',sm2⟩
     rw[st,if_neg z,List.append_nil]
   ·rintro zs τ H2 ⟨o1',o2',rfl,rfl,hD3,sm2⟩
    rw[L.1,List.take_length] at hD3
    have pmx:=ZI (x:=x) (ls:=ls)
    have few:=WA (x:=x) wh wl
    have flen:=pmx.length_eq
    rw[List.length_append] at flen
    refine⟨D,D2,_,_,rfl,rfl,sm2 _ _ hD1,hD3,(by rw[List.length_map,List.length_map];exact Nat.le_of_lt (zo (by omega))),fun p hp=>?_⟩
    have hp':L2.upd H2 p (HO.lst (List.map V.int (ot1 ls x)++List.map V.int (ot2 ls x))) p=some (.lst ((ot1 ls x++ot2 ls x).map V.int)):=by rw[upd_same,List.map_append]
    have y3:=Same.new (o:=HO.lst (List.map V.int (ot1 ls x)++List.map V.int (ot2 ls x))) hp
    have y123:=(sm.trans sm2).trans y3
    exact⟨p,_,rfl,SqL.of hp',by rw[List.length_append];omega,fun q' ms hq' pm sd=>by
     rw[YF wh wl (pm.trans pmx) sd]
     exact k q' _ (y123.free hq') (y123.trans (Same.new hq')) upd_same⟩
def zf5:Sp:=fun vs H Q _=>∃ (l:Addr),vs=[.ref l,.int 8]∧XsAt H l ∧
 ∀ (h:Addr) (hs:List Int) (H':Hp),H h=none→H' h=some (.lst (hs.map V.int))→Hs hs→XsAt H' l→Ext l H H'→Q (.ref h) H'
theorem zbq (T:Txt w K mg a):FnOk P w K mg base CX0 2 a.f_qq a.d_qq ["_law_xs", "_law_most"] zf5:=by
 have c_qp:Callee P w K mg base "_law_take" a.f_qp a.d_qp ["_law_xs", "_law_size"] 1 vS:=⟨vv T,T.g_qp,T.F_qp.kp,T.b_qp⟩
 refine T.F_qq.ok sc_qq (fun vs H Q E h=>?_) (fun cdv A outer s H vs Q E hr h=>?_)
 ·obtain⟨l,rfl,_⟩:=h
  rfl
 ·obtain⟨l,rfl,hs,k⟩:=h
  refine zV (ze (zp (i:=2) sc_qq.nd rfl (Or.inl rfl) (zt c_qp (hr.mono (by omega)) (zh (zi 0) (zO zg zd))))
   (ze (zp (i:=3) sc_qq.nd rfl (Or.inr rfl) (zF (zh (zi 2) zd)))
   (ze (zL PassesOwn.never rfl (yt rfl T.n_range (zS (zt c_qp (hr.mono (by omega)) (zh (zi 0) (zh (zi 1) zd))) zd)) (zm (i:=4) sc_qq.nd rfl (Or.inl rfl))
    (ze (zp (i:=2) sc_qq.nd rfl (Or.inl rfl) (zu xf (zu xf (zi 2) zg) (zt c_qp (hr.mono (by omega)) (zh (zi 0) (zO zg zd)))))
    (zf (z4 (yq PySem.F.plainAttrs_list PySem.F.slot_list_append PySem.F.type_list_append zQ (zi 3) (zh (zi 2) zd))))))
   (yE (zx (zk xc (zt c_qp (hr.mono (by omega)) (zh (zi 0) (zO zg zd))) zg (zv _))
    (zf (zp (i:=3) sc_qq.nd rfl (Or.inr rfl) (z6 rfl (N':=["_law_one", "_law_found"]) (t:=1) (caps:=[3]) ⟨rfl,rfl,rfl⟩ (zB (zi 3)) (fun _=>(zm (i:=0) (show(["_law_one", "_law_found"]:List Str).Nodup by decide +kernel) rfl (Or.inl rfl))) (fun _=>yD) (fun _=>(zu xt (zu xf (zi 0) zg) (zz z7 (zi 1) (xk xF zg) (fun _ _=>rfl)))))))
    zn)
   (zf (zj (zi 3))))))) ?_
  refine⟨_,rfl,l,5,rfl,hs,by decide,fun d0 H1 g1 g2 s1 x1=>?_⟩
  refine⟨_,rfl,(by show 1≤sizeLine;decide),fun p hp=>?_⟩
  have npl:=s1.ne hp
  refine⟨_,rfl,_,rfl,l,8,rfl,s1.new hp,by decide,fun m H2 g3 g4 s2 x2=>?_⟩
  refine⟨m,rfl,by omega,by omega,?_⟩
  have hp2:H2 p=some (.lst [V.int d0]):=x2 _ _ upd_same npl
  have X2:Ext l H1 H2:=(Ext.new hp).trans x2
  refine for_range (lo:=0) (fun i σ H'=>∃ (ns:List Int) (x:Int) (o4:Option V),σ=[some (.ref l),some (.int 8),some (.int x),some (.ref p),o4]∧H' p=some (.lst ((ns++[x]).map V.int))∧ns.length=i∧(ns++[x]).Pairwise (· < ·)∧(∀ y∈ns++[x],0≤y)∧(∀ y∈ns++[x],y≤4+8*(i:Int))∧XsAt H' l∧Ext l H1 H') ?_ ?_ ?_
  ·refine⟨[],d0,none,rfl,hp2,rfl,by simp,?_,?_,s2,X2⟩
   ·intro y hy
    rw[List.mem_singleton.mp hy];exact g1
   ·intro y hy
    rw[List.mem_singleton.mp hy];omega
  ·rintro i σ H3 hi ⟨ns,x,o4,rfl,hp3,hln,up,lo,hi',s3,x3⟩
   refine⟨_,rfl,_,_,rfl,rfl,_,rfl,l,8,rfl,s3,by decide,fun d H4 a1 a2 s4 x4=>?_⟩
   have hp4:=x4 _ _ hp3 npl
   refine⟨_,_,rfl,rfl,_,rfl,.inl ⟨rfl,_,SqL.of hp4⟩,_,rfl,p,_,_,rfl,rfl,hp4,(by rw[List.length_map,List.length_append];exact zo (by simp;omega)),?_⟩
   refine⟨ns++[x],x+1+d,_,rfl,?_,by simp[hln],?_,?_,?_,s4.upd npl,?_⟩
   ·rw[upd_same,List.map_append (l₂:=[x+1+d])]
    rfl
   ·rw[List.pairwise_append]
    refine⟨up,by simp,fun y hy z hz=>?_⟩
    rw[List.mem_singleton.mp hz]
    rcases List.mem_append.mp hy with h | h
    ·have:=(List.pairwise_append.mp up).2.2 y h x (by simp)
     omega
    ·rw[List.mem_singleton.mp h];omega
   ·intro y hy
    rcases List.mem_append.mp hy with h | h
    ·exact lo y h
    ·rw[List.mem_singleton.mp h]
     have:=lo x (by simp)
     omega
   ·intro y hy
    rcases List.mem_append.mp hy with h | h
    ·have:=hi' y h
     omega
    ·rw[List.mem_singleton.mp h]
     have:=hi' x (by simp)
     omega
   ·intro b o e nb
    rw[upd_ne (ne_of_none e hp)]
    exact(x3.trans x4) b o e nb
  ·rintro σ H3 ⟨ns,x,o4,rfl,hp3,hln,up,lo,hi',s3,x3⟩
   have hp0:H p=none:=by
    cases e:H p with
    |none=>rfl
    |some o=>have:=x1 _ _ e npl;rw[hp] at this;cases this
   have X3:=x1.trans x3
   refine⟨fun σ' H'=>∃ (h:Addr) (hs':List Int),σ'=[some (.ref l),some (.int 8),some (.int x),some (.ref h),o4]∧H h=none∧H' h=some (.lst (hs'.map V.int))∧Hs hs'∧XsAt H' l∧Ext l H H',?_,?_⟩
   ·refine⟨_,rfl,l,4,rfl,s3,by decide,fun d H4 a1 a2 s4 x4=>⟨rfl,_,rfl,?_⟩⟩
    have hp4:=x4 _ _ hp3 npl
    have X4:=X3.trans x4
    have hl:(ns++[x]).length=m.toNat+1:=by rw[List.length_append,hln];rfl
    refine ite2 (fun _=>?_) (fun _=>?_)
    ·refine⟨_,rfl,p,rfl,⟨_,SqL.of hp4⟩,fun D hD _=>?_⟩
     have nDl:=s4.ne hD
     have hD0:H D=none:=by
      cases e:H D with
      |none=>rfl
      |some o=>have:=X4 _ _ e nDl;rw[hD] at this;cases this
     refine zU (K:=K) (a:=p) (xs:=(ns++[x]).map V.int) (fun j zs τ H'=>∃ o,τ=[o,some (.ref p)]∧zs=(((ns++[x]).take j).map fun y=>y+99-x).map V.int∧H' D=some (.lst zs)∧Same H4 H') ?_ ?_ ?_ ?_
     ·exact⟨none,rfl,by simp,upd_same,Same.new hD⟩
     ·rintro j zs τ H' ⟨o,_,_,_,sm⟩
      exact SqL.of (sm _ _ hp4)
     ·rintro j v zs τ H' hj ⟨o,rfl,rfl,hD',sm⟩
      rw[List.getElem?_map] at hj
      obtain⟨y,hy,rfl⟩:=Option.map_eq_some_iff.mp hj
      have hjl:=(List.getElem?_eq_some_iff.mp hy).1
      refine WE ?_
      refine⟨_,rfl,_,_,rfl,rfl,_,rfl,_,rfl,p,_,_,V.int x,rfl,rfl,SqL.of (sm _ _ hp4),(by rw[List.map_append];exact at_last),_,_,rfl,rfl,hD',by simp;exact zo (by omega),some (.int y),rfl,?_,upd_same,Same.updF sm hD⟩
      rw[List.take_add_one,hy]
      simp
     ·rintro zs τ H5 ⟨o,rfl,rfl,hD5,sm⟩
      rw[List.length_map,List.take_length] at hD5
      refine⟨D,_,rfl,hD0,hD5,⟨?_,?_,?_,?_,?_⟩,s4.same sm,X4.trans (Ext.same sm)⟩
      ·rw[List.length_map,hl];omega
      ·rw[List.length_map,hl];omega
      ·rw[List.pairwise_map]
       exact up.imp fun h=>by omega
      ·intro y hy
       obtain⟨z,hz,rfl⟩:=List.mem_map.mp hy
       have h1:=lo z hz
       have h2:=hi' x (by simp)
       omega
      ·intro y hy
       obtain⟨z,hz,rfl⟩:=List.mem_map.mp hy
       rcases List.mem_append.mp hz with h | h
       ·have:=(List.pairwise_append.mp up).2.2 z h x (by simp)
        omega
       ·rw[List.mem_singleton.mp h];omega
    ·refine⟨p,_,rfl,hp0,hp4,⟨?_,?_,up,lo,fun y hy=>?_⟩,s4,X4⟩
     ·rw[hl];omega
     ·rw[hl];omega
     ·have:=hi' y hy
      omega
   ·rintro σ' H4 ⟨h,hs',rfl,hh0,hh,wh,s4,x4⟩
    exact⟨_,rfl,k h hs' H4 hh0 hh wh s4 x4⟩
def tri:Nat→Nat
 |0=>0
 |n+1=>tri n+n
theorem XX:∀ n,n≤12→tri n≤66:=by decide
theorem W6 {n j:Nat}(h:j<n):tri j+j≤tri n:=by
 induction n with
 |zero=>omega
 |succ n ih =>
  show tri j+j≤tri n+n
  by_cases c:j=n
  ·subst c;exact Nat.le_refl _
  ·have:=ih (by omega)
   omega
theorem zbf {b1 b2 b3 b4 b5 b6:Bool}{d:Int}(h0:0≤d) (h1:d<6):∃ z,atI [V.bl b1,V.bl b2,V.bl b3,V.bl b4,V.bl b5,V.bl b6] d=some (.bl z):=by
 rcases(by omega:d=0∨d=1∨d=2∨d=3∨d=4∨d=5) with rfl | rfl | rfl | rfl | rfl | rfl
 all_goals exact⟨_,rfl⟩
theorem LnAt.cut {H:Hp}{rs:List V}{ls:List (Int×Int)}{n:Nat}(h:LnAt H rs ls):LnAt H (rs.drop n++rs.take n) (ls.drop n++ls.take n):=by
 refine⟨by simp[h.1],fun i r p e1 e2=>?_⟩
 by_cases c:i<(ls.drop n).length
 ·rw[List.getElem?_append_left (by simp[h.1];simpa using c)] at e1
  rw[List.getElem?_append_left c] at e2
  rw[List.getElem?_drop] at e1 e2
  exact h.2 _ r p e1 e2
 ·rw[List.getElem?_append_right (by simp[h.1];simpa using c)] at e1
  rw[List.getElem?_append_right (by omega)] at e2
  have e:(rs.drop n).length=(ls.drop n).length:=by simp[h.1]
  rw[e,List.getElem?_take] at e1
  rw[List.getElem?_take] at e2
  split at e1
  ·rw[if_pos ‹_›] at e2
   exact h.2 _ r p e1 e2
  ·cases e1
theorem zdI {rs:List V}{n:Nat}(h:n≤rs.length):cutV rs (some (n:Int)) none=rs.drop n:=by
 have h1:HT.sIx rs.length 0 (some (n:Int))=n:=by
  unfold HT.sIx
  show(if (n:Int)<0 then _ else _)=n
  rw[if_neg (by omega)]
  simp
  omega
 have h2:HT.sIx rs.length rs.length none=rs.length:=rfl
 unfold cutV
 rw[h1,h2]
 exact List.take_of_length_le (by rw[List.length_drop];omega)
theorem zdH {rs:List V}{n:Nat}(h:n≤rs.length):cutV rs none (some (n:Int))=rs.take n:=by
 have h1:HT.sIx rs.length rs.length (some (n:Int))=n:=by
  unfold HT.sIx
  show(if (n:Int)<0 then _ else _)=n
  rw[if_neg (by omega)]
  simp
  omega
 have h2:HT.sIx rs.length 0 none=0:=rfl
 unfold cutV
 rw[h1,h2]
 simp
theorem V0 {hs:List Int}(nd:hs.Nodup){i j:Nat}{x:Int}(h1:hs[i]?=some x) (h2:hs[j]?=some x):i=j:=by
 obtain⟨a1,b1⟩:=List.getElem?_eq_some_iff.mp h1
 obtain⟨a2,b2⟩:=List.getElem?_eq_some_iff.mp h2
 exact(List.getElem?_inj a1 nd).mp (h1.trans h2.symm)
structure Lfd (hs:List Int) (ls:List (Int×Int)) (j k:Nat):Prop where
 nd:ls.Nodup
 at_:∀ p∈ls,∃ k' j',hs[k']?=some p.1∧hs[j']?=some p.2∧k'<j'∧(j'<j∨(j'=j∧k'<k))
 le:ls.length≤tri j+k
theorem Lfd.skip {hs:List Int}{ls:List (Int×Int)}{j k:Nat}(h:Lfd hs ls j k):Lfd hs ls j (k+1) :=
 ⟨h.nd,fun p hp=>by
  obtain⟨k',j',h1,h2,h3,h4⟩:=h.at_ p hp
  exact⟨k',j',h1,h2,h3,by omega⟩,by have:=h.le;omega⟩
theorem Lfd.row {hs:List Int}{ls:List (Int×Int)}{j:Nat}(h:Lfd hs ls j j):Lfd hs ls (j+1) 0 :=
 ⟨h.nd,fun p hp=>by
  obtain⟨k',j',h1,h2,h3,h4⟩:=h.at_ p hp
  exact⟨k',j',h1,h2,h3,by omega⟩,h.le⟩
theorem Lfd.add {hs:List Int}{ls:List (Int×Int)}{j k:Nat}{x y:Int}(W:Hs hs) (h:Lfd hs ls j k) (kj:k<j) (hx:hs[k]?=some x) (hy:hs[j]?=some y):Lfd hs (ls++[(x,y)]) j (k+1):=by
 have nd:=Z8 W
 refine⟨?_,fun p hp=>?_,?_⟩
 ·rw[List.nodup_append]
  refine⟨h.nd,by simp,fun a ha b hb z=>?_⟩
  rw[List.mem_singleton.mp hb] at z
  obtain⟨k',j',h1,h2,h3,h4⟩:=h.at_ a ha
  rw[z] at h1 h2
  have:=V0 nd h1 hx
  have:=V0 nd h2 hy
  omega
 ·rcases List.mem_append.mp hp with h' | h'
  ·obtain⟨k',j',h1,h2,h3,h4⟩:=h.at_ p h'
   exact⟨k',j',h1,h2,h3,by omega⟩
  ·rw[List.mem_singleton.mp h']
   exact⟨k,j,hx,hy,kj,.inr ⟨rfl,by omega⟩⟩
 ·rw[List.length_append]
  have:=h.le
  simp
  omega
theorem Lfd.ls {hs:List Int}{ls:List (Int×Int)}{n:Nat}(W:Hs hs) (h:Lfd hs ls hs.length 0):Ls hs (ls.drop n++ls.take n):=by
 have pm:(ls.drop n++ls.take n).Perm ls:=List.perm_append_comm.trans (by rw[List.take_append_drop])
 refine⟨pm.nodup_iff.mpr h.nd,fun p hp=>?_,?_⟩
 ·obtain⟨k',j',h1,h2,h3,_⟩:=h.at_ p (pm.mem_iff.mp hp)
  obtain⟨a1,b1⟩:=List.getElem?_eq_some_iff.mp h1
  obtain⟨a2,b2⟩:=List.getElem?_eq_some_iff.mp h2
  refine⟨b1 ▸ List.getElem_mem a1,b2 ▸ List.getElem_mem a2,?_⟩
  rw[← b1,← b2]
  exact List.pairwise_iff_getElem.mp W.up _ _ a1 a2 h3
 ·rw[pm.length_eq]
  have:=h.le
  have:=XX hs.length W.l12
  omega
def zf4:Sp:=fun vs H Q _=>∃ (l h:Addr) (hs:List Int),vs=[.ref l,.ref h]∧XsAt H l∧H h=some (.lst (hs.map V.int))∧h≠l∧Hs hs ∧
 ∀ (q:Addr) (rs:List V) (ls:List (Int×Int)) (H':Hp),H q=none→H' q=some (.lst rs)→LnAt H' rs ls→Ls hs ls→XsAt H' l→Ext l H H'→Q (.ref q) H'
theorem XI {tA tB:TE}{σ:St}{H:Hp}{Q:VK}(k:(∀ b:Bool,Q (.bl b) H)→Uj tA tB σ H Q) (J:∀ b:Bool,Q (.bl b) H):Uj tA tB σ H Q:=k J
theorem zbp (T:Txt w K mg a):FnOk P w K mg base CX0 2 a.f_qr a.d_qr ["_law_xs", "_law_hands_here"] zf4:=by
 have c_qp:Callee P w K mg base "_law_take" a.f_qp a.d_qp ["_law_xs", "_law_size"] 1 vS:=⟨vv T,T.g_qp,T.F_qp.kp,T.b_qp⟩
 refine T.F_qr.ok sc_qr (fun vs H Q E h=>?_) (fun cdv A outer s H vs Q E hr h=>?_)
 ·obtain⟨l,h,hs,rfl,_⟩:=h
  rfl
 ·obtain⟨l,h,hs,rfl,sl,hh,nhl,wh,k⟩:=h
  have l12:=wh.l12
  refine zV (ze (zp (i:=2) sc_qr.nd rfl (Or.inl rfl) (zt c_qp (hr.mono (by omega)) (zh (zi 0) (zO zg zd))))
   (ze (zp (i:=3) sc_qr.nd rfl (Or.inl rfl) (zF zd))
   (ze (zL PassesOwn.never rfl (yt rfl T.n_range (zS (zl zw (by rfl) T.n_len zY (zh (zi 1) zd)) zd)) (zm (i:=4) sc_qr.nd rfl (Or.inl rfl))
    (zf (zL PassesOwn.never rfl (yt rfl T.n_range (zh (zi 4) zd)) (zm (i:=5) sc_qr.nd rfl (Or.inl rfl))
     (ze (zp (i:=6) sc_qr.nd rfl (Or.inl rfl) (uG (zR xc (zu xt (zi 4) (zi 5)) zg (zv _)) (yo (zR xc (zu xt (zi 4) (zi 5)) (zu xt (zl zw (by rfl) T.n_len zY (zh (zi 1) zd)) zg) (zv _)))))
     (ze (zp (i:=7) sc_qr.nd rfl (Or.inl rfl) (zt c_qp (hr.mono (by omega)) (zh (zi 0) (zO zg zd))))
     (zf (zx (zE (zz z7 (zF (zh (zi 6) (zr (zR wS (zi 7) zg (zv _)) (zr (zR wS (zi 7) zg (zv _)) (zr (zR wS (zi 7) zg (zv _)) (zO zD (zr (uG (zR xc (zi 5) (zu xu (zi 7) (zi 4)) (zv _)) (yo (zR xc (zi 7) zg (zv _)))) zd))))))) (zi 2) (fun _ _=>rfl)))
      (zf (z4 (yq PySem.F.plainAttrs_list PySem.F.slot_list_append PySem.F.type_list_append zQ (zi 3) (Xq (yL (zr (zz z7 (zi 1) (zi 5) (fun _ _=>rfl)) (zr (zz z7 (zi 1) (zi 4) (fun _ _=>rfl)) zd))) zd))))
      zn)))))))
   (ze (zp (i:=8) sc_qr.nd rfl (Or.inl rfl) (zt c_qp (hr.mono (by omega)) (zh (zi 0) (xW (zu xf (zl zw (by rfl) T.n_len zY (zh (zi 3) zd)) zg) zd))))
   (zf (zj (zu ZK (xl vj (zi 3) (xa (zi 8)) wC) (xl vj (zi 3) wC (xa (zi 8)))))))))) ?_
  refine⟨_,rfl,l,6,rfl,sl,by decide,fun way H1 g1 g2 s1 x1=>?_⟩
  refine⟨(by show 0≤sizeLine;decide),fun p hp=>?_⟩
  have npl:=s1.ne hp
  have hh1:=x1 _ _ hh nhl
  have nhp:h≠p:=fun z=>by rw[z,hp] at hh1;cases hh1
  refine⟨_,rfl,h,_,rfl,.inl (SqL.of ((Same.new hp) _ _ hh1)),_,rfl,?_⟩
  rw[List.length_map]
  refine⟨by omega,by omega,?_⟩
  rw[show((hs.length:Int)).toNat=hs.length by omega]
  have St:∀ {rs:List V}{ls:List (Int×Int)}{H':Hp},LnAt H' rs ls→True:=fun _=>trivial
  refine for_range (lo:=0) (fun j σ H'=>∃ (o4 o5 o6 o7:Option V) (rs:List V) (ls:List (Int×Int)),σ=[some (.ref l),some (.ref h),some (.int way),some (.ref p),o4,o5,o6,o7,none]∧H' p=some (.lst rs)∧LnAt H' rs ls∧Lfd hs ls j 0∧XsAt H' l∧Ext l H1 H') ?_ ?_ ?_
  ·exact⟨none,none,none,none,[],[],rfl,upd_same,⟨rfl,fun i r q e=>by cases e⟩,⟨List.nodup_nil,(fun q hq=>nomatch hq),Nat.zero_le _⟩,s1.new hp,Ext.new hp⟩
  ·rintro j σ H2 hj ⟨o4,o5,o6,o7,rs,ls,rfl,hp2,L,F,s2,x2⟩
   refine⟨_,rfl,0+(j:Int),rfl,by omega,by omega,?_⟩
   rw[show(0+(j:Int)).toNat=j by omega]
   refine for_range (lo:=0) (fun i σ H'=>∃ (o5 o6 o7:Option V) (rs:List V) (ls:List (Int×Int)),σ=[some (.ref l),some (.ref h),some (.int way),some (.ref p),some (.int (0+(j:Int))),o5,o6,o7,none]∧H' p=some (.lst rs)∧LnAt H' rs ls∧Lfd hs ls j i∧XsAt H' l∧Ext l H1 H') ?_ ?_ ?_
   ·exact⟨o5,o6,o7,rs,ls,rfl,hp2,L,F,s2,x2⟩
   ·rintro i σ H3 hi ⟨o5,o6,o7,rs,ls,rfl,hp3,L,F,s3,x3⟩
    have hj2:hs[j]?=some hs[j]:=by simp[hj]
    have hi2:hs[i]?=some (hs[i]'(by omega)):=by simp
    have hh3:=x3 _ _ hh1 nhl
    refine XI (fun hJ=>⟨_,rfl,_,rfl,_,_,rfl,rfl,rfl,_,rfl,ite2 (fun _=>hJ _) (fun _=>⟨_,rfl,_,rfl,_,_,rfl,rfl,_,rfl,h,_,rfl,.inl (SqL.of hh3),_,_,rfl,rfl,rfl,hJ _⟩)⟩) (fun bb=>?_)
    refine⟨_,rfl,l,6,rfl,s3,by decide,fun dr H4 a1 a2 s4 x4=>?_⟩
    refine⟨_,rfl,_,rfl,_,_,rfl,rfl,_,rfl,_,_,rfl,rfl,_,rfl,_,_,rfl,rfl,?_⟩
    refine XI (fun hJ=>⟨_,rfl,_,rfl,_,rfl,_,_,rfl,rfl,(by show(0:Int)<0+(j:Int);omega),rfl,_,rfl,ite2 (fun _=>hJ _) (fun _=>⟨_,rfl,rfl,hJ _⟩)⟩) (fun bb2=>?_)
    have hp4:=x4 _ _ hp3 npl
    have hh4:=x4 _ _ hh3 nhl
    have L4:LnAt H4 rs ls:=⟨L.1,fun n r pr e1 e2=>by
     obtain⟨q,e,t⟩:=L.2 n r pr e1 e2
     exact⟨q,e,x4 _ _ t fun z=>by
      obtain⟨ns,e3,_⟩:=s3
      rw[z,e3] at t
      cases t⟩⟩
    have X4:=x3.trans x4
    refine⟨by show 6≤sizeLine;decide,fun q6 hq6=>?_⟩
    have y5:∀ o,Same H4 (L2.upd H4 q6 o):=fun o=>Same.new hq6
    have u5:∀ o,L2.upd H4 q6 o q6=some o:=fun o=>upd_same
    generalize L2.upd H4 q6=f at *
    obtain⟨z,hz⟩:=zbf (b1:=_) (b2:=_) (b3:=_) (b4:=_) (b5:=_) (b6:=_) g1 g2
    refine⟨_,rfl,q6,_,_,_,rfl,rfl,SqL.of (u5 _),hz,_,rfl,?_⟩
    have hp5:=fun o=>y5 o _ _ hp4
    have hh5:=fun o=>y5 o _ _ hh4
    have L5:=fun o=>L4.same (y5 o)
    have s5:=fun o=>s4.same (y5 o)
    have X5:=fun o=>X4.trans (Ext.same (y5 o))
    refine ite2 (fun _=>?_) (fun _=>?_)
    ·refine⟨_,rfl,.inl ⟨rfl,_,SqL.of (hp5 _)⟩,_,rfl,_,rfl,h,_,_,V.int (hs[i]'(by omega)),rfl,rfl,SqL.of (hh5 _),(by rw[Int.zero_add];exact xQ (by simp)),_,rfl,_,rfl,h,_,_,V.int hs[j],rfl,rfl,SqL.of (hh5 _),(by rw[Int.zero_add];exact xQ (by simp[hj])),(by show 2≤sizeLine;decide),fun qt hqt=>?_⟩
     have y6:=Same.new (o:=HO.tup [V.int (hs[i]'(by omega)),V.int hs[j]]) hqt
     have l66:=F.le
     refine⟨p,_,_,rfl,rfl,y6 _ _ (hp5 _),(by rw[L.1];have:=XX hs.length l12;have:=W6 hj;exact zo (by omega)),?_⟩
     refine⟨_,_,_,_,ls++[(hs[i]'(by omega),hs[j])],rfl,upd_same,LnAt.updL (y6 _ _ (hp5 _)) (LnAt.snoc (p:=(hs[i]'(by omega),hs[j])) ((L5 _).same y6) (q:=qt) upd_same),F.add wh hi hi2 hj2,((s5 _).same y6).upd npl.symm.symm,?_⟩
     intro b o e nb
     rw[upd_ne (ne_of_none e hp)]
     exact((X5 _).trans (Ext.same y6)) b o e nb
    ·exact⟨_,_,_,rs,ls,rfl,hp5 _,L5 _,F.skip,s5 _,X5 _⟩
   ·rintro σ H3 ⟨o5,o6,o7,rs,ls,rfl,hp3,L,F,s3,x3⟩
    exact⟨_,_,_,_,rs,ls,rfl,hp3,L,F.row,s3,x3⟩
  ·rintro σ H2 ⟨o4,o5,o6,o7,rs,ls,rfl,hp2,L,F,s2,x2⟩
   refine⟨_,rfl,_,rfl,p,_,rfl,.inl (SqL.of hp2),_,_,rfl,rfl,l,_,rfl,s2,by omega,fun d H3 a1 a2 s3 x3=>?_⟩
   obtain⟨n,rfl⟩:∃ n:Nat,d=n:=⟨d.toNat,by omega⟩
   have hp3:=x3 _ _ hp2 npl
   have L3:LnAt H3 rs ls:=⟨L.1,fun n r pr e1 e2=>by
      obtain⟨q,e,t⟩:=L.2 n r pr e1 e2
      exact⟨q,e,x3 _ _ t fun z=>by
       obtain⟨ns,e3,_⟩:=s2
       rw[z,e3] at t
       cases t⟩⟩
   refine⟨_,rfl,_,rfl,_,rfl,p,_,rfl,SqL.of hp3,fun q1 hq1=>?_⟩
   have y4:=Same.new (o:=HO.lst (cutV rs (some (n:Int)) none)) hq1
   refine⟨_,rfl,_,rfl,_,rfl,p,_,rfl,SqL.of (y4 _ _ hp3),fun q2 hq2=>?_⟩
   have y5:=Same.new (o:=HO.lst (cutV rs none (some (n:Int)))) hq2
   have hnl:n≤rs.length:=by omega
   have l66:=F.le
   have:=XX hs.length l12
   have l1:=yy rs (some (n:Int)) none
   have l2:=yy rs none (some (n:Int))
   have lL:=L.1
   refine⟨q1,q2,_,_,rfl,rfl,y5 _ _ upd_same,upd_same,(Nat.le_of_lt (zo (by omega))),fun q hq=>?_⟩
   have y6:=Same.new (o:=HO.lst (cutV rs (some (n:Int)) none++cutV rs none (some (n:Int)))) hq
   have y456:=(y4.trans y5).trans y6
   refine k q (rs.drop n++rs.take n) (ls.drop n++ls.take n) _ ((((x1.trans x2).trans x3).trans (Ext.same (y4.trans y5))).free ((s3.same (y4.trans y5)).ne hq) hq) (by rw[upd_same,zdI hnl,zdH hnl]) (L3.same y456).cut (F.ls wh) (s3.same y456) ?_
   exact(x1.trans x2).trans (x3.trans (Ext.same y456))
theorem uE {x:Int}{v y:V}{H H':Hp}(h:yI (Sum.inl x,v) y H H'):∃ p,H p=none∧y=.ref p∧H'=upd H p (.tup [.int x,v]):=h
def Fl (v:V):Prop:=(∃ i,v=.int i)∨v=.non
def CpV (H:Hp) (n:Nat) (v:V) (Q:V→Hp→Prop):Prop :=
 (1≤n∧Fl v∧Q v H) ∨
 (2≤n∧∃ (t:Addr) (i j:Int),v=.ref t∧H t=some (.tup [.int i,.int j])∧∀ (t':Addr) (H':Hp),H t'=none→H' t'=some (.tup [.int i,.int j])→Same H H'→Q (.ref t') H') ∨
 (2≤n∧∃ (d:Addr) (f:Int→V) (us:List Int),v=.ref d∧H d=some (.dK (tabV f us))∧us.Nodup∧us.length≤12∧(∀ x∈us,Fl (f x))∧∀ (d':Addr) (H':Hp),H d'=none→H' d'=some (.dK (tabV f us))→Same H H'→Q (.ref d') H') ∨
 (3≤n∧∃ (l:Addr) (rs:List V) (ls:List (Int×Int)),v=.ref l∧H l=some (.lst rs)∧LnAt H rs ls∧ls.length≤200∧∀ (l':Addr) (rs':List V) (H':Hp),H l'=none→H' l'=some (.lst rs')→LnAt H' rs' ls→Same H H'→Q (.ref l') H')
def WN (n:Nat):Sp:=fun vs H Q _=>∃ v,vs=[v]∧CpV H n v Q
theorem yH (T:Txt w K mg a):∀ n,FnOk P w K mg base CX0 (n+2) a.f_qb a.d_qb ["value"] (WN n)
 |0=>⟨fun vs H Q E h=>by
   obtain⟨v,rfl,_⟩:=h
   rfl,fun A outer s H args us vs Q E _ _ _ _ h=>by
   obtain⟨v,_,h⟩:=h
   rcases h with⟨h,_⟩ | ⟨h,_⟩ | ⟨h,_⟩ | ⟨h,_⟩<;>omega⟩
 |n+1=>by
  have c_qb:Callee P w K mg base "copied" a.f_qb a.d_qb ["value"] (n+2) (WN n):=⟨yH T n,T.g_qb,T.F_qb.kp,T.b_qb⟩
  refine T.F_qb.ok za3 (fun vs H Q E h=>?_) (fun cdv A outer s H vs Q E hr h=>?_)
  ·obtain⟨v,rfl,_⟩:=h
   rfl
  ·obtain⟨v,rfl,h⟩:=h
   refine zV (ze (zx (zE (zl zI (by rfl) T.n_isinstance zq (zh (zi 0) (zh (zW T.n_list yX) zd))))
    (zf (zj (z6 rfl (N':=["each"]) (t:=1) (caps:=[]) ⟨rfl,rfl,rfl⟩ (zB (zi 0)) (fun _=>(zm (i:=0) (show(["each"]:List Str).Nodup by decide +kernel) rfl (Or.inl rfl))) (fun _=>yD) (fun _=>(zt c_qb (hr.mono (by omega)) (zh (zi 0) zd))))))
    zn)
   (ze (zx (zE (zl zI (by rfl) T.n_isinstance zq (zh (zi 0) (zh (zW T.n_tuple yA) zd))))
    (zf (zj (zX yz (by rfl) T.n_tuple yA (zr (z6 rfl (N':=["each"]) (t:=1) (caps:=[]) ⟨rfl,rfl,rfl⟩ (Yv (zi 0)) (fun _=>(zm (i:=0) (show(["each"]:List Str).Nodup by decide +kernel) rfl (Or.inl rfl))) (fun _=>yD) (fun _=>(zt c_qb (hr.mono (by omega)) (zh (zi 0) zd)))) zd))))
    zn)
   (ze (zx (zE (zl zI (by rfl) T.n_isinstance zq (zh (zi 0) (zh (zW T.n_dict vF) zd))))
    (zf (zj (zX (uy rfl) (by rfl) T.n_dict vF (zr (uF (z6 rfl (N':=["key", "each"]) (t:=2) (caps:=[]) ⟨rfl,rfl,rfl⟩ (yU (zi 0)) (fun _=>(yg rfl (zy (zm (i:=0) (show(["key", "each"]:List Str).Nodup by decide +kernel) rfl (Or.inl rfl)) (zy (zm (i:=1) (show(["key", "each"]:List Str).Nodup by decide +kernel) rfl (Or.inl rfl)) z5)))) (fun _=>yD) (fun _=>(yL (zh (zi 0) (zS (zt c_qb (hr.mono (by omega)) (zh (zi 1) zd)) zd)))))) zd))))
    zn)
   (zf (zj (zi 0)))))) ?_
   rcases h with⟨_,hv,k⟩ | ⟨h2,t,i,j,rfl,ht,k⟩ | ⟨h2,d,f,us,rfl,hd,nd,l12,hf,k⟩ | ⟨h3,l,rs,ls,rfl,hl,L,l66,k⟩
   ·rcases hv with⟨i,rfl⟩ | rfl
    ·refine⟨_,rfl,_,_,_,_,_,rfl,rfl,.int i,T.k_tint_tlist,_,rfl,iteN rfl ?_⟩
     refine⟨_,rfl,_,_,_,_,_,rfl,rfl,.int i,T.k_tint_ttuple,_,rfl,iteN rfl ?_⟩
     refine⟨_,rfl,_,_,_,_,_,rfl,rfl,.int i,T.k_tint_tdict,_,rfl,iteN rfl ?_⟩
     exact⟨_,rfl,k⟩
    ·refine⟨_,rfl,_,_,_,_,_,rfl,rfl,.non,T.k_tNoneType_tlist,_,rfl,iteN rfl ?_⟩
     refine⟨_,rfl,_,_,_,_,_,rfl,rfl,.non,T.k_tNoneType_ttuple,_,rfl,iteN rfl ?_⟩
     refine⟨_,rfl,_,_,_,_,_,rfl,rfl,.non,T.k_tNoneType_tdict,_,rfl,iteN rfl ?_⟩
     exact⟨_,rfl,k⟩
   ·refine⟨_,rfl,_,_,_,_,_,rfl,rfl,.tup ht,T.k_ttuple_tlist,_,rfl,iteN rfl ?_⟩
    refine⟨_,rfl,_,_,_,_,_,rfl,rfl,.tup ht,T.k_ttuple_ttuple,_,rfl,xh ?_⟩
    refine⟨_,rfl,t,rfl,⟨_,SqT.of ht⟩,fun D hD _=>?_⟩
    refine Xm (K:=K) (a:=t) (xs:=[V.int i,V.int j]) (fun m zs τ H'=>∃ (o:Option V),τ=[o]∧zs=[V.int i,V.int j].take m∧H'=upd H D (.lst zs)) ?_ ?_ ?_ ?_
    ·exact⟨none,rfl,rfl,rfl⟩
    ·rintro m zs τ H' ⟨o,_,_,rfl⟩
     exact SqT.of (by rw[upd_ne (ne_of_none ht hD)];exact ht)
    ·rintro m v zs τ H' hi ⟨o,rfl,rfl,rfl⟩
     have hv:∃ y,v=V.int y:=by
      match m,hi with
      |0,hi=>exact⟨i,by cases hi;rfl⟩
      |1,hi=>exact⟨j,by cases hi;rfl⟩
      |m+2,hi=>simp at hi
     obtain⟨y,rfl⟩:=hv
     have hml:m<2:=(List.getElem?_eq_some_iff.mp hi).1
     refine WE ?_
     refine⟨_,rfl,_,rfl,.inl ⟨by omega,.inl ⟨y,rfl⟩,?_⟩⟩
     refine⟨upd_same,by rw[List.length_take];exact zo (by omega),some (.int y),rfl,?_,?_⟩
     ·rw[List.take_add_one,hi];rfl
     ·rw[vf]
    ·rintro zs τ H' ⟨o,rfl,rfl,rfl⟩
     refine⟨D,_,rfl,.inl ⟨SqL.of upd_same,fun t' ht'=>?_⟩⟩
     exact k t' _ ((Same.new hD).free ht') upd_same ((Same.new hD).trans (Same.new ht'))
   ·refine⟨_,rfl,_,_,_,_,_,rfl,rfl,.dK hd,T.k_tdict_tlist,_,rfl,iteN rfl ?_⟩
    refine⟨_,rfl,_,_,_,_,_,rfl,rfl,.dK hd,T.k_tdict_ttuple,_,rfl,iteN rfl ?_⟩
    refine⟨_,rfl,_,_,_,_,_,rfl,rfl,.dK hd,T.k_tdict_tdict,_,rfl,xh ?_⟩
    refine⟨_,rfl,d,_,rfl,hd,fun od S D hD _=>?_⟩
    have hDd:D≠d:=fun z=>by rw[z,upd_same] at hD;cases hD
    generalize hG1:upd H d (HO.frz od (HO.dK (tabV f us)))=G1 at *
    have hq1:G1 d=some (.frz od (.dK (tabV f us))):=by rw[← hG1];exact upd_same
    have x1:Ext d H G1:=by rw[← hG1];exact Ext.at
    refine comp_view (yl:=yI) (d:=d) (od:=od) (kvs:=tabV f us) (fun i zs τ G'=>∃ (o1 o2:Option V) (qs:List Addr),τ=[o1,o2]∧zs=qs.map V.ref∧qs.length=i∧(∀ (j:Nat) (p:Addr) (x:Int),qs[j]?=some p→us[j]?=some x→G' p=some (.tup [.int x,f x]))∧G' D=some (.lst zs)∧Same G1 G') ?_ ?_ ?_ ?_
    ·exact⟨none,none,[],rfl,rfl,rfl,fun j q x h=>by simp at h,upd_same,Same.new hD⟩
    ·rintro i zs τ G' ⟨o1,o2,qs,_,_,_,_,_,sm⟩
     exact sm _ _ hq1
    ·rintro i kv v zs τ G' G'' hkv ⟨o1,o2,qs,rfl,rfl,lq,hqs,hD',sm⟩ hy
     obtain⟨x,hx,rfl⟩:∃ x,us[i]?=some x∧kv=(Sum.inl x,f x):=by
      unfold tabV at hkv
      rw[List.getElem?_map] at hkv
      obtain⟨x,h1,h2⟩:=Option.map_eq_some_iff.mp hkv
      exact⟨x,h1,h2.symm⟩
     obtain⟨p0,hp0,rfl,rfl⟩:=uE hy
     have hil:i<us.length:=(List.getElem?_eq_some_iff.mp hx).1
     have n1:=Same.new (o:=HO.tup [V.int x,f x]) hp0
     refine⟨p0,_,rfl,SqT.of upd_same,rfl,_,_,rfl,_,_,rfl,rfl,WZ ?_⟩
     refine⟨_,rfl,_,rfl,_,rfl,.inl ⟨by omega,hf x (List.mem_of_getElem? hx),(by show 2≤sizeLine;decide),fun pt hpt=>?_⟩⟩
     have n2:=Same.new (o:=HO.tup [V.int x,f x]) hpt
     have n12:=n1.trans n2
     have npt:pt≠D:=fun z=>by rw[z] at hpt;have:=n1 _ _ hD';rw[hpt] at this;cases this
     have hDF:=n12 _ _ hD'
     refine⟨hDF,by rw[List.length_map,lq];exact zo (by omega),some (.int x),some (f x),qs++[pt],rfl,by simp,by simp[lq],fun j p y hj hy'=>?_,upd_same,?_⟩
     ·by_cases hji:j<i
      ·rw[List.getElem?_append_left (by omega)] at hj
       have h1:=n12 _ _ (hqs j p y hj hy')
       rw[upd_ne (fun z=>by rw[z,hDF] at h1;cases h1)]
       exact h1
      ·rw[List.getElem?_append_right (by omega)] at hj
       have:j=i:=by
        have:=(List.getElem?_eq_some_iff.mp hj).1
        simp at this
        omega
       subst this
       rw[lq,Nat.sub_self] at hj
       cases hj
       rw[hx] at hy'
       cases hy'
       rw[upd_ne npt]
       exact upd_same
     ·exact Same.updF (sm.trans n12) hD
    ·rintro zs τ G2 ⟨o1,o2,qs,rfl,rfl,lq,hqs,hD2,sm⟩
     refine .inr ⟨d,od,tabV f us,S,sm _ _ hq1,?_⟩
     rw[tabV_len] at lq
     have sG3:Same H (upd G2 d (HO.dK (tabV f us))):=fun b o e=>by
      by_cases z:b=d
      ·rw[z,hd] at e;cases e;rw[z];exact upd_same
      ·rw[upd_ne z];exact sm _ _ (x1 _ _ e z)
     have hD3:(upd G2 d (HO.dK (tabV f us))) D=some (.lst (qs.map V.ref)):=by rw[upd_ne hDd];exact hD2
     have hq3:∀ (j:Nat) (p:Addr) (x:Int),qs[j]?=some p→us[j]?=some x→(upd G2 d (HO.dK (tabV f us))) p=some (.tup [.int x,f x]):=fun j p x h1 h2=>by
      have h3:=hqs j p x h1 h2
      rw[upd_ne (fun z=>by rw[z,sm _ _ hq1] at h3;cases h3)]
      exact h3
     generalize upd G2 d (HO.dK (tabV f us))=G3 at *
     refine⟨D,qs,tabV f us,rfl,hD3,by rw[tabV_len];exact lq,by rw[tabV_len];omega,fun i q kv h1 h2=>?_,fun d' hd'=>?_⟩
     ·unfold tabV at h2
      rw[List.getElem?_map] at h2
      obtain⟨x,h3,h4⟩:=Option.map_eq_some_iff.mp h2
      subst h4
      exact hq3 i q x h1 h3
     rw[Y4 (by rw[wG];exact V8 nd)]
     exact k d' _ (sG3.free hd') upd_same (sG3.trans (Same.new hd'))
   ·refine⟨_,rfl,_,_,_,_,_,rfl,rfl,.lst hl,T.k_tlist_tlist,_,rfl,xh ?_⟩
    refine⟨_,rfl,l,rfl,⟨_,SqL.of hl⟩,fun D hD _=>?_⟩
    have lr:=L.1
    refine zU (K:=K) (a:=l) (xs:=rs) (fun m zs τ H'=>∃ (o:Option V),τ=[o]∧zs.length=m∧LnAt H' zs (ls.take m)∧H' D=some (.lst zs)∧Same H H') ?_ ?_ ?_ ?_
    ·exact⟨none,rfl,rfl,⟨rfl,fun i r p h=>by simp at h⟩,upd_same,Same.new hD⟩
    ·rintro m zs τ H' ⟨o,_,_,_,_,sm⟩
     exact SqL.of (sm _ _ hl)
    ·rintro m v zs τ H' hi ⟨o,rfl,lz,Lz,hD',sm⟩
     obtain⟨p,q,hp,rfl,hq⟩:=L.get hi
     have hml:m<rs.length:=(List.getElem?_eq_some_iff.mp hi).1
     refine WE ?_
     refine⟨_,rfl,_,rfl,.inr (.inl ⟨by omega,q,p.1,p.2,rfl,sm _ _ hq,fun t' H2 ht' h2 s2=>?_⟩)⟩
     have hD2:=s2 _ _ hD'
     refine⟨hD2,by rw[lz];exact zo (by omega),some (.ref q),rfl,by simp[lz],?_,upd_same,Same.updF (sm.trans s2) hD⟩
     rw[List.take_add_one,hp]
     exact LnAt.updL hD2 ((Lz.same s2).snoc h2)
    ·rintro zs τ H' ⟨o,rfl,lz,Lz,hD',sm⟩
     rw[List.take_of_length_le (by omega)] at Lz
     exact k D zs H' hD hD' Lz sm
inductive En (pf:Int→Option Int):Int→List Int→Prop
 |z {x:Int}(h:pf x=none):En pf x [x]
 |s {x y:Int}{l:List Int}(h:pf x=some y) (t:En pf y l):En pf x (x::l)
variable {pf:Int→Option Int}
theorem En.fn {x:Int}{l:List Int}(h:En pf x l):∀ {l':List Int},En pf x l'→l=l':=by
 induction h with
 |z h =>
  intro l' h'
  cases h' with
  |z _=>rfl
  |s h2 _=>rw[h] at h2;cases h2
 |s h t ih =>
  intro l' h'
  cases h' with
  |z h2=>rw[h] at h2;cases h2
  |s h2 t2 =>
   rw[h] at h2
   cases h2
   rw[ih t2]
theorem En.hd {x:Int}{l:List Int}(h:En pf x l):∃ t,l=x::t:=by
 cases h with
 |z _=>exact⟨_,rfl⟩
 |s _ _=>exact⟨_,rfl⟩
theorem En.suf:∀ {ys:List Int}{x v:Int}{zs:List Int},En pf x (ys++v::zs)→En pf v (v::zs)
 |[],x,v,zs,h=>by
  obtain⟨t,e⟩:=h.hd
  injection e with e1 e2
  have h':En pf x (v::zs):=h
  rw[← e1] at h'
  exact h'
 |y::ys,x,v,zs,h=>by
  have h':En pf x (y::(ys++v::zs)):=h
  generalize hl:y::(ys++v::zs)=l at h'
  cases h' with
  |z _ =>
   injection hl with _ hl
   simp at hl
  |s h2 t =>
   injection hl with _ hl
   rw[← hl] at t
   exact En.suf t
theorem En.nd {x:Int}{l:List Int}(h:En pf x l):l.Nodup:=by
 induction h with
 |z _=>simp
 | @s x y l h t ih =>
  rw[List.nodup_cons]
  refine⟨fun hx=>?_,ih⟩
  obtain⟨ys,zs,e⟩:=List.append_of_mem hx
  rw[e] at t
  have h1:=t.suf
  have h2:=h1.fn (.s h t)
  have:=congrArg List.length h2
  simp at this
  omega
theorem En.mem {us:List Int}(C:∀ x∈us,∀ y,pf x=some y→y∈us){x:Int}{l:List Int}(h:En pf x l):x∈us→∀ y∈l,y∈us:=by
 induction h with
 |z _ =>
  intro hx y hy
  rw[List.mem_singleton.mp hy]
  exact hx
 | @s x y l h t ih =>
  intro hx u hu
  rcases List.mem_cons.mp hu with e | e
  ·rw[e];exact hx
  ·exact ih (C x hx y h) u e
def Pre (pf:Int→Option Int) (x:Int) (ys:List Int) (z:Int):Prop:=∀ l,En pf x l↔∃ l',En pf z l'∧l=ys++l'
theorem Pre.z {x:Int}:Pre pf x [] x:=fun l=>⟨fun h=>⟨l,h,rfl⟩,fun⟨l',h,e⟩=>by rw[e];exact h⟩
theorem Pre.s {x z y:Int}{ys:List Int}(p:Pre pf x ys z) (h:pf z=some y):Pre pf x (ys++[z]) y:=fun l=>by
 rw[p l]
 constructor
 ·rintro⟨l',h1,e⟩
  cases h1 with
  |z h2=>rw[h] at h2;cases h2
  |s h2 t =>
   rw[h] at h2
   cases h2
   exact⟨_,t,by rw[e];simp⟩
 ·rintro⟨l',h1,e⟩
  exact⟨z::l',.s h h1,by rw[e];simp⟩
theorem Pre.end_ {x z:Int}{ys:List Int}(p:Pre pf x ys z) (h:pf z=none):En pf x (ys++[z]):=(p _).mpr ⟨[z],.z h,rfl⟩
theorem Pre.ring {x z y:Int}{ys:List Int}(p:Pre pf x ys z) (h:pf z=some y) (hy:y∈ys++[z]):¬∃ l,En pf x l:=fun⟨l,hl⟩=>by
 obtain⟨l',h1,e⟩:=((p.s h) l).mp hl
 obtain⟨t,e2⟩:=h1.hd
 have nd:=hl.nd
 rw[e,e2,List.nodup_append] at nd
 exact nd.2.2 y hy y List.mem_cons_self rfl
theorem Pre.long {us:List Int}(C:∀ x∈us,∀ y,pf x=some y→y∈us){x z y:Int}{ys:List Int}(hx:x∈us) (p:Pre pf x ys z) (h:pf z=some y) (hl:us.length<(ys++[z]).length+1):¬∃ l,En pf x l:=fun⟨l,hl'⟩=>by
 obtain⟨l',h1,e⟩:=((p.s h) l).mp hl'
 obtain⟨t,e2⟩:=h1.hd
 have h2:=wU hl'.nd (hl'.mem C hx)
 rw[e,e2,List.length_append,List.length_cons] at h2
 omega
noncomputable def paO (pf:Int→Option Int) (x:Int):List Int:=by
 classical
 exact if h:∃ l,En pf x l then Classical.choose h else[x]
theorem wR {x:Int}{l:List Int}(h:En pf x l):paO pf x=l:=by
 unfold paO
 rw[dif_pos ⟨l,h⟩]
 exact(Classical.choose_spec (⟨l,h⟩:∃ l,En pf x l)).fn h
def opV:Option Int→V
 |none=>.non
 |some y=>.int y
theorem ZL (o:Option Int):Fl (opV o):=by
 cases o with
 |none=>exact .inr rfl
 |some y=>exact .inl ⟨y,rfl⟩
def UpP (us:List Int) (pf:Int→Option Int) (pa:Int→List Int):Prop:=∃ sf:Int→Nat,∀ x∈us,(pf x=none∧pa x=[x])∨∃ y,pf x=some y∧y∈us∧pa x=x::pa y∧sf y<sf x
def ldr (pa:Int→List Int) (x:Int):Int:=(pa x).getLastD x
theorem V2 {us:List Int}{pf:Int→Option Int}{pa:Int→List Int}{sf:Int→Nat}(U:∀ x∈us,(pf x=none∧pa x=[x])∨∃ y,pf x=some y∧y∈us∧pa x=x::pa y∧sf y<sf x):∀ (n:Nat){x:Int},sf x≤n→x∈us→(∃ ys,pa x=ys++[ldr pa x])∧pf (ldr pa x)=none∧ldr pa x∈us∧(pa x).Nodup∧(∀ y∈pa x,y∈us∧sf y≤sf x):=by
 intro n
 induction n with
 |zero =>
  intro x hn hx
  rcases U x hx with⟨h1,h2⟩ | ⟨y,_,_,_,h⟩
  ·have e:ldr pa x=x:=by unfold ldr;rw[h2];rfl
   rw[e,h2]
   exact⟨⟨[],rfl⟩,h1,hx,by simp,fun y hy=>by rw[List.mem_singleton.mp hy];exact⟨hx,Nat.le_refl _⟩⟩
  ·omega
 |succ n ih =>
  intro x hn hx
  rcases U x hx with⟨h1,h2⟩ | ⟨y,h1,h2,h3,h4⟩
  ·have e:ldr pa x=x:=by unfold ldr;rw[h2];rfl
   rw[e,h2]
   exact⟨⟨[],rfl⟩,h1,hx,by simp,fun y hy=>by rw[List.mem_singleton.mp hy];exact⟨hx,Nat.le_refl _⟩⟩
  ·obtain⟨⟨ys,i1⟩,i2,i3,i4,i5⟩:=ih (x:=y) (by omega) h2
   have e:ldr pa x=ldr pa y:=by
    have:(pa x).getLastD x=ldr pa y:=by
     rw[h3,i1,← List.cons_append,List.getLastD_eq_getLast?,List.getLast?_append]
     rfl
    exact this
   rw[e,h3]
   refine⟨⟨x::ys,by rw[List.cons_append,← i1]⟩,i2,i3,List.nodup_cons.mpr ⟨fun z=>?_,i4⟩,fun u hu=>?_⟩
   ·have:=(i5 x z).2
    omega
   ·rcases List.mem_cons.mp hu with z | z
    ·rw[z];exact⟨hx,Nat.le_refl _⟩
    ·have:=i5 u z
     exact⟨this.1,by omega⟩
theorem UpP.ld {us:List Int}{pf:Int→Option Int}{pa:Int→List Int}(U:UpP us pf pa){x:Int}(hx:x∈us):(∃ ys,pa x=ys++[ldr pa x])∧pf (ldr pa x)=none∧ldr pa x∈us∧(pa x).Nodup∧(∀ y∈pa x,y∈us):=by
 obtain⟨sf,U⟩:=U
 obtain⟨h1,h2,h3,h4,h5⟩:=V2 U (sf x) (Nat.le_refl _) hx
 exact⟨h1,h2,h3,h4,fun y hy=>(h5 y hy).1⟩
structure WayAt (a:Ad) (H:Hp) (p:Addr) (pf:Int→Option Int) (us:List Int) (ls:List (Int×Int)) (dx dp ob:Addr):Prop where
 p:H p=some (.ins a.c_Way dx [("own_parents",.ref dp),("own_bridges",.ref ob)])
 dp:H dp=some (.dK (tabV (fun x=>opV (pf x)) us))
 ob:∃ rs,H ob=some (.lst rs)∧LnAt H rs ls
 nd:us.Nodup
 l12:us.length≤12
 l66:ls.length≤200
theorem WayAt.same {a:Ad}{H H':Hp}{p dx dp ob:Addr}{pf:Int→Option Int}{us:List Int}{ls:List (Int×Int)}(w:WayAt a H p pf us ls dx dp ob) (s:Same H H'):WayAt a H' p pf us ls dx dp ob:=⟨s _ _ w.p,s _ _ w.dp,by obtain⟨rs,e1,e2⟩:=w.ob;exact⟨rs,s _ _ e1,e2.same s⟩,w.nd,w.l12,w.l66⟩
structure WayR (a:Ad) (H:Hp) (p:Addr) (pf:Int→Option Int) (us:List Int) (dx dp ob:Addr):Prop where
 p:H p=some (.ins a.c_Way dx [("own_parents",.ref dp),("own_bridges",.ref ob)])
 dp:Rd H dp (.dK (tabV (fun x=>opV (pf x)) us))
 l12:us.length≤12
theorem WayAt.r {a:Ad}{H:Hp}{p dx dp ob:Addr}{pf:Int→Option Int}{us:List Int}{ls:List (Int×Int)}(w:WayAt a H p pf us ls dx dp ob):WayR a H p pf us dx dp ob:=⟨w.p,.inl w.dp,w.l12⟩
theorem Wb {H H':Hp}{d:Addr}{u:HO}(h:Rd H d u) (s:Same H H'):Rd H' d u:=h.elim (fun e=>.inl (s _ _ e)) fun⟨o,e⟩=>.inr ⟨o,s _ _ e⟩
theorem WayR.same {a:Ad}{H H':Hp}{p dx dp ob:Addr}{pf:Int→Option Int}{us:List Int}(w:WayR a H p pf us dx dp ob) (s:Same H H'):WayR a H' p pf us dx dp ob:=⟨s _ _ w.p,Wb w.dp s,w.l12⟩
theorem wH {H:Hp}{d:Addr}{f:Int→V}{us:List Int}{x:Int}(e:Rd H d (.dK (tabV f us))) (h:x∈us):DGet H d (V.int x) (some (f x)):=.inl ⟨_,.inl x,e,rfl,(vi h).symm⟩
def Vn (a:Ad):Sp:=fun vs H Q _=>∃ (p dx d l:Addr) (pf:Int→Option Int) (us:List Int) (rs:List V) (ls:List (Int×Int)),vs=[.ref p,.ref d,.ref l]∧H p=some (.ins a.c_Way dx [])∧H d=some (.dK (tabV (fun x=>opV (pf x)) us))∧us.Nodup∧us.length≤12∧H l=some (.lst rs)∧LnAt H rs ls∧ls.length≤200 ∧
 ∀ (dp ob:Addr) (H':Hp),H dp=none→H ob=none→Ext p H H'→WayAt a H' p pf us ls dx dp ob→Q .non H'
theorem VJ (T:Txt w K mg a):FnOk P w K mg base CX0 6 a.f_qA a.d_qA ["self", "parents", "bridges"] (Vn a):=by
 have c_qb:Callee P w K mg base "copied" a.f_qb a.d_qb ["value"] (3+2) (WN 3):=⟨yH T 3,T.g_qb,T.F_qb.kp,T.b_qb⟩
 refine T.F_qA.ok zbc (fun vs H Q E h=>?_) (fun cdv A outer s H vs Q E hr h=>?_)
 ·obtain⟨p,dx,d,l,pf,us,rs,ls,rfl,_⟩:=h
  rfl
 ·obtain⟨p,dx,d,l,pf,us,rs,ls,rfl,hp,hd,nd,l12,hl,L,l66,k⟩:=h
  refine zV (ze (vJ (zi 0) (zt c_qb (hr.mono (by omega)) (zh (zi 1) zd)) rfl)
   (zf (vJ (zi 0) (zt c_qb (hr.mono (by omega)) (zh (zi 2) zd)) rfl))) ?_
  refine⟨_,rfl,_,rfl,.inr (.inr (.inl ⟨by decide,d,_,us,rfl,hd,nd,l12,fun x _=>ZL _,fun dp H1 hdp h1 s1=>?_⟩))⟩
  have ndp:dp≠p:=fun z=>by rw[z,hp] at hdp;cases hdp
  refine⟨_,rfl,p,a.c_Way,dx,_,rfl,s1 _ _ hp,T.cl_Way,T.na_Way_own_parents,(by show 0<1000;decide),?_⟩
  have x1:=(Ext.same (l:=p) s1).trans (Ext.at (l:=p) (o:=.ins a.c_Way dx [("own_parents",.ref dp)]))
  have nlp:l≠p:=fun z=>by rw[z,hp] at hl;cases hl
  refine⟨_,rfl,_,rfl,.inr (.inr (.inr ⟨by decide,l,rs,ls,rfl,x1 _ _ hl nlp,L.ext hp x1,l66,fun ob rs' H2 hob h2 L2 s2=>?_⟩))⟩
  refine⟨_,rfl,p,a.c_Way,dx,_,rfl,s2 _ _ upd_same,T.cl_Way,T.na_Way_own_bridges,(by show 1<1000;decide),?_⟩
  have nob:ob≠p:=fun z=>by rw[z,upd_same] at hob;cases hob
  have fob:H ob=none:=by
   cases h:H ob with
   |none=>rfl
   |some o=>exact nomatch ((x1 _ _ h nob).symm.trans hob:some o=none)
  refine k dp ob _ hdp fob ((x1.trans (Ext.same s2)).trans Ext.at) ⟨upd_same,?_,⟨rs',?_,L2.ext (s2 _ _ upd_same) Ext.at⟩,nd,l12,l66⟩
  ·rw[upd_ne ndp]
   exact s2 _ _ ((upd_ne ndp).trans h1)
  ·rw[upd_ne nob]
   exact h2
def zhN (a:Ad):Sp:=fun vs H Q _=>∃ (p dx dp ob:Addr) (pf:Int→Option Int) (us:List Int) (ls:List (Int×Int)),vs=[.ref p]∧WayAt a H p pf us ls dx dp ob∧∀ (d:Addr) (H':Hp),H d=none→H' d=some (.dK (tabV (fun x=>opV (pf x)) us))→Same H H'→Q (.ref d) H'
theorem zbz (T:Txt w K mg a):FnOk P w K mg base CX0 6 a.f_qC a.d_qC ["self"] (zhN a):=by
 have c_qb:Callee P w K mg base "copied" a.f_qb a.d_qb ["value"] (3+2) (WN 3):=⟨yH T 3,T.g_qb,T.F_qb.kp,T.b_qb⟩
 refine T.F_qC.ok zbb (fun vs H Q E h=>?_) (fun cdv A outer s H vs Q E hr h=>?_)
 ·obtain⟨p,dx,dp,ob,pf,us,ls,rfl,_⟩:=h
  rfl
 ·obtain⟨p,dx,dp,ob,pf,us,ls,rfl,W,k⟩:=h
  refine zV (zf (zj (zt c_qb (hr.mono (by omega)) (zr (yh (zi 0) rfl) zd)))) ?_
  exact⟨_,rfl,p,_,dx,_,_,rfl,W.p,T.cl_Way,T.na_Way_own_parents,rfl,_,rfl,.inr (.inr (.inl ⟨by decide,dp,_,us,rfl,W.dp,W.nd,W.l12,fun x _=>ZL _,k⟩))⟩
def zhO (a:Ad):Sp:=fun vs H Q _=>∃ (p dx dp ob:Addr) (pf:Int→Option Int) (us:List Int) (ls:List (Int×Int)),vs=[.ref p]∧WayAt a H p pf us ls dx dp ob∧∀ (l:Addr) (rs:List V) (H':Hp),H l=none→H' l=some (.lst rs)→LnAt H' rs ls→Same H H'→Q (.ref l) H'
theorem VQ (T:Txt w K mg a):FnOk P w K mg base CX0 6 a.f_qD a.d_qD ["self"] (zhO a):=by
 have c_qb:Callee P w K mg base "copied" a.f_qb a.d_qb ["value"] (3+2) (WN 3):=⟨yH T 3,T.g_qb,T.F_qb.kp,T.b_qb⟩
 refine T.F_qD.ok zba (fun vs H Q E h=>?_) (fun cdv A outer s H vs Q E hr h=>?_)
 ·obtain⟨p,dx,dp,ob,pf,us,ls,rfl,_⟩:=h
  rfl
 ·obtain⟨p,dx,dp,ob,pf,us,ls,rfl,W,k⟩:=h
  refine zV (zf (zj (zt c_qb (hr.mono (by omega)) (zr (yh (zi 0) rfl) zd)))) ?_
  obtain⟨rs,e1,e2⟩:=W.ob
  exact⟨_,rfl,p,_,dx,_,_,rfl,W.p,T.cl_Way,T.na_Way_own_bridges,rfl,_,rfl,.inr (.inr (.inr ⟨by decide,ob,rs,ls,rfl,e1,e2,W.l66,k⟩))⟩
def Cl (us:List Int) (pf:Int→Option Int):Prop:=∀ x∈us,∀ y,pf x=some y→y∈us
def zhJ (a:Ad):Sp:=fun vs H Q _=>∃ (p dx dp ob:Addr) (pf:Int→Option Int) (us:List Int) (x:Int),vs=[.ref p,.int x]∧WayR a H p pf us dx dp ob∧Cl us pf∧x∈us ∧
 ∀ (l:Addr) (ys:List Int) (z:Int),H l=none→z∈us→((pf z=none∧En pf x (ys++[z]))∨(pf z≠none∧¬∃ l,En pf x l))→Q (.ref l) (upd H l (.lst ((ys++[z]).map V.int)))
theorem zbl (T:Txt w K mg a):FnOk P w K mg base CX0 1 a.f_qE a.d_qE ["self", "hand"] (zhJ a):=by
 refine T.F_qE.ok sc_qE (fun vs H Q E h=>?_) (fun cdv A outer s H vs Q E hr h=>?_)
 ·obtain⟨p,dx,dp,ob,pf,us,x,rfl,_⟩:=h
  rfl
 ·obtain⟨p,dx,dp,ob,pf,us,x,rfl,W,C,hx,k⟩:=h
  have hu:=xw hr
  refine zV (ze (zp (i:=2) sc_qE.nd rfl (Or.inl rfl) (zF (zh (zi 1) zd)))
   (ze (zp (i:=3) sc_qE.nd rfl (Or.inl rfl) (xV hu (yh (zi 0) rfl) (zi 1) ⟨rfl,rfl,rfl,rfl⟩))
   (ze (xj PassesOwn.never (wg (yf (zk xI (zi 3) z9 (zv _)) (yb (zk yG (zi 3) (zi 2) (by with_unfolding_all rfl)))))
    (ze (z4 (yq PySem.F.plainAttrs_list PySem.F.slot_list_append PySem.F.type_list_append zQ (zi 2) (zh (zi 3) zd)))
    (zf (zp (i:=3) sc_qE.nd rfl (Or.inl rfl) (xV hu (yh (zi 0) rfl) (zi 3) ⟨rfl,rfl,rfl,rfl⟩)))))
   (zf (zj (zi 2)))))) ?_
  refine⟨_,rfl,(by show 1≤sizeLine;decide),fun l hl=>?_⟩
  have sm:∀ o,Same H (upd H l o):=fun o=>Same.new hl
  refine⟨_,rfl,p,_,dx,_,_,rfl,(W.same (sm _)).p,T.cl_Way,T.na_Way_own_parents,rfl,dp,rfl,.inl ⟨_,(W.same (sm _)).dp⟩,_,rfl,some (opV (pf x)),wH (W.same (sm _)).dp hx,?_⟩
  refine⟨fun m σ H'=>∃ (ys:List Int) (z:Int),m+(ys++[z]).length=us.length∧σ=[some (.ref p),some (.int x),some (.ref l),some (opV (pf z))]∧H'=upd H l (.lst ((ys++[z]).map V.int))∧z∈us∧Pre pf x ys z∧(ys++[z]).Nodup∧∀ y∈ys,y∈us,⟨us.length-1,[],x,by have:=List.length_pos_of_mem hx;simp;omega,rfl,rfl,hx,Pre.z,(by simp),(fun y hy=>(nomatch hy))⟩,?_⟩
  rintro m σ H' ⟨ys,z,hm,rfl,rfl,hz,hp,nd,hsub⟩
  have hlen:(ys++[z]).length≤12:=Nat.le_trans (by omega) W.l12
  cases h1:pf z with
  |none =>
   refine⟨_,rfl,rfl,_,rfl,iteN rfl ?_⟩
   refine⟨_,rfl,?_⟩
   exact k l ys z hl hz (.inl ⟨h1,hp.end_ h1⟩)
  |some y =>
   refine⟨_,rfl,rfl,_,rfl,xh ?_⟩
   have h2:=C z hz y h1
   by_cases hny:y∈ys++[z]
   ·refine⟨_,rfl,_,rfl,l,_,rfl,.inl (SqL.of upd_same),rfl,ym _,_,rfl,iteN (by show(!inV (.int y) _)=false;rw[yx,decide_eq_true hny];rfl) ?_⟩
    refine⟨_,rfl,?_⟩
    exact k l ys z hl hz (.inr ⟨by rw[h1];simp,hp.ring h1 hny⟩)
   ·refine⟨_,rfl,_,rfl,l,_,rfl,.inl (SqL.of upd_same),rfl,ym _,_,rfl,iteB (by show(!inV (.int y) _)=true;rw[yx,decide_eq_false hny];rfl) ?_⟩
    refine⟨_,fun σ' H' h=>h,?_⟩
    refine⟨_,rfl,.inl ⟨rfl,_,SqL.of upd_same⟩,_,rfl,l,_,_,rfl,rfl,upd_same,(by rw[List.length_map];exact zo (by omega)),?_⟩
    rw[vf]
    refine⟨_,rfl,p,_,dx,_,_,rfl,(W.same (sm _)).p,T.cl_Way,T.na_Way_own_parents,rfl,dp,rfl,.inl ⟨_,(W.same (sm _)).dp⟩,_,rfl,some (opV (pf y)),wH (W.same (sm _)).dp h2,?_⟩
    have nd2:(ys++[z]++[y]).Nodup:=by
     rw[List.nodup_append]
     exact⟨nd,by simp,fun u hu v hv e=>hny (by rw[List.mem_singleton.mp hv] at e;rw[← e];exact hu)⟩
    have hs2:∀ u∈ys++[z],u∈us:=fun u hu=>(List.mem_append.mp hu).elim (hsub u) fun q=>by rw[List.mem_singleton.mp q];exact hz
    have hn2:=wU nd2 fun u hu=>(List.mem_append.mp hu).elim (hs2 u) fun q=>by rw[List.mem_singleton.mp q];exact h2
    have e2:(ys++[z]++[y]).length=(ys++[z]).length+1:=by simp
    refine⟨m-1,by omega,ys++[z],y,by omega,rfl,?_,h2,hp.s h1,nd2,hs2⟩
    rw[List.map_append (l₂:=[y])]
    rfl
def zaR (a:Ad):Sp:=fun vs H Q _=>∃ (p dx dp ob:Addr) (pf:Int→Option Int) (us:List Int) (x:Int),vs=[.ref p,.int x]∧WayR a H p pf us dx dp ob∧Cl us pf∧x∈us∧∀ (ys:List Int) (z:Int) (H':Hp),Same H H'→z∈us→((pf z=none∧En pf x (ys++[z]))∨(pf z≠none∧¬∃ l,En pf x l))→Q (.int z) H'
theorem XO (T:Txt w K mg a):FnOk P w K mg base CX0 2 a.f_qF a.d_qF ["self", "hand"] (zaR a):=by
 refine T.F_qF.ok za9 (fun vs H Q E h=>?_) (fun cdv A outer s H vs Q E hr h=>?_)
 ·obtain⟨p,dx,dp,ob,pf,us,x,rfl,_⟩:=h
  rfl
 ·obtain⟨p,dx,dp,ob,pf,us,x,rfl,W,C,hx,k⟩:=h
  refine zV (zf (zj (zz z7 (zJ (zi 0) (zh (zi 1) zd)) (xk xF zg) (fun _ _=>rfl)))) ?_
  refine⟨_,rfl,p,_,dx,_,_,_,_,_,_,rfl,W.p,rfl,T.cl_Way,T.mt_qE,zbl (P:=P) (w:=w) T,hr.mono (by omega),T.b_qE,_,rfl,p,dx,dp,ob,pf,us,x,rfl,W,C,hx,fun l ys z hl hz hor=>?_⟩
  refine⟨_,rfl,l,_,-1,_,rfl,rfl,SqL.of upd_same,?_,k ys z _ (Same.new hl) hz hor⟩
  rw[List.map_append]
  exact at_last
theorem UpP.cl {us:List Int}{pf:Int→Option Int}{pa:Int→List Int}(U:UpP us pf pa):Cl us pf:=fun x hx y h=>by
 obtain⟨sf,U⟩:=U
 rcases U x hx with⟨h1,_⟩ | ⟨y',h1,h2,_⟩
 ·rw[h] at h1;cases h1
 ·rw[h] at h1;cases h1;exact h2
theorem UpP.en {us:List Int}{pf:Int→Option Int}{pa:Int→List Int}(U:UpP us pf pa){x:Int}(hx:x∈us):En pf x (pa x):=by
 obtain⟨sf,U⟩:=U
 have go:∀ (n:Nat){x:Int},sf x≤n→x∈us→En pf x (pa x):=by
  intro n
  induction n with
  |zero =>
   intro x hn hx
   rcases U x hx with⟨h1,h2⟩ | ⟨y,_,_,_,h⟩
   ·rw[h2];exact .z h1
   ·omega
  |succ n ih =>
   intro x hn hx
   rcases U x hx with⟨h1,h2⟩ | ⟨y,h1,h2,h3,h4⟩
   ·rw[h2];exact .z h1
   ·rw[h3];exact .s h1 (ih (by omega) h2)
 exact go _ (Nat.le_refl _) hx
theorem UpP.of {us:List Int}{pf:Int→Option Int}(C:Cl us pf) (h:∀ x∈us,∃ l,En pf x l):UpP us pf (paO pf):=⟨fun x=>(paO pf x).length,fun x hx=>by
 obtain⟨l,hl⟩:=h x hx
 cases hl with
 |z h1=>exact .inl ⟨h1,wR (.z h1)⟩
 | @s _ y l h1 t=>exact .inr ⟨y,h1,C x hx y h1,by rw[wR (.s h1 t),wR t],by show(paO pf y).length<(paO pf x).length;rw[wR (.s h1 t),wR t];simp⟩⟩
def zhL (a:Ad):Sp:=fun vs H Q _=>∃ (p dx dp ob:Addr) (pf:Int→Option Int) (pa:Int→List Int) (us:List Int) (x:Int),vs=[.ref p,.int x]∧WayR a H p pf us dx dp ob∧UpP us pf pa∧x∈us∧∀ (H':Hp),Same H H'→Q (.int (ldr pa x)) H'
theorem YT (T:Txt w K mg a):FnOk P w K mg base CX0 2 a.f_qF a.d_qF ["self", "hand"] (zhL a):=(XO T).imp fun vs H Q E h=>by
 obtain⟨p,dx,dp,ob,pf,pa,us,x,rfl,W,U,hx,k⟩:=h
 refine⟨p,dx,dp,ob,pf,us,x,rfl,W,U.cl,hx,fun ys z H' s hz hor=>?_⟩
 rcases hor with⟨_,h⟩ | ⟨_,h⟩
 ·have e:ldr pa x=z:=by
   unfold ldr
   rw[(U.en hx).fn h,List.getLastD_eq_getLast?,List.getLast?_append]
   simp
  rw[← e]
  exact k _ s
 ·exact absurd ⟨_,U.en hx⟩ h
open L2.Sco (PT PsAt)
def jk (lf:Int→Int) (p:Int×Int):Int×Int:=(min (lf p.1) (lf p.2),max (lf p.1) (lf p.2))
def jst (lf:Int→Int) (acc:List ((Int×Int)×(Int×Int))) (p:Int×Int):List ((Int×Int)×(Int×Int)) :=
 if lf p.1=lf p.2 then acc else if jk lf p∈acc.map (·.1) then acc else acc++[(jk lf p,p)]
def jn (lf:Int→Int) (ls:List (Int×Int)):List ((Int×Int)×(Int×Int)):=ls.foldl (jst lf) []
theorem vy {lf:Int→Int}{ls:List (Int×Int)}{p:Int×Int}:jn lf (ls++[p])=jst lf (jn lf ls) p:=by
 unfold jn
 rw[List.foldl_append]
 rfl
theorem WC {lf:Int→Int}{acc:List ((Int×Int)×(Int×Int))}{p:Int×Int}:(jst lf acc p).length≤acc.length+1:=by
 unfold jst
 split
 ·omega
 ·split
  ·omega
  ·simp
theorem V7 {lf:Int→Int}{ls:List (Int×Int)}:(jn lf ls).length≤ls.length:=by
 suffices ∀ (acc:List ((Int×Int)×(Int×Int))),(ls.foldl (jst lf) acc).length≤acc.length+ls.length by
  have:=this []
  unfold jn
  simpa using this
 induction ls with
 |nil=>intro acc;simp
 |cons p ls ih =>
  intro acc
  have h1:=ih (jst lf acc p)
  have h2:=WC (lf:=lf) (acc:=acc) (p:=p)
  rw[List.foldl_cons,List.length_cons]
  omega
theorem xX {x y:Int}{ms:List Int}(pm:ms.Perm [x,y]) (sd:ms.Pairwise (· ≤ ·)):ms=[min x y,max x y]:=by
 have hl:=pm.length_eq
 match ms,hl with
 |[u,v],_ =>
  have h1:u≤v:=(List.pairwise_cons.mp sd).1 v (by simp)
  have hu:u=x∨u=y:=by simpa using pm.mem_iff.mp (show u∈[u,v] by simp)
  have hx:x=u∨x=v:=by simpa using pm.mem_iff.mpr (show x∈[x,y] by simp)
  have hy:y=u∨y=v:=by simpa using pm.mem_iff.mpr (show y∈[x,y] by simp)
  have hv:v=x∨v=y:=by simpa using pm.mem_iff.mp (show v∈[u,v] by simp)
  have e1:u=min x y:=by omega
  have e2:v=max x y:=by omega
  rw[e1,e2]
def kvJ (js:List ((Int×Int)×PT)):List (List Key×V):=js.map fun j=>([Sum.inl j.1.1,Sum.inl j.1.2],V.ref j.2.1)
def tlJ (js:List ((Int×Int)×PT)):List ((Int×Int)×(Int×Int)):=js.map fun j=>(j.1,j.2.2)
theorem ZW {js:List ((Int×Int)×PT)}{k:Int×Int}:(yV (kvJ js) ([Sum.inl k.1,Sum.inl k.2]:List Key)).isSome=decide (k∈js.map (·.1)):=by
 rw[xE]
 apply decide_eq_decide.mpr
 unfold kvJ
 rw[List.map_map]
 constructor
 ·intro h
  obtain⟨j,hj,e⟩:=List.mem_map.mp h
  refine List.mem_map.mpr ⟨j,hj,?_⟩
  have e:([Sum.inl j.1.1,Sum.inl j.1.2]:List Key)=[Sum.inl k.1,Sum.inl k.2]:=e
  injection e with e1 e2
  injection e2 with e2 _
  injection e1 with e1
  injection e2 with e2
  exact Prod.ext e1 e2
 ·intro h
  obtain⟨j,hj,e⟩:=List.mem_map.mp h
  exact List.mem_map.mpr ⟨j,hj,by rw[← e];rfl⟩
def zf9 (a:Ad):Sp:=fun vs H Q _=>∃ (p dx dp ob l:Addr) (pf:Int→Option Int) (pa:Int→List Int) (us:List Int) (bs ls:List (Int×Int)) (rs:List V),vs=[.ref p,.ref l]∧WayAt a H p pf us bs dx dp ob∧UpP us pf pa∧H l=some (.lst rs)∧LnAt H rs ls∧Bd ls∧ls.length≤66∧(∀ q∈ls,q.1∈us∧q.2∈us) ∧
 ∀ (d:Addr) (js:List ((Int×Int)×PT)) (H':Hp),H d=none→H' d=some (.dT (kvJ js))→tlJ js=jn (ldr pa) ls→PsAt H' (js.map (·.2))→Same H H'→Q (.ref d) H'
theorem zbu (T:Txt w K mg a):FnOk P w K mg base CX0 3 a.f_qh a.d_qh ["way", "lines"] (zf9 a):=by
 refine T.F_qh.ok sc_qh (fun vs H Q E h=>?_) (fun cdv A outer s H vs Q E hr h=>?_)
 ·obtain⟨p,dx,dp,ob,l,pf,pa,us,bs,ls,rs,rfl,_⟩:=h
  rfl
 ·obtain⟨p,dx,dp,ob,l,pf,pa,us,bs,ls,rs,rfl,W,U,hl,L,B,l66,hin,k⟩:=h
  have hu:=xw hr
  generalize hlf:ldr pa=lf at *
  refine zV (ze (zp (i:=2) sc_qh.nd rfl (Or.inl rfl) xU)
   (ze (zL PassesOwn.never rfl (zB (zi 1)) (yg rfl (zy (zm (i:=3) sc_qh.nd rfl (Or.inl rfl)) (zy (zm (i:=4) sc_qh.nd rfl (Or.inl rfl)) z5)))
    (ze (zp (i:=5) sc_qh.nd rfl (Or.inl rfl) (zX yz (by rfl) T.n_tuple yA (zS (zl xq (by rfl) T.n_sorted xi (zr (zF (zS (zJ (zi 0) (zh (zi 3) zd)) (zS (zJ (zi 0) (zh (zi 4) zd)) zd))) zd)) zd)))
    (zf (zx (zk wt (zz zP (zi 5) zg (fun _ _=>rfl)) (zz zP (zi 5) zg (fun _ _=>rfl)) (zv _))
     (zf (z4 (uH hu (zi 2) (zi 5) (yL (zh (zi 3) (zh (zi 4) zd))) ⟨rfl,rfl,rfl,rfl⟩)))
     zn))))
   (zf (zj (zi 2))))) ?_
  refine fun d hd=>?_
  have lr:=L.1
  refine⟨_,rfl,l,rfl,⟨_,SqL.of (Same.new hd _ _ hl)⟩,?_⟩
  refine for_list (xs:=rs) (fun i σ H'=>∃ (js:List ((Int×Int)×PT)) (o3 o4 o5:Option V),σ=[some (.ref p),some (.ref l),some (.ref d),o3,o4,o5]∧H' d=some (.dT (kvJ js))∧tlJ js=jn lf (ls.take i)∧PsAt H' (js.map (·.2))∧Same H H') ?_ ?_ ?_ ?_
  ·exact⟨[],none,none,none,rfl,upd_same,rfl,(fun p hp=>(nomatch hp)),Same.new hd⟩
  ·rintro i σ H' hi ⟨js,o3,o4,o5,_,_,_,_,sm⟩
   exact SqL.of (sm _ _ hl)
  ·rintro i v σ H1 hi ⟨js,o3,o4,o5,rfl,hd1,ej,ps,sm⟩
   obtain⟨⟨x,y⟩,q,hp,rfl,hq⟩:=L.get hi
   have hpm:=List.mem_of_getElem? hp
   obtain⟨hx,hy⟩:=hin _ hpm
   have hbd:=B _ hpm
   dsimp only at hx hy hbd hq
   have ljs:js.length≤66:=by
    have h1:=congrArg List.length ej
    unfold tlJ at h1
    rw[List.length_map] at h1
    have h2:=V7 (lf:=lf) (ls:=ls.take i)
    rw[List.length_take] at h2
    omega
   refine⟨q,_,rfl,SqT.of (sm _ _ hq),rfl,_,_,rfl,_,_,rfl,rfl,?_⟩
   refine⟨_,rfl,p,_,dx,_,_,_,_,_,_,rfl,sm _ _ W.p,rfl,T.cl_Way,T.mt_qF,YT (P:=P) (w:=w) T,hr.mono (by omega),T.b_qF,_,rfl,p,dx,dp,ob,pf,pa,us,x,rfl,(W.same sm).r,U,hx,fun H2 s2=>?_⟩
   rw[hlf]
   have sm2:=sm.trans s2
   refine⟨_,rfl,p,_,dx,_,_,_,_,_,_,rfl,sm2 _ _ W.p,rfl,T.cl_Way,T.mt_qF,YT (P:=P) (w:=w) T,hr.mono (by omega),T.b_qF,_,rfl,p,dx,dp,ob,pf,pa,us,y,rfl,(W.same sm2).r,U,hy,fun H3 s3=>?_⟩
   rw[hlf]
   have sm3:=sm2.trans s3
   refine⟨(by show 2≤sizeLine;decide),fun pl hpl=>?_⟩
   have s4:=Same.new (o:=HO.lst [V.int (lf x),V.int (lf y)]) hpl
   refine⟨pl,[lf x,lf y],rfl,SqL.of upd_same,(by show 2<64;decide),fun pm ms hpm' pmm sd=>?_⟩
   rw[xX pmm sd]
   have s5:=s4.trans (Same.new (o:=HO.lst ([min (lf x) (lf y),max (lf x) (lf y)].map V.int)) hpm')
   refine⟨pm,_,rfl,.inl ⟨SqL.of upd_same,fun pt hpt=>?_⟩⟩
   have s6:=s5.trans (Same.new (o:=HO.tup ([min (lf x) (lf y),max (lf x) (lf y)].map V.int)) hpt)
   have ht6:=upd_same (H:=(upd (upd H3 pl (HO.lst [V.int (lf x),V.int (lf y)])) pm (HO.lst ([min (lf x) (lf y),max (lf x) (lf y)].map V.int)))) (a:=pt) (o:=HO.tup ([min (lf x) (lf y),max (lf x) (lf y)].map V.int))
   generalize upd (upd (upd H3 pl (HO.lst [V.int (lf x),V.int (lf y)])) pm (HO.lst ([min (lf x) (lf y),max (lf x) (lf y)].map V.int))) pt (HO.tup ([min (lf x) (lf y),max (lf x) (lf y)].map V.int))=H6 at *
   have t6:=(s2.trans s3).trans s6
   have sm6:=sm.trans t6
   refine⟨_,rfl,pt,_,0,_,rfl,rfl,SqT.of ht6,rfl,_,rfl,pt,_,1,_,rfl,rfl,SqT.of ht6,rfl,rfl,_,rfl,?_⟩
   have etk:ls.take (i+1)=ls.take i++[(x,y)]:=by rw[List.take_add_one,hp];rfl
   by_cases c:lf x=lf y
   ·refine iteN (by rw[c];simp) ?_
    refine⟨js,_,_,_,rfl,t6 _ _ hd1,?_,ps.same t6,sm6⟩
    rw[etk,vy]
    unfold jst
    rw[if_pos c]
    exact ej
   ·refine iteB (by simp;omega) ?_
    refine⟨_,rfl,d,rfl,.inr ⟨_,.inl (t6 _ _ hd1)⟩,_,rfl,_,rfl,_,rfl,(by show 2≤sizeLine;decide),fun pr hpr=>?_⟩
    have s7:=Same.new (o:=HO.tup [V.int x,V.int y]) hpr
    have t7:=t6.trans s7
    have hd7:=t7 _ _ hd1
    have npd:pr≠d:=fun z=>by rw[z,t6 _ _ hd1] at hpr;cases hpr
    have key:(yV (kvJ js) ([Sum.inl (min (lf x) (lf y)),Sum.inl (max (lf x) (lf y))]:List Key)).isSome=decide (jk lf (x,y)∈js.map (·.1)):=ZW (js:=js) (k:=jk lf (x,y))
    have emp:(tlJ js).map (·.1)=js.map (·.1):=by unfold tlJ;rw[List.map_map];rfl
    refine .inr ⟨kvJ js,[Sum.inl (min (lf x) (lf y)),Sum.inl (max (lf x) (lf y))],pt,hd7,rfl,s7 _ _ ht6,by unfold kvJ;rw[List.length_map];exact zo (by omega),fun u hu'=>?_,fun hn=>?_⟩
    ·rw[hu'] at key
     have hk:jk lf (x,y)∈js.map (·.1):=of_decide_eq_true key.symm
     refine⟨js,_,_,_,rfl,hd7,?_,ps.same t7,sm.trans t7⟩
     rw[etk,vy,← ej]
     unfold jst
     rw[if_neg c,if_pos (by rw[emp];exact hk)]
    ·rw[hn] at key
     have hk:jk lf (x,y)∉js.map (·.1):=of_decide_eq_false key.symm
     refine⟨js++[(jk lf (x,y),(pr,x,y))],_,_,_,rfl,?_,?_,?_,Same.updF (sm.trans t7) hd⟩
     ·rw[upd_same]
      rw[L2.putK_new _ hn]
      unfold kvJ
      rw[List.map_append]
      rfl
     ·rw[etk,vy,← ej]
      unfold jst
      rw[if_neg c,if_neg (by rw[emp];exact hk)]
      unfold tlJ
      rw[List.map_append]
      rfl
     ·have hnd:∀ b xs,(upd H6 pr (HO.tup [V.int x,V.int y])) b=some (.tup xs)→b≠d:=fun b xs e z=>by rw[z,hd7] at e;cases e
      rw[List.map_append]
      intro q' hq'
      rcases List.mem_append.mp hq' with z | z
      ·have h1:=ps.same t7 q' z
       exact⟨by rw[upd_ne (hnd _ _ h1.1)];exact h1.1,h1.2⟩
      ·rw[List.mem_singleton.mp z]
       exact⟨by rw[upd_ne npd];exact upd_same,hbd⟩
  ·rintro σ H1 ⟨js,o3,o4,o5,rfl,hd1,ej,ps,sm⟩
   rw[List.take_of_length_le (by omega)] at ej
   exact⟨_,rfl,k d js H1 hd hd1 ej ps sm⟩
inductive WhV:V→Bool→Prop where
 |int (i:Int):WhV (.int i) true
 |non:WhV .non false
 |str (x:Str):WhV (.str x) false
def vR:Sp:=fun vs H Q _=>∃ v b,vs=[v]∧WhV v b∧Q (.bl b) H
theorem ZM (T:Txt w K mg a):FnOk P w K mg base CX0 1 a.f_qa a.d_qa ["value"] vR:=by
 refine T.F_qa.ok Vo (fun vs H Q E h=>?_) (fun cdv A outer s H vs Q E hr h=>?_)
 ·obtain⟨v,b,rfl,_⟩:=h
  rfl
 ·obtain⟨v,b,rfl,hv,k⟩:=h
  refine zV (zf (zj (yp (zl zI (by rfl) T.n_isinstance zq (zh (zi 0) (zh (zW T.n_int Yo) zd))) (yo (vK (zl zI (by rfl) T.n_isinstance zq (zh (zi 0) (zh (zW T.n_bool wB) zd)))))))) ?_
  cases hv with
  |int i =>
   refine⟨_,rfl,_,_,_,_,_,rfl,rfl,.int i,T.k_tint_tint,_,rfl,xh ?_⟩
   exact⟨_,rfl,_,_,_,_,_,rfl,rfl,.int i,T.k_tint_tbool,_,rfl,k⟩
  |non=>exact⟨_,rfl,_,_,_,_,_,rfl,rfl,.non,T.k_tNoneType_tint,_,rfl,iteN rfl k⟩
  |str x=>exact⟨_,rfl,_,_,_,_,_,rfl,rfl,.str x,T.k_tstr_tint,_,rfl,iteN rfl k⟩
def poV (us:List Int) (pf:Int→Option Int):V→V
 |.int x=>if x∈us then opV (pf x) else .non
 |_=>.non
def zhK (a:Ad):Sp:=fun vs H Q _=>∃ (p dx dp ob:Addr) (pf:Int→Option Int) (us:List Int) (ls:List (Int×Int)) (v:V) (b:Bool),vs=[.ref p,v]∧WayAt a H p pf us ls dx dp ob∧WhV v b∧∀ H',Same H H'→Q (poV us pf v) H'
theorem zbm (T:Txt w K mg a):FnOk P w K mg base CX0 6 a.f_qB a.d_qB ["self", "hand"] (zhK a):=by
 have c_qa:Callee P w K mg base "is_whole" a.f_qa a.d_qa ["value"] 1 vR:=⟨ZM T,T.g_qa,T.F_qa.kp,T.b_qa⟩
 have c_qb:Callee P w K mg base "copied" a.f_qb a.d_qb ["value"] (3+2) (WN 3):=⟨yH T 3,T.g_qb,T.F_qb.kp,T.b_qb⟩
 refine T.F_qB.ok sc_qB (fun vs H Q E h=>?_) (fun cdv A outer s H vs Q E hr h=>?_)
 ·obtain⟨p,dx,dp,ob,pf,us,ls,v,b,rfl,_⟩:=h
  rfl
 ·obtain⟨p,dx,dp,ob,pf,us,ls,v,b,rfl,W,hv,k⟩:=h
  refine zV (ze (xD (zL PassesOwn.never rfl (yU (yh (zi 0) rfl)) (yg rfl (zy (zm (i:=2) sc_qB.nd rfl (Or.inl rfl)) (zy (zm (i:=3) sc_qB.nd rfl (Or.inl rfl)) z5)))
    (zf (zx (wg (yf (zk xc (zt c_qa (hr.mono (by omega)) (zh (zi 2) zd)) (zt c_qa (hr.mono (by omega)) (zh (zi 1) zd)) (zv _)) (yb (zk xc (zi 2) (zi 1) (zv _)))))
     (zf (zj (zt c_qb (hr.mono (by omega)) (zh (zi 3) zd))))
     zn))))
   (zf (zj z9))) ?_
  refine⟨_,rfl,p,_,dx,_,_,rfl,W.p,T.cl_Way,T.na_Way_own_parents,rfl,dp,_,rfl,W.dp,fun od S=>?_⟩
  have hz1:=upd_same (H:=H) (a:=dp) (o:=HO.frz od (HO.dK (tabV (fun x=>opV (pf x)) us)))
  have x1:Ext dp H (upd H dp (HO.frz od (HO.dK (tabV (fun x=>opV (pf x)) us)))):=Ext.at
  generalize upd H dp (HO.frz od (HO.dK (tabV (fun x=>opV (pf x)) us)))=H1 at *
  have back:∀ {G:Hp},Same H1 G→Same H (upd G dp (HO.dK (tabV (fun x=>opV (pf x)) us))):=fun {G} sm b o e=>by
   by_cases z:b=dp
   ·rw[z,W.dp] at e;cases e;rw[z];exact upd_same
   ·rw[upd_ne z];exact sm _ _ (x1 _ _ e z)
  refine v9 (yl:=yI) (d:=dp) (od:=od) (kvs:=tabV (fun x=>opV (pf x)) us) (fun i σ H'=>∃ (o2 o3:Option V),σ=[some (.ref p),some v,o2,o3]∧Same H1 H'∧∀ x,v=.int x→x∉us.take i) ?_ ?_ ?_ ?_
  ·exact⟨none,none,rfl,fun _ _ h=>h,fun x _=>by simp⟩
  ·rintro i σ H' ⟨o2,o3,_,sm,_⟩
   exact sm _ _ hz1
  ·rintro i kv u σ G G' hkv ⟨o2,o3,rfl,sm,hni⟩ hy
   obtain⟨x,hx,rfl⟩:∃ x,us[i]?=some x∧kv=(Sum.inl x,opV (pf x)):=by
    unfold tabV at hkv
    rw[List.getElem?_map] at hkv
    obtain⟨x,h1,h2⟩:=Option.map_eq_some_iff.mp hkv
    exact⟨x,h1,h2.symm⟩
   obtain⟨p0,hp0,rfl,rfl⟩:=uE hy
   have etk:us.take (i+1)=us.take i++[x]:=by rw[List.take_add_one,hx];rfl
   have hxu:=List.mem_of_getElem? hx
   have n1:=Same.new (o:=HO.tup [V.int x,opV (pf x)]) hp0
   have sm2:=sm.trans n1
   refine⟨p0,_,rfl,SqT.of upd_same,rfl,_,_,rfl,_,_,rfl,rfl,?_⟩
   generalize upd G p0 (HO.tup [V.int x,opV (pf x)])=G2 at *
   refine⟨_,rfl,_,true,rfl,.int x,_,rfl,v,b,rfl,hv,rfl,_,rfl,?_⟩
   cases hv with
   |non=>exact iteN (by rfl) ⟨_,_,rfl,sm2,fun y hy=>(nomatch hy)⟩
   |str s=>exact iteN (by rfl) ⟨_,_,rfl,sm2,fun y hy=>(nomatch hy)⟩
   |int j =>
    refine iteB (by rfl) ?_
    refine⟨_,rfl,_,rfl,rfl,_,rfl,?_⟩
    by_cases c:x=j
    ·subst c
     refine iteB (by simp) ?_
     refine⟨_,rfl,_,rfl,.inl ⟨by decide,ZL _,?_⟩⟩
     refine .inr ⟨dp,od,_,S,sm2 _ _ hz1,?_⟩
     have e:poV us pf (.int x)=opV (pf x):=if_pos hxu
     have:=k _ (back sm2)
     rw[e] at this
     exact this
    ·refine iteN (by simp[c]) ⟨_,_,rfl,sm2,fun y hy=>?_⟩
     cases hy
     rw[etk]
     exact fun z=>(List.mem_append.mp z).elim (hni j rfl) fun e=>c (List.mem_singleton.mp e).symm
  ·rintro σ H' ⟨o2,o3,rfl,sm,hni⟩
   rw[tabV_len,List.take_length] at hni
   refine .inr ⟨dp,od,_,S,sm _ _ hz1,?_⟩
   have e:poV us pf v=.non:=by
    cases hv with
    |int i=>exact if_neg (hni i rfl)
    |non=>rfl
    |str x=>rfl
   have:=k _ (back sm)
   rw[e] at this
   exact this
open L2.Sco (PT PsAt)
structure WbP (a:Ad) (H:Hp) (p:Addr) (hs:List Int) (ls:List (Int×Int)):Prop where
 wh:Hs hs
 wl:Ls hs ls
 at_:∃ dx oh ol d ad,WebAt a H p hs ls dx oh ol d ad
theorem WbP.same {H H':Hp}{p:Addr}{hs:List Int}{ls:List (Int×Int)}(h:WbP a H p hs ls) (s:Same H H'):WbP a H' p hs ls:=⟨h.wh,h.wl,let ⟨dx,oh,ol,d,ad,W⟩:=h.at_;⟨dx,oh,ol,d,ad,W.same s⟩⟩
def zaP (a:Ad):Sp:=fun vs H Q _=>∃ (p:Addr) (hs:List Int) (ls:List (Int×Int)) (dx oh ol d:Addr) (ad:Int→Addr),vs=[.ref p]∧WebAt a H p hs ls dx oh ol d ad∧∀ q zs,H q=none→LnAt H zs (srt ls)→Q (.ref q) (upd H q (.lst zs))
theorem VL (T:Txt w K mg a):FnOk P w K mg base CX0 1 a.f_qI a.d_qI ["self"] (zaP a):=by
 refine T.F_qI.ok za6 (fun vs H Q E h=>?_) (fun cdv A outer s H vs Q E hr h=>?_)
 ·obtain⟨p,hs,ls,dx,oh,ol,d,ad,rfl,_⟩:=h
  rfl
 ·obtain⟨p,hs,ls,dx,oh,ol,d,ad,rfl,W,k⟩:=h
  refine zV (zf (zj (zX yJ (by rfl) T.n_list yX (zr (yh (zi 0) rfl) zd)))) ?_
  obtain⟨zs,h1,h2⟩:=W.ol
  exact⟨_,rfl,p,_,dx,_,_,rfl,W.p,T.cl_Web,T.na_Web_own_lines,rfl,ol,_,rfl,.inl (SqL.of h1),fun q hq=>k q zs hq h2⟩
theorem XT {hs:List Int}{ls:List (Int×Int)}{x y:Int}(L:Ls hs ls) (h:adB ls x y=true):y∈hs:=by
 unfold adB at h
 rw[Bool.or_eq_true,decide_eq_true_eq,decide_eq_true_eq] at h
 rcases h with h | h
 ·exact(L.ok _ h).2.1
 ·exact(L.ok _ h).1
theorem uc {ls:List (Int×Int)}{x y:Int}:adB ls x y=adB ls y x:=by
 unfold adB
 rw[Bool.or_comm]
def zhM (a:Ad):Sp:=fun vs H Q _=>∃ (p:Addr) (x y:Int) (hs:List Int) (ls:List (Int×Int)) (dx oh ol d:Addr) (ad:Int→Addr),vs=[.ref p,.int x,.int y]∧WebAt a H p hs ls dx oh ol d ad∧x∈hs∧y∈hs∧Q (.bl (adB ls x y)) H
theorem VO (T:Txt w K mg a):FnOk P w K mg base CX0 3 a.f_qK a.d_qK ["self", "one", "other"] (zhM a):=by
 refine T.F_qK.ok za4 (fun vs H Q E h=>?_) (fun cdv A outer s H vs Q E hr h=>?_)
 ·obtain⟨p,x,y,hs,ls,dx,oh,ol,d,ad,rfl,_⟩:=h
  rfl
 ·obtain⟨p,x,y,hs,ls,dx,oh,ol,d,ad,rfl,W,hx,hy,k⟩:=h
  have hu:=xw hr
  refine zV (zf (zj (yp (zJ (zi 0) (zh (zi 1) zd)) (yp (zJ (zi 0) (zh (zi 2) zd)) (yo (zR xb (zi 2) (yr hu (yh (zi 0) rfl) (zi 1) (fun _ _=>rfl)) (by with_unfolding_all rfl))))))) ?_
  refine⟨_,rfl,p,_,dx,_,_,_,_,_,_,rfl,W.p,rfl,T.cl_Web,T.mt_qJ,ZO (P:=P) (w:=w) T,hr.mono (by omega),T.b_qJ,_,rfl,p,x,hs,ls,dx,oh,ol,d,ad,rfl,W,hx,_,rfl,xh ?_⟩
  refine⟨_,rfl,p,_,dx,_,_,_,_,_,_,rfl,W.p,rfl,T.cl_Web,T.mt_qJ,ZO (P:=P) (w:=w) T,hr.mono (by omega),T.b_qJ,_,rfl,p,y,hs,ls,dx,oh,ol,d,ad,rfl,W,hy,_,rfl,xh ?_⟩
  refine⟨_,rfl,_,rfl,p,_,dx,_,_,rfl,W.p,T.cl_Web,T.na_Web_near,rfl,_,rfl,d,V.ref (ad x),rfl,wj W.nr.d hx,ad x,_,rfl,.inl (SqL.of (W.nr.nb x hx)),rfl,ym _,?_⟩
  have e:inV (.int y) ((nbs ls x).map V.int)=adB ls x y:=by rw[yx,Ys]
  rw[e]
  exact k
theorem WebAt.frz {H G:Hp}{p dx oh ol d d0:Addr}{hs us:List Int}{ls:List (Int×Int)}{ad:Int→Addr}{pf:Int→Option Int}(W:WebAt a H p hs ls dx oh ol d0 ad) (hd:H d=some (.dK (tabV (fun x=>opV (pf x)) us))) (wh:Hs hs) (x:Ext d H G):WebAt a G p hs ls dx oh ol d0 ad:=by
 have nt:∀ {b:Addr}{o:HO},H b=some o→(∀ kvs,o≠.dK kvs)→G b=some o:=fun {b o} e n=>x b o e fun z=>by rw[z,hd] at e;injection e with e;exact n _ e.symm
 have n0:d0≠d:=fun z=>by
  have e:=W.nr.d
  rw[z,hd] at e
  injection e with e
  injection e with e
  have l1:=wh.l1
  cases hs with
  |nil=>simp at l1
  |cons h hs =>
   cases us with
   |nil=>cases e
   |cons u us =>
    unfold tabV tab at e
    rw[List.map_cons,List.map_cons] at e
    injection e with e _
    injection e with _ e
    have e:opV (pf u)=V.ref (ad h):=e
    cases hp:pf u with
    |none=>rw[hp] at e;cases e
    |some y=>rw[hp] at e;cases e
 obtain⟨zs,o1,o2⟩:=W.ol
 exact⟨nt W.p (fun _ z=>by cases z),nt W.oh (fun _ z=>by cases z),⟨x _ _ W.nr.d n0,fun h hm=>nt (W.nr.nb h hm) (fun _ z=>by cases z)⟩,zs,nt o1 (fun _ z=>by cases z),o2.1,fun i r q h1 h2=>by
  obtain⟨t,e1,e2⟩:=o2.2 i r q h1 h2
  exact⟨t,e1,nt e2 (fun _ z=>by cases z)⟩⟩
def zgd (a:Ad):Sp:=fun vs H Q _=>∃ (p d:Addr) (hs us:List Int) (ls:List (Int×Int)) (pf:Int→Option Int),vs=[.ref p,.ref d]∧WbP a H p hs ls∧H d=some (.dK (tabV (fun x=>opV (pf x)) us))∧us.Nodup∧(∀ x,x∈us↔x∈hs)∧Cl us pf∧∀ (b:Bool) (H':Hp),(b=true↔∀ x∈us,∀ y,pf x=some y→adB ls x y=true)→Same H H'→Q (.bl b) H'
theorem zby (T:Txt w K mg a):FnOk P w K mg base CX0 4 a.f_qc a.d_qc ["web", "parents"] (zgd a):=by
 refine T.F_qc.ok sc_qc (fun vs H Q E h=>?_) (fun cdv A outer s H vs Q E hr h=>?_)
 ·obtain⟨p,d,hs,us,ls,pf,rfl,_⟩:=h
  rfl
 ·obtain⟨p,d,hs,us,ls,pf,rfl,WP,hd,nd,hm,C,k⟩:=h
  obtain⟨wdx,oh,ol,d0,ad,W⟩:=WP.at_
  have hlen:us.length=hs.length:=Nat.le_antisymm (wU nd fun x hx=>(hm x).mp hx) (wU (Z8 WP.wh) fun x hx=>(hm x).mpr hx)
  refine zV (ze (zx (wg (yi (zK (zE (zl zI (by rfl) T.n_isinstance zq (zh (zi 1) (zh (zW T.n_dict vF) zd))))) (zZ (zk wt (zl xP (by rfl) T.n_len zY (zh (zi 1) zd)) (zl zw (by rfl) T.n_len zY (zS (z8 (zi 0)) zd)) (zv _)))))
    (zf (zj zD))
    zn)
   (ze (xD (zL PassesOwn.never rfl (yU (zi 1)) (yg rfl (zy (zm (i:=2) sc_qc.nd rfl (Or.inl rfl)) (zy (zm (i:=3) sc_qc.nd rfl (Or.inl rfl)) z5)))
    (ze (zx (zK (zE (zJ (zi 0) (zh (zi 2) zd))))
     (zf (zj zD))
     zn)
    (zf (zx (wg (yf (zk xI (zi 3) z9 (zv _)) (yb (zK (zE (zJ (zi 0) (zh (zi 2) (zh (zi 3) zd))))))))
     (zf (zj zD))
     zn)))))
   (zf (zj zD)))) ?_
  refine⟨_,rfl,_,_,_,_,_,rfl,rfl,.dK hd,T.k_tdict_tdict,_,rfl,iteN rfl ?_⟩
  refine⟨_,rfl,d,_,rfl,hd,?_⟩
  refine⟨_,rfl,p,_,wdx,_,_,_,_,_,_,rfl,W.p,rfl,T.cl_Web,T.mt_qH,wT (P:=P) (w:=w) T,hr.mono (by omega),T.b_qH,p,hs,ls,wdx,oh,ol,d0,ad,rfl,W,fun l hl=>?_⟩
  have s1:=Same.new (o:=HO.lst (hs.map V.int)) hl
  have hl1:=upd_same (H:=H) (a:=l) (o:=HO.lst (hs.map V.int))
  generalize upd H l (HO.lst (hs.map V.int))=H1 at *
  refine⟨l,_,rfl,.inl (SqL.of hl1),rfl,_,rfl,iteN (by rw[tabV_len,List.length_map,hlen];simp) ?_⟩
  refine⟨_,rfl,d,_,rfl,s1 _ _ hd,fun od S=>?_⟩
  have hd1:=s1 _ _ hd
  have hz1:=upd_same (H:=H1) (a:=d) (o:=HO.frz od (HO.dK (tabV (fun x=>opV (pf x)) us)))
  have x1:Ext d H1 (upd H1 d (HO.frz od (HO.dK (tabV (fun x=>opV (pf x)) us)))):=Ext.at
  have W1:=(W.same s1).frz hd1 WP.wh x1
  generalize upd H1 d (HO.frz od (HO.dK (tabV (fun x=>opV (pf x)) us)))=G1 at *
  have back:∀ {G:Hp},Same G1 G→Same H (upd G d (HO.dK (tabV (fun x=>opV (pf x)) us))):=fun {G} sm b o e=>by
   by_cases z:b=d
   ·rw[z,hd] at e;cases e;rw[z];exact upd_same
   ·rw[upd_ne z];exact sm _ _ (x1 _ _ (s1 _ _ e) z)
  refine v9 (yl:=yI) (d:=d) (od:=od) (kvs:=tabV (fun x=>opV (pf x)) us) (fun i σ H'=>∃ (o2 o3:Option V),σ=[some (.ref p),some (.ref d),o2,o3]∧Same G1 H'∧∀ x∈us.take i,∀ y,pf x=some y→adB ls x y=true) ?_ ?_ ?_ ?_
  ·exact⟨none,none,rfl,fun _ _ h=>h,fun x hx=>by simp at hx⟩
  ·rintro i σ H' ⟨o2,o3,_,sm,_⟩
   exact sm _ _ hz1
  ·rintro i kv u σ G G' hkv ⟨o2,o3,rfl,sm,gd⟩ hy
   obtain⟨x,hx,rfl⟩:∃ x,us[i]?=some x∧kv=(Sum.inl x,opV (pf x)):=by
    unfold tabV at hkv
    rw[List.getElem?_map] at hkv
    obtain⟨x,h1,h2⟩:=Option.map_eq_some_iff.mp hkv
    exact⟨x,h1,h2.symm⟩
   obtain⟨p0,hp0,rfl,rfl⟩:=uE hy
   have hxu:=List.mem_of_getElem? hx
   have etk:us.take (i+1)=us.take i++[x]:=by rw[List.take_add_one,hx];rfl
   have gd2:(∀ y,pf x=some y→adB ls x y=true)→∀ u∈us.take (i+1),∀ y,pf u=some y→adB ls u y=true:=fun h u hu=>by
    rw[etk] at hu
    rcases List.mem_append.mp hu with e | e
    ·exact gd u e
    ·rw[List.mem_singleton.mp e];exact h
   have n1:=Same.new (o:=HO.tup [V.int x,opV (pf x)]) hp0
   refine⟨p0,_,rfl,SqT.of upd_same,rfl,_,_,rfl,_,_,rfl,rfl,?_⟩
   have sm2:=sm.trans n1
   generalize upd G p0 (HO.tup [V.int x,opV (pf x)])=G2 at *
   have W2:=W1.same sm2
   refine⟨_,rfl,p,_,wdx,_,_,_,_,_,_,rfl,W2.p,rfl,T.cl_Web,T.mt_qJ,ZO (P:=P) (w:=w) T,hr.mono (by omega),T.b_qJ,_,rfl,p,x,hs,ls,wdx,oh,ol,d0,ad,rfl,W2,(hm x).mp hxu,_,rfl,iteN rfl ?_⟩
   cases hpx:pf x with
   |none=>exact⟨_,rfl,rfl,_,rfl,iteN rfl ⟨_,_,rfl,sm2,gd2 fun y h=>by rw[hpx] at h;cases h⟩⟩
   |some y =>
    refine⟨_,rfl,rfl,_,rfl,xh ?_⟩
    refine⟨_,rfl,p,_,wdx,_,_,_,_,_,_,rfl,W2.p,rfl,T.cl_Web,T.mt_qK,VO (P:=P) (w:=w) T,hr.mono (by omega),T.b_qK,_,rfl,_,rfl,p,x,y,hs,ls,wdx,oh,ol,d0,ad,rfl,W2,(hm x).mp hxu,(hm y).mp (C x hxu y hpx),_,rfl,?_⟩
    cases hb:adB ls x y with
    |true=>exact iteN rfl ⟨_,_,rfl,sm2,gd2 fun y' h=>by rw[hpx] at h;cases h;exact hb⟩
    |false =>
     refine xh ?_
     refine .inr ⟨d,od,_,S,sm2 _ _ hz1,k false _ ⟨fun z=>(nomatch z),fun h=>?_⟩ (back sm2)⟩
     rw[h x hxu y hpx] at hb
     cases hb
  ·rintro σ H' ⟨o2,o3,rfl,sm,gd⟩
   rw[tabV_len,List.take_length] at gd
   exact .inr ⟨d,od,_,S,sm _ _ hz1,k true _ ⟨fun _=>gd,fun _=>rfl⟩ (back sm)⟩
open L2.Sco (PT PsAt)
def zga (a:Ad):Sp:=fun vs H Q _=>∃ (p q dx dp ob:Addr) (hs us:List Int) (ls bs:List (Int×Int)) (pf:Int→Option Int),vs=[.ref p,.ref q]∧WbP a H p hs ls∧WayAt a H q pf us bs dx dp ob∧(∀ x,x∈us↔x∈hs)∧Cl us pf∧∀ (b:Bool) (H':Hp),(b=true↔∀ x∈us,∃ l,En pf x l)→Same H H'→Q (.bl b) H'
theorem zbv (T:Txt w K mg a):FnOk P w K mg base CX0 7 a.f_qd a.d_qd ["web", "way"] (zga a):=by
 refine T.F_qd.ok sc_qd (fun vs H Q E h=>?_) (fun cdv A outer s H vs Q E hr h=>?_)
 ·obtain⟨p,q,dx,dp,ob,hs,us,ls,bs,pf,rfl,_⟩:=h
  rfl
 ·obtain⟨p,q,dx,dp,ob,hs,us,ls,bs,pf,rfl,WP,Y,hm,C,k⟩:=h
  obtain⟨wdx,oh,ol,d0,ad,W⟩:=WP.at_
  refine zV (ze (zL PassesOwn.never rfl (zB (z8 (zi 0))) (zm (i:=2) sc_qd.nd rfl (Or.inl rfl))
    (zf (zx (zk xI (zJ (zi 1) (zS (zJ (zi 1) (zh (zi 2) zd)) zd)) z9 (zv _))
     (zf (zj zD))
     zn)))
   (zf (zj zD))) ?_
  refine⟨_,rfl,p,_,wdx,_,_,_,_,_,_,rfl,W.p,rfl,T.cl_Web,T.mt_qH,wT (P:=P) (w:=w) T,hr.mono (by omega),T.b_qH,p,hs,ls,wdx,oh,ol,d0,ad,rfl,W,fun l hl=>?_⟩
  have s1:=Same.new (o:=HO.lst (hs.map V.int)) hl
  have hl1:=upd_same (H:=H) (a:=l) (o:=HO.lst (hs.map V.int))
  generalize upd H l (HO.lst (hs.map V.int))=H1 at *
  refine⟨l,rfl,⟨_,SqL.of hl1⟩,?_⟩
  refine for_list (xs:=hs.map V.int) (fun i σ H'=>∃ (o2:Option V),σ=[some (.ref p),some (.ref q),o2]∧Same H1 H'∧∀ x∈hs.take i,∃ l,En pf x l) ?_ ?_ ?_ ?_
  ·exact⟨none,rfl,fun _ _ h=>h,fun x hx=>by simp at hx⟩
  ·rintro i σ H' hi ⟨o2,_,sm,_⟩
   exact SqL.of (sm _ _ hl1)
  ·rintro i v σ G hi ⟨o2,rfl,sm,gd⟩
   rw[List.getElem?_map] at hi
   obtain⟨x,hx,rfl⟩:=Option.map_eq_some_iff.mp hi
   have hxu:=(hm x).mpr (List.mem_of_getElem? hx)
   have etk:hs.take (i+1)=hs.take i++[x]:=by rw[List.take_add_one,hx];rfl
   have Y1:=(Y.same s1).same sm
   refine⟨_,rfl,q,_,dx,_,_,_,_,_,_,rfl,Y1.p,rfl,T.cl_Way,T.mt_qB,zbm (P:=P) (w:=w) T,hr.mono (by omega),T.b_qB,_,rfl,q,_,dx,_,_,_,_,_,_,rfl,Y1.p,rfl,T.cl_Way,T.mt_qF,XO (P:=P) (w:=w) T,hr.mono (by omega),T.b_qF,_,rfl,q,dx,dp,ob,pf,us,x,rfl,Y1.r,C,hxu,fun ys z G2 s2 hz hor=>?_⟩
   refine⟨q,dx,dp,ob,pf,us,bs,.int z,true,rfl,Y1.same s2,.int _,fun G3 s3=>?_⟩
   have e:poV us pf (.int z)=opV (pf z):=if_pos hz
   rw[e]
   rcases hor with⟨h1,h2⟩ | ⟨h1,h2⟩
   ·rw[h1]
    refine⟨rfl,_,rfl,iteN rfl ⟨_,rfl,sm.trans (s2.trans s3),fun u hu=>?_⟩⟩
    rw[etk] at hu
    rcases List.mem_append.mp hu with e | e
    ·exact gd u e
    ·rw[List.mem_singleton.mp e];exact⟨_,h2⟩
   ·cases hpz:pf z with
    |none=>exact absurd hpz h1
    |some y =>
     refine⟨rfl,_,rfl,xh ?_⟩
     exact k false _ ⟨fun z=>(nomatch z),fun h=>absurd (h x hxu) h2⟩ (s1.trans (sm.trans (s2.trans s3)))
  ·rintro σ G ⟨o2,rfl,sm,gd⟩
   rw[List.length_map,List.take_length] at gd
   exact k true _ ⟨fun _ x hx=>gd x ((hm x).mp hx),fun _=>rfl⟩ (s1.trans sm)
def BrL (ls bs:List (Int×Int)):Prop:=∀ b∈bs,adB ls b.1 b.2=true
def zf8 (a:Ad):Sp:=fun vs H Q _=>∃ (p q t dx dp ob:Addr) (hs us:List Int) (ls bs:List (Int×Int)) (pf:Int→Option Int) (pa:Int→List Int) (x y:Int),vs=[.ref p,.ref q,.ref t]∧WbP a H p hs ls∧WayAt a H q pf us bs dx dp ob∧(∀ x,x∈us↔x∈hs)∧UpP us pf pa∧adB ls x y=true∧H t=some (.tup [.int x,.int y])∧∀ (b:Bool) (H':Hp),(b=true↔x≤y∧ldr pa x≠ldr pa y)→Same H H'→Q (.bl b) H'
theorem zbt (T:Txt w K mg a):FnOk P w K mg base CX0 4 a.f_qe a.d_qe ["web", "way", "bridge"] (zf8 a):=by
 refine T.F_qe.ok za2 (fun vs H Q E h=>?_) (fun cdv A outer s H vs Q E hr h=>?_)
 ·obtain⟨p,q,t,dx,dp,ob,hs,us,ls,bs,pf,pa,x,y,rfl,_⟩:=h
  rfl
 ·obtain⟨p,q,t,dx,dp,ob,hs,us,ls,bs,pf,pa,x,y,rfl,WP,Y,hm,U,hadj,ht,k⟩:=h
  obtain⟨wdx,oh,ol,d0,ad,W⟩:=WP.at_
  have hyh:=XT WP.wl hadj
  have hxh:=XT WP.wl (by rw[uc];exact hadj:adB ls y x=true)
  have hx:=(hm x).mpr hxh
  have hy:=(hm y).mpr hyh
  refine zV (ze (zx (wg (yi (zK (zE (zl zI (by rfl) T.n_isinstance zq (zh (zi 2) (zh (zW T.n_tuple yA) zd))))) (zZ (zk wt (zl zw (by rfl) T.n_len zY (zh (zi 2) zd)) zg (zv _)))))
    (zf (zj zD))
    zn)
   (ze (zx (wg (yi (zK (zE (zJ (zi 0) (zr (zz zP (zi 2) zg (fun _ _=>rfl)) (zr (zz zP (zi 2) zg (fun _ _=>rfl)) zd))))) (zZ (zk vt (zz zP (zi 2) zg (fun _ _=>rfl)) (zz zP (zi 2) zg (fun _ _=>rfl)) (zv _)))))
    (zf (zj zD))
    zn)
   (zf (zj (zR wt (zJ (zi 1) (zr (zz zP (zi 2) zg (fun _ _=>rfl)) zd)) (zJ (zi 1) (zr (zz zP (zi 2) zg (fun _ _=>rfl)) zd)) (zv _)))))) ?_
  refine⟨_,rfl,_,_,_,_,_,rfl,rfl,.tup ht,T.k_ttuple_ttuple,_,rfl,iteN rfl ?_⟩
  refine⟨_,rfl,t,_,rfl,.inr (SqT.of ht),rfl,_,rfl,iteN rfl ?_⟩
  refine⟨_,rfl,p,_,wdx,_,_,_,_,_,_,rfl,W.p,rfl,T.cl_Web,T.mt_qK,VO (P:=P) (w:=w) T,hr.mono (by omega),T.b_qK,_,rfl,t,_,0,_,rfl,rfl,SqT.of ht,rfl,_,rfl,t,_,1,_,rfl,rfl,SqT.of ht,rfl,p,x,y,hs,ls,wdx,oh,ol,d0,ad,rfl,W,hxh,hyh,_,rfl,iteN (by rw[hadj];rfl) ?_⟩
  by_cases c:x>y
  ·refine⟨_,rfl,t,_,0,_,rfl,rfl,SqT.of ht,rfl,_,rfl,t,_,1,_,rfl,rfl,SqT.of ht,rfl,_,_,rfl,rfl,_,rfl,iteB (by simp;omega) ?_⟩
   exact k false _ ⟨fun z=>(nomatch z),fun h=>by omega⟩ (fun _ _ h=>h)
  refine⟨_,rfl,t,_,0,_,rfl,rfl,SqT.of ht,rfl,_,rfl,t,_,1,_,rfl,rfl,SqT.of ht,rfl,_,_,rfl,rfl,_,rfl,iteN (by simp;omega) ?_⟩
  refine⟨_,rfl,q,_,dx,_,_,_,_,_,_,rfl,Y.p,rfl,T.cl_Way,T.mt_qF,YT (P:=P) (w:=w) T,hr.mono (by omega),T.b_qF,_,rfl,t,_,0,_,rfl,rfl,SqT.of ht,rfl,q,dx,dp,ob,pf,pa,us,x,rfl,Y.r,U,hx,fun G2 s2=>?_⟩
  refine⟨_,rfl,q,_,dx,_,_,_,_,_,_,rfl,s2 _ _ Y.p,rfl,T.cl_Way,T.mt_qF,YT (P:=P) (w:=w) T,hr.mono (by omega),T.b_qF,_,rfl,t,_,1,_,rfl,rfl,SqT.of (s2 _ _ ht),rfl,q,dx,dp,ob,pf,pa,us,y,rfl,(Y.same s2).r,U,hy,fun G3 s3=>?_⟩
  refine⟨rfl,?_⟩
  refine k _ _ ?_ (s2.trans s3)
  constructor
  ·intro z
   exact⟨by omega,fun e=>by rw[e] at z;simp at z⟩
  ·rintro⟨_,z⟩
   have e:decide (V.int (ldr pa x)=V.int (ldr pa y))=false:=decide_eq_false fun e=>z (by injection e)
   rw[e]
   rfl
def GdB (lf:Int→Int) (bs:List (Int×Int)):Prop:=(∀ b∈bs,b.1≤b.2∧lf b.1≠lf b.2)∧bs.Nodup
def zgc (a:Ad):Sp:=fun vs H Q _=>∃ (p q l dx dp ob:Addr) (hs us:List Int) (ls bs:List (Int×Int)) (rs:List V) (pf:Int→Option Int) (pa:Int→List Int),vs=[.ref p,.ref q,.ref l]∧WbP a H p hs ls∧WayAt a H q pf us bs dx dp ob∧(∀ x,x∈us↔x∈hs)∧UpP us pf pa∧BrL ls bs∧H l=some (.lst rs)∧LnAt H rs bs∧∀ (b:Bool) (H':Hp),(b=true↔GdB (ldr pa) bs)→Same H H'→Q (.bl b) H'
theorem zbx (T:Txt w K mg a):FnOk P w K mg base CX0 5 a.f_qf a.d_qf ["web", "way", "bridges"] (zgc a):=by
 have c_qe:Callee P w K mg base "is_bridge" a.f_qe a.d_qe ["web", "way", "bridge"] 4 (zf8 a):=⟨zbt T,T.g_qe,T.F_qe.kp,T.b_qe⟩
 refine T.F_qf.ok sc_qf (fun vs H Q E h=>?_) (fun cdv A outer s H vs Q E hr h=>?_)
 ·obtain⟨p,q,l,dx,dp,ob,hs,us,ls,bs,rs,pf,pa,rfl,_⟩:=h
  rfl
 ·obtain⟨p,q,l,dx,dp,ob,hs,us,ls,bs,rs,pf,pa,rfl,WP,Y,hm,U,BL,hl,hrs,k⟩:=h
  have l66:=Y.l66
  have hu:=xw hr
  refine zV (ze (zx (zK (zE (zl zI (by rfl) T.n_isinstance zq (zh (zi 2) (zh (zW T.n_list yX) zd)))))
    (zf (zj zD))
    zn)
   (ze (zp (i:=3) sc_qf.nd rfl (Or.inl rfl) xU)
   (ze (zL PassesOwn.never rfl (zB (zi 2)) (zm (i:=4) sc_qf.nd rfl (Or.inl rfl))
    (ze (zx (wg (yi (zK (zE (zt c_qe (hr.mono (by omega)) (zh (zi 0) (zh (zi 1) (zh (zi 4) zd)))))) (zZ (vI (vL hu (zi 4) (zi 3))))))
     (zf (zj zD))
     zn)
    (zf (yZ hu (zi 3) (zi 4) zD rfl))))
   (zf (zj zD))))) ?_
  refine⟨_,rfl,_,_,_,_,_,rfl,rfl,.lst hl,T.k_tlist_tlist,_,rfl,iteN rfl ?_⟩
  refine fun d hd=>?_
  refine⟨_,rfl,l,rfl,⟨_,SqL.of (Same.new hd _ _ hl)⟩,?_⟩
  refine for_list (K:=K) (a:=l) (xs:=rs) (fun i σ H'=>∃ (kvs:List (List Key×V)) (o:Option V),σ=[some (.ref p),some (.ref q),some (.ref l),some (.ref d),o]∧H' d=some (.dT kvs)∧kvs.map (·.1)=(bs.take i).map v7∧Same H H'∧GdB (ldr pa) (bs.take i)) ?_ ?_ ?_ ?_
  ·exact⟨[],none,rfl,upd_same,by simp,Same.new hd,by simp[GdB]⟩
  ·rintro i σ H' _ ⟨kvs,o,_,_,_,sm,_⟩
   exact SqL.of (sm _ _ hl)
  ·rintro i x σ H' hi ⟨kvs,o,rfl,hd',hk,sm,gd⟩
   obtain⟨b,t,hp,rfl,ht⟩:=(hrs.same sm).get hi
   have hbm:b∈bs:=List.mem_of_getElem? hp
   have etk:bs.take (i+1)=bs.take i++[b]:=by rw[List.take_add_one,hp];rfl
   refine⟨_,rfl,_,rfl,_,rfl,p,q,t,dx,dp,ob,hs,us,ls,bs,pf,pa,b.1,b.2,rfl,WP.same sm,Y.same sm,hm,U,BL b hbm,ht,fun bb H2 hbb s2=>⟨_,rfl,?_⟩⟩
   cases hbc:bb with
   |false =>
    refine xh ?_
    refine k false _ ⟨fun z=>(nomatch z),fun h=>?_⟩ (sm.trans s2)
    have:=hbb.mpr (h.1 b hbm)
    rw[hbc] at this
    cases this
   |true =>
   refine iteN rfl ?_
   have hd2:=s2 _ _ hd'
   have ht2:=s2 _ _ ht
   by_cases hin:b∈bs.take i
   ·have hs':(yV kvs (v7 b)).isSome=true:=by
     rw[← yM]
     have h1:v7 b∈kvs.map (·.1):=by rw[hk];exact List.mem_map_of_mem hin
     obtain⟨kv,h2,h3⟩:=List.mem_map.mp h1
     exact List.any_eq_true.mpr ⟨kv,h2,decide_eq_true h3⟩
    refine⟨_,rfl,_,rfl,d,_,rfl,DGet.t (k:=v7 b) hd2 ht2,_,rfl,iteB hs' ?_⟩
    exact k false _ ⟨fun z=>(nomatch z),fun h=>absurd hin (ww h.2 hp)⟩ (sm.trans s2)
   have hnew:v7 b∉kvs.map (·.1):=by
    rw[hk]
    intro z
    obtain⟨p',m',e'⟩:=List.mem_map.mp z
    rw[v6 e'] at m'
    exact hin m'
   have hz:kvs.length≤1000:=by
    have:=congrArg List.length hk
    rw[List.length_map,List.length_map,List.length_take] at this
    omega
   refine⟨_,rfl,_,rfl,d,_,rfl,DGet.t (k:=v7 b) hd2 ht2,_,rfl,iteN ?_ ?_⟩
   ·exact valV_no hnew
   ·refine⟨_,rfl,_,rfl,d,_,rfl,DPut.t (k:=v7 b) hd2 ht2 (zo hz),?_⟩
    refine⟨_,_,rfl,upd_same,?_,(sm.trans s2).updF hd,?_⟩
    ·rw[putK_new hnew,List.map_append,hk,etk,List.map_append]
     rfl
    ·rw[etk]
     refine⟨fun c hc=>?_,?_⟩
     ·rcases List.mem_append.mp hc with e | e
      ·exact gd.1 c e
      ·rw[List.mem_singleton.mp e];exact hbb.mp hbc
     ·rw[List.nodup_append]
      exact⟨gd.2,by simp,fun u hu v hv e=>hin (by rw[List.mem_singleton.mp hv] at e;rw[← e];exact hu)⟩
  ·rintro σ H' ⟨kvs,o,_,_,_,sm,gd⟩
   rw[hrs.1,List.take_length] at gd
   exact k true H' ⟨fun _=>gd,fun _=>rfl⟩ sm
structure GrB (us:List Int) (ls:List (Int×Int)) (pf:Int→Option Int) (bs:List (Int×Int)):Prop where
 ad:∀ x∈us,∀ y,pf x=some y→adB ls x y=true
 en:∀ x∈us,∃ l,En pf x l
 gd:GdB (ldr (paO pf)) bs
def zf7 (a:Ad):Sp:=fun vs H Q _=>∃ (p q dx dp ob:Addr) (hs us:List Int) (ls bs:List (Int×Int)) (pf:Int→Option Int),vs=[.ref p,.ref q]∧WbP a H p hs ls∧WayAt a H q pf us bs dx dp ob∧(∀ x,x∈us↔x∈hs)∧Cl us pf∧BrL ls bs∧∀ (b:Bool) (H':Hp),(b=true↔GrB us ls pf bs)→Same H H'→Q (.bl b) H'
theorem zbs (T:Txt w K mg a):FnOk P w K mg base CX0 8 a.f_qg a.d_qg ["web", "way"] (zf7 a):=by
 have c_qc:Callee P w K mg base "are_parents" a.f_qc a.d_qc ["web", "parents"] 4 (zgd a):=⟨zby T,T.g_qc,T.F_qc.kp,T.b_qc⟩
 have c_qd:Callee P w K mg base "come_to_leaders" a.f_qd a.d_qd ["web", "way"] 7 (zga a):=⟨zbv T,T.g_qd,T.F_qd.kp,T.b_qd⟩
 have c_qf:Callee P w K mg base "are_bridges" a.f_qf a.d_qf ["web", "way", "bridges"] 5 (zgc a):=⟨zbx T,T.g_qf,T.F_qf.kp,T.b_qf⟩
 refine T.F_qg.ok za1 (fun vs H Q E h=>?_) (fun cdv A outer s H vs Q E hr h=>?_)
 ·obtain⟨p,q,dx,dp,ob,hs,us,ls,bs,pf,rfl,_⟩:=h
  rfl
 ·obtain⟨p,q,dx,dp,ob,hs,us,ls,bs,pf,rfl,WP,Y,hm,C,BL,k⟩:=h
  refine zV (ze (zx (wg (yi (zK (zE (zl zI (by rfl) T.n_isinstance zq (zh (zi 1) (zh (Yx T.g_Way) zd))))) (zZ (zK (zE (zt c_qc (hr.mono (by omega)) (zh (zi 0) (zS (z8 (zi 1)) zd))))))))
    (zf (zj zD))
    zn)
   (zf (zj (yp (zt c_qd (hr.mono (by omega)) (zh (zi 0) (zh (zi 1) zd))) (yo (zt c_qf (hr.mono (by omega)) (zh (zi 0) (zh (zi 1) (zS (z8 (zi 1)) zd))))))))) ?_
  refine⟨_,rfl,_,_,_,_,_,rfl,rfl,T.ty_Way H q dx _ Y.p,T.k_Way_Way,_,rfl,iteN rfl ?_⟩
  refine⟨_,rfl,_,rfl,q,_,dx,_,_,_,_,_,_,rfl,Y.p,rfl,T.cl_Way,T.mt_qC,zbz (P:=P) (w:=w) T,hr.mono (by omega),T.b_qC,q,dx,dp,ob,pf,us,bs,rfl,Y,fun d H1 hd hd1 s1=>?_⟩
  refine⟨p,d,hs,us,ls,pf,rfl,WP.same s1,hd1,Y.nd,hm,C,fun b1 H2 hb1 s2=>⟨_,rfl,?_⟩⟩
  have s02:=s1.trans s2
  cases hc1:b1 with
  |false=>exact xh (k false _ ⟨fun z=>(nomatch z),fun h=>by have:=hb1.mpr h.ad;rw[hc1] at this;cases this⟩ s02)
  |true =>
  refine iteN rfl ?_
  refine⟨_,rfl,_,rfl,p,q,dx,dp,ob,hs,us,ls,bs,pf,rfl,WP.same s02,Y.same s02,hm,C,fun b2 H3 hb2 s3=>⟨_,rfl,?_⟩⟩
  have s03:=s02.trans s3
  cases hc2:b2 with
  |false=>exact iteN rfl (k false _ ⟨fun z=>(nomatch z),fun h=>by have:=hb2.mpr h.en;rw[hc2] at this;cases this⟩ s03)
  |true =>
  refine xh ?_
  have en:=hb2.mp hc2
  refine⟨_,rfl,_,rfl,_,rfl,q,_,dx,_,_,_,_,_,_,rfl,s03 _ _ Y.p,rfl,T.cl_Way,T.mt_qD,VQ (P:=P) (w:=w) T,hr.mono (by omega),T.b_qD,q,dx,dp,ob,pf,us,bs,rfl,Y.same s03,fun l rs H4 hl hl4 L4 s4=>?_⟩
  have s04:=s03.trans s4
  exact⟨p,q,l,dx,dp,ob,hs,us,ls,bs,rs,pf,paO pf,rfl,WP.same s04,Y.same s04,hm,UpP.of C en,BL,hl4,L4,fun b3 H5 hb3 s5=>k _ _ (hb3.trans ⟨fun h=>⟨hb1.mp hc1,en,h⟩,fun h=>h.gd⟩) (s04.trans s5)⟩
theorem Z2 {lf:Int→Int}:∀ {ls:List (Int×Int)}{acc:List ((Int×Int)×(Int×Int))}{k:Int×Int},k∈(ls.foldl (jst lf) acc).map (·.1)↔k∈acc.map (·.1)∨∃ p∈ls,lf p.1≠lf p.2∧jk lf p=k
 |[],acc,k=>by simp
 |p::ls,acc,k=>by
  rw[List.foldl_cons,Z2 (ls:=ls)]
  have hst:k∈(jst lf acc p).map (·.1)↔k∈acc.map (·.1)∨(lf p.1≠lf p.2∧jk lf p=k):=by
   unfold jst
   by_cases c:lf p.1=lf p.2
   ·rw[if_pos c]
    simp[c]
   ·rw[if_neg c]
    by_cases c2:jk lf p∈acc.map (·.1)
    ·rw[if_pos c2]
     constructor
     ·exact .inl
     ·rintro(h | ⟨_,h⟩)
      ·exact h
      ·rw[← h];exact c2
    ·rw[if_neg c2,List.map_append,List.mem_append]
     constructor
     ·rintro(h | h)
      ·exact .inl h
      ·exact .inr ⟨c,(List.mem_singleton.mp h).symm⟩
     ·rintro(h | ⟨_,h⟩)
      ·exact .inl h
      ·exact .inr (by rw[← h];simp)
  rw[hst]
  constructor
  ·rintro((h | h) | ⟨q,hq,h⟩)
   ·exact .inl h
   ·exact .inr ⟨p,List.mem_cons_self,h⟩
   ·exact .inr ⟨q,List.mem_cons_of_mem _ hq,h⟩
  ·rintro(h | ⟨q,hq,h⟩)
   ·exact .inl (.inl h)
   ·rcases List.mem_cons.mp hq with e | e
    ·rw[e] at h;exact .inl (.inr h)
    ·exact .inr ⟨q,e,h⟩
structure GG (us:List Int) (ls:List (Int×Int)) (pf:Int→Option Int) (bs:List (Int×Int)):Prop where
 g:GrB us ls pf bs
 cov:∀ p∈ls,ldr (paO pf) p.1≠ldr (paO pf) p.2→∃ b∈bs,jk (ldr (paO pf)) b=jk (ldr (paO pf)) p
theorem XQ:∀ {as bs:List (Int×Int)},as.Nodup→(∀ x∈as,x∈bs)→as.length≤bs.length
 |[],_,_,_=>Nat.zero_le _
 |a::as,bs,hn,hs=>by
  rw[List.nodup_cons] at hn
  have ha:=hs a List.mem_cons_self
  have ih:=XQ (as:=as) (bs:=bs.erase a) hn.2 fun x hx=>by
   have ne:x≠a:=fun z=>hn.1 (by rw[← z];exact hx)
   exact(List.mem_erase_of_ne ne).mpr (hs x (List.mem_cons_of_mem _ hx))
  rw[List.length_erase_of_mem ha] at ih
  have:=List.length_pos_of_mem ha
  rw[List.length_cons];omega
theorem BrL.inl {hs:List Int}{ls bs:List (Int×Int)}(B:BrL ls bs) (wl:Ls hs ls){b:Int×Int}(hb:b∈bs) (h:b.1≤b.2):b∈ls:=by
 have h1:=B b hb
 unfold adB at h1
 rw[Bool.or_eq_true,decide_eq_true_eq,decide_eq_true_eq] at h1
 rcases h1 with h1 | h1
 ·exact h1
 ·have:=(wl.ok _ h1).2.2
  dsimp only at this
  omega
def zf3 (a:Ad):Sp:=fun vs H Q _=>∃ (p q dx dp ob:Addr) (hs us:List Int) (ls bs:List (Int×Int)) (pf:Int→Option Int),vs=[.ref p,.ref q]∧WbP a H p hs ls∧WayAt a H q pf us bs dx dp ob∧(∀ x,x∈us↔x∈hs)∧Cl us pf∧BrL ls bs∧∀ (b:Bool) (H':Hp),(b=true↔GG us ls pf bs)→Same H H'→Q (.bl b) H'
theorem zbo (T:Txt w K mg a):FnOk P w K mg base CX0 9 a.f_qi a.d_qi ["web", "way"] (zf3 a):=by
 have c_qg:Callee P w K mg base "is_grounded" a.f_qg a.d_qg ["web", "way"] 8 (zf7 a):=⟨zbs T,T.g_qg,T.F_qg.kp,T.b_qg⟩
 have c_qh:Callee P w K mg base "first_joins" a.f_qh a.d_qh ["way", "lines"] 3 (zf9 a):=⟨zbu T,T.g_qh,T.F_qh.kp,T.b_qh⟩
 refine T.F_qi.ok sc_qi (fun vs H Q E h=>?_) (fun cdv A outer s H vs Q E hr h=>?_)
 ·obtain⟨p,q,dx,dp,ob,hs,us,ls,bs,pf,rfl,_⟩:=h
  rfl
 ·obtain⟨p,q,dx,dp,ob,hs,us,ls,bs,pf,rfl,WP,Y,hm,C,BL,k⟩:=h
  have hu:=xw hr
  refine zV (ze (zx (zK (zE (zt c_qg (hr.mono (by omega)) (zh (zi 0) (zh (zi 1) zd)))))
    (zf (zj zD))
    zn)
   (ze (zp (i:=2) sc_qi.nd rfl (Or.inl rfl) (zt c_qh (hr.mono (by omega)) (zh (zi 1) (zS (z8 (zi 1)) zd))))
   (ze (zL PassesOwn.never rfl (vd (zt c_qh (hr.mono (by omega)) (zh (zi 1) (zS (z8 (zi 0)) zd)))) (zm (i:=3) sc_qi.nd rfl (Or.inl rfl))
    (zf (zx (vI (ve hu (zi 3) (zi 2)))
     (zf (zj zD))
     zn)))
   (zf (zj zD))))) ?_
  refine⟨_,rfl,_,rfl,p,q,dx,dp,ob,hs,us,ls,bs,pf,rfl,WP,Y,hm,C,BL,fun b1 H1 hb1 s1=>⟨_,rfl,?_⟩⟩
  cases hc1:b1 with
  |false=>exact xh (k false _ ⟨fun z=>(nomatch z),fun h=>by have:=hb1.mpr h.g;rw[hc1] at this;cases this⟩ s1)
  |true =>
  refine iteN rfl ?_
  have g:=hb1.mp hc1
  have U:=UpP.of C g.en
  have inl:∀ b∈bs,b∈ls:=fun b hb=>BL.inl WP.wl hb (g.gd.1 b hb).1
  have l66:bs.length≤66:=Nat.le_trans (XQ g.gd.2 inl) WP.wl.le
  have Y1:=Y.same s1
  refine⟨_,rfl,_,rfl,q,_,dx,_,_,_,_,_,_,rfl,Y1.p,rfl,T.cl_Way,T.mt_qD,VQ (P:=P) (w:=w) T,hr.mono (by omega),T.b_qD,q,dx,dp,ob,pf,us,bs,rfl,Y1,fun l rs H2 hl hl2 L2' s2=>?_⟩
  have Y2:=Y1.same s2
  have Bb:Bd bs:=fun b hb=>(WP.wl.bd WP.wh) b (inl b hb)
  have bin:∀ b∈bs,b.1∈us∧b.2∈us:=fun b hb=>⟨(hm _).mpr (WP.wl.ok b (inl b hb)).1,(hm _).mpr (WP.wl.ok b (inl b hb)).2.1⟩
  refine⟨q,dx,dp,ob,l,pf,paO pf,us,bs,bs,rs,rfl,Y2,U,hl2,L2',Bb,l66,bin,fun jd js H3 hjd hj3 ej ps3 s3=>?_⟩
  have s03:=s1.trans (s2.trans s3)
  have Y3:=Y2.same s3
  obtain⟨wdx,oh,ol,d0,ad,W⟩:=(WP.same s03).at_
  refine⟨_,rfl,_,rfl,p,_,wdx,_,_,_,_,_,_,rfl,W.p,rfl,T.cl_Web,T.mt_qI,VL (P:=P) (w:=w) T,hr.mono (by omega),T.b_qI,p,hs,ls,wdx,oh,ol,d0,ad,rfl,W,fun lq zs hlq Lz=>?_⟩
  have s4:=Same.new (o:=HO.lst zs) hlq
  have hsm:∀ {x:Int×Int},x∈srt ls↔x∈ls:=fun {x}=>(wk ls).mem_iff
  have hsl:(srt ls).length=ls.length:=(wk ls).length_eq
  refine⟨q,dx,dp,ob,lq,pf,paO pf,us,bs,srt ls,zs,rfl,Y3.same s4,U,upd_same,Lz.same s4,fun x hx=>(WP.wl.bd WP.wh) x (hsm.mp hx),by rw[hsl];exact WP.wl.le,fun x hx=>⟨(hm _).mpr (WP.wl.ok x (hsm.mp hx)).1,(hm _).mpr (WP.wl.ok x (hsm.mp hx)).2.1⟩,fun kd ks H5 hkd hk5 ek ps5 s5=>?_⟩
  have s05:=s03.trans (s4.trans s5)
  have hj5:=s5 _ _ (s4 _ _ hj3)
  have nkj:jd≠kd:=fun z=>by rw[← z,s4 _ _ hj3] at hkd;cases hkd
  have fkd:H kd=none:=(s03.trans s4).free hkd
  have jK:∀ {k:Int×Int},k∈js.map (·.1)↔∃ b∈bs,jk (ldr (paO pf)) b=k:=fun {k}=>by
   have h1:js.map (·.1)=(jn (ldr (paO pf)) bs).map (·.1):=by
    rw[← ej]
    unfold tlJ
    rw[List.map_map]
    rfl
   rw[h1]
   unfold jn
   rw[Z2]
   constructor
   ·rintro(h | ⟨b,hb,_,e⟩)
    ·cases h
    ·exact⟨b,hb,e⟩
   ·rintro⟨b,hb,e⟩
    exact .inr ⟨b,hb,(g.gd.1 b hb).2,e⟩
  have kK:∀ {k:Int×Int},k∈ks.map (·.1)↔∃ p∈ls,ldr (paO pf) p.1≠ldr (paO pf) p.2∧jk (ldr (paO pf)) p=k:=fun {k}=>by
   have h1:ks.map (·.1)=(jn (ldr (paO pf)) (srt ls)).map (·.1):=by
    rw[← ek]
    unfold tlJ
    rw[List.map_map]
    rfl
   rw[h1]
   unfold jn
   rw[Z2]
   constructor
   ·rintro(h | ⟨b,hb,e⟩)
    ·cases h
    ·exact⟨b,hsm.mp hb,e⟩
   ·rintro⟨b,hb,e⟩
    exact .inr ⟨b,hsm.mpr hb,e⟩
  refine⟨kd,kvJ ks,rfl,hk5,fun od=>?_⟩
  have hz6:=upd_same (H:=H5) (a:=kd) (o:=HO.frz od (HO.dT (kvJ ks)))
  have hj6:(upd H5 kd (HO.frz od (HO.dT (kvJ ks)))) jd=some (.dT (kvJ js)):=(upd_ne nkj).trans hj5
  have s06:Same H (upd H5 kd (HO.frz od (HO.dT (kvJ ks)))):=Same.updF s05 fkd
  generalize upd H5 kd (HO.frz od (HO.dT (kvJ ks)))=H6 at *
  refine for_keysT (d:=kd) (od:=od) (kvs:=kvJ ks) (fun i σ H'=>∃ (o3:Option V),σ=[some (.ref p),some (.ref q),some (.ref jd),o3]∧H'=H6∧∀ j∈ks.take i,j.1∈js.map (·.1)) ?_ ?_ ?_ ?_
  ·exact⟨none,rfl,rfl,fun j hj=>by simp at hj⟩
  ·rintro i σ H' ⟨o3,_,rfl,_⟩
   exact hz6
  ·rintro i kv b σ H' hkv hb ⟨o3,rfl,rfl,gd⟩
   unfold kvJ at hkv
   rw[List.getElem?_map] at hkv
   obtain⟨jx,hjx,e⟩:=Option.map_eq_some_iff.mp hkv
   subst e
   have etk:ks.take (i+1)=ks.take i++[jx]:=by rw[List.take_add_one,hjx];rfl
   have key:=ZW (js:=js) (k:=jx.1)
   by_cases hin:jx.1∈js.map (·.1)
   ·rw[decide_eq_true hin] at key
    refine⟨_,rfl,_,rfl,jd,_,rfl,DGet.t (k:=[Sum.inl jx.1.1,Sum.inl jx.1.2]) hj6 hb,_,rfl,iteN (by rw[key];rfl) ⟨_,rfl,rfl,fun j hj=>?_⟩⟩
    rw[etk] at hj
    rcases List.mem_append.mp hj with e | e
    ·exact gd j e
    ·rw[List.mem_singleton.mp e];exact hin
   ·rw[decide_eq_false hin] at key
    refine⟨_,rfl,_,rfl,jd,_,rfl,DGet.t (k:=[Sum.inl jx.1.1,Sum.inl jx.1.2]) hj6 hb,_,rfl,iteB (by rw[key];rfl) ?_⟩
    refine k false _ ⟨fun z=>(nomatch z),fun h=>?_⟩ s06
    obtain⟨pp,hpp,h2,h3⟩:=kK.mp (List.mem_map.mpr ⟨jx,List.mem_of_getElem? hjx,rfl⟩)
    obtain⟨bb,hbb,h4⟩:=h.cov pp hpp h2
    exact absurd (jK.mpr ⟨bb,hbb,h4.trans h3⟩) hin
  ·rintro σ H' ⟨o3,rfl,rfl,gd⟩
   have hlk:(kvJ ks).length=ks.length:=by unfold kvJ;rw[List.length_map]
   rw[hlk,List.take_length] at gd
   refine k true _ ⟨fun _=>⟨g,fun pp hpp h2=>?_⟩,fun _=>rfl⟩ s06
   obtain⟨jx,h1,h3⟩:=List.mem_map.mp (kK.mpr ⟨pp,hpp,h2,rfl⟩)
   have h4:=gd jx h1
   rw[h3] at h4
   exact jK.mp h4
def X6:Sp:=fun vs H Q _=>∃ (d:Addr) (pf:Int→Option Int) (us:List Int) (x:Int),vs=[.ref d,.int x]∧H d=some (.dK (tabV (fun x=>opV (pf x)) us))∧us.length≤12∧Cl us pf∧x∈us∧(∀ (l:Addr) (p:List Int),En pf x p→H l=none→Q (.ref l) (upd H l (.lst (p.map V.int))))∧((¬∃ p,En pf x p)→∀ H',Same H H'→Q .non H')
theorem ZN (T:Txt w K mg a):FnOk P w K mg base CX0 1 a.f_qt a.d_qt ["_law_parents", "_law_hand"] X6:=by
 refine T.F_qt.ok sc_qt (fun vs H Q E h=>?_) (fun cdv A outer s H vs Q E hr h=>?_)
 ·obtain⟨d,pf,us,x,rfl,_⟩:=h
  rfl
 ·obtain⟨d,pf,us,x,rfl,hd,l12,C,hx,k,k0⟩:=h
  have hu:=xw hr
  refine zV (ze (zp (i:=2) sc_qt.nd rfl (Or.inl rfl) (zF (zh (zi 1) zd)))
   (ze (xj PassesOwn.never (zk xI (yr hu (zi 0) (zz z7 (zi 2) (xk xF zg) (fun _ _=>rfl)) (fun _ _=>rfl)) z9 (zv _))
    (ze (zx (zk vt (zl zw (by rfl) T.n_len zY (zh (zi 2) zd)) (zl xP (by rfl) T.n_len zY (zh (zi 0) zd)) (zv _))
     (zf (zj z9))
     zn)
    (zf (z4 (yq PySem.F.plainAttrs_list PySem.F.slot_list_append PySem.F.type_list_append zQ (zi 2) (zr (yr hu (zi 0) (zz z7 (zi 2) (xk xF zg) (fun _ _=>rfl)) (fun _ _=>rfl)) zd))))))
   (zf (zj (zi 2))))) ?_
  refine⟨_,rfl,(by show 1≤sizeLine;decide),fun l hl=>?_⟩
  have sm:∀ o,Same H (upd H l o):=fun o=>Same.new hl
  refine⟨fun m σ H'=>∃ (ys:List Int) (z:Int),m+(ys++[z]).length=us.length+1∧σ=[some (.ref d),some (.int x),some (.ref l)]∧H'=upd H l (.lst ((ys++[z]).map V.int))∧z∈us∧Pre pf x ys z,⟨us.length,[],x,rfl,rfl,rfl,hx,Pre.z⟩,?_⟩
  rintro m σ H' ⟨ys,z,hm,rfl,rfl,hz,hp⟩
  have hlast:atI ((ys++[z]).map V.int) (-1)=some (V.int z):=by rw[List.map_append];exact at_last
  have e2:∀ y:Int,(ys++[z]++[y]).length=(ys++[z]).length+1:=fun y=>by simp
  refine⟨_,rfl,_,rfl,_,rfl,l,_,-1,_,rfl,rfl,SqL.of upd_same,hlast,d,_,rfl,xA ((sm _) _ _ hd) hz,?_⟩
  cases h1:pf z with
  |none =>
   refine⟨rfl,_,rfl,iteN rfl ?_⟩
   refine⟨_,rfl,?_⟩
   exact k l _ (hp.end_ h1) hl
  |some y =>
   refine⟨rfl,_,rfl,xh ?_⟩
   refine⟨_,fun σ' H' h=>h,?_⟩
   by_cases c:us.length<(ys++[z]).length
   ·refine⟨_,rfl,l,_,rfl,.inl (SqL.of upd_same),_,rfl,d,_,rfl,(sm _) _ _ hd,_,_,rfl,rfl,_,rfl,iteB (by rw[List.length_map,tabV_len];exact decide_eq_true (by omega)) ?_⟩
    exact k0 (hp.long C hx h1 (by omega)) _ (sm _)
   refine⟨_,rfl,l,_,rfl,.inl (SqL.of upd_same),_,rfl,d,_,rfl,(sm _) _ _ hd,_,_,rfl,rfl,_,rfl,iteN (by rw[List.length_map,tabV_len];exact decide_eq_false (by omega)) ?_⟩
   refine⟨_,rfl,.inl ⟨rfl,_,SqL.of upd_same⟩,_,rfl,_,rfl,_,rfl,l,_,-1,_,rfl,rfl,SqL.of upd_same,hlast,d,_,rfl,xA ((sm _) _ _ hd) hz,l,_,_,rfl,rfl,upd_same,(by rw[List.length_map];exact zo (by omega)),?_⟩
   rw[vf,h1]
   refine⟨m-1,by omega,ys++[z],y,by have:=e2 y;omega,rfl,?_,C z hz y h1,hp.s h1⟩
   rw[List.map_append (l₂:=[y])]
   rfl
def zf1:Sp:=fun vs H Q _=>∃ (d:Addr) (pf:Int→Option Int) (pa:Int→List Int) (us:List Int) (x:Int),vs=[.ref d,.int x]∧H d=some (.dK (tabV (fun x=>opV (pf x)) us))∧us.length≤12∧UpP us pf pa∧x∈us∧∀ (l:Addr),H l=none→Q (.ref l) (upd H l (.lst ((pa x).map V.int)))
theorem zbk (T:Txt w K mg a):FnOk P w K mg base CX0 1 a.f_qt a.d_qt ["_law_parents", "_law_hand"] zf1:=(ZN T).imp fun vs H Q E h=>by
 obtain⟨d,pf,pa,us,x,rfl,hd,l12,U,hx,k⟩:=h
 exact⟨d,pf,us,x,rfl,hd,l12,U.cl,hx,fun l p hp hl=>by rw[hp.fn (U.en hx)];exact k l hl,fun h=>absurd ⟨_,U.en hx⟩ h⟩
def zaU:Sp:=fun vs H Q _=>∃ (d:Addr) (pf:Int→Option Int) (pa:Int→List Int) (us:List Int) (x y:Int),vs=[.ref d,.int x,.int y]∧H d=some (.dK (tabV (fun x=>opV (pf x)) us))∧us.length≤12∧UpP us pf pa∧x∈us∧y∈us∧∀ (t:Addr) (H':Hp),H t=none→H' t=some (.tup [.int (jk (ldr pa) (x,y)).1,.int (jk (ldr pa) (x,y)).2])→Same H H'→Q (.ref t) H'
theorem VP (T:Txt w K mg a):FnOk P w K mg base CX0 2 a.f_qu a.d_qu ["_law_parents", "_law_one", "_law_other"] zaU:=by
 have c_qt:Callee P w K mg base "_law_up" a.f_qt a.d_qt ["_law_parents", "_law_hand"] 1 zf1:=⟨zbk T,T.g_qt,T.F_qt.kp,T.b_qt⟩
 refine T.F_qu.ok zaX (fun vs H Q E h=>?_) (fun cdv A outer s H vs Q E hr h=>?_)
 ·obtain⟨d,pf,pa,us,x,y,rfl,_⟩:=h
  rfl
 ·obtain⟨d,pf,pa,us,x,y,rfl,hd,l12,U,hx,hy,k⟩:=h
  have lst:∀ {z},z∈us→atI ((pa z).map V.int) (-1)=some (V.int (ldr pa z)):=fun {z} hz=>by
   obtain⟨⟨ys,e⟩,_⟩:=U.ld hz
   rw[e,List.map_append]
   exact at_last
  refine zV (zf (zj (zX yz (by rfl) T.n_tuple yA (zS (zl xq (by rfl) T.n_sorted xi (zr (zF (zr (zz z7 (zt c_qt (hr.mono (by omega)) (zh (zi 0) (zh (zi 1) zd))) (xk xF zg) (fun _ _=>rfl)) (zr (zz z7 (zt c_qt (hr.mono (by omega)) (zh (zi 0) (zh (zi 2) zd))) (xk xF zg) (fun _ _=>rfl)) zd))) zd)) zd)))) ?_
  refine⟨_,rfl,_,rfl,d,pf,pa,us,x,rfl,hd,l12,U,hx,fun l1 hl1=>?_⟩
  have s1:=Same.new (o:=HO.lst ((pa x).map V.int)) hl1
  refine⟨_,rfl,l1,_,-1,_,rfl,rfl,SqL.of upd_same,lst hx,?_⟩
  generalize upd H l1 (HO.lst ((pa x).map V.int))=H1 at *
  refine⟨_,rfl,_,rfl,d,pf,pa,us,y,rfl,s1 _ _ hd,l12,U,hy,fun l2 hl2=>?_⟩
  have s2:=s1.trans (Same.new (o:=HO.lst ((pa y).map V.int)) hl2)
  refine⟨_,rfl,l2,_,-1,_,rfl,rfl,SqL.of upd_same,lst hy,?_⟩
  generalize upd H1 l2 (HO.lst ((pa y).map V.int))=H2 at *
  refine⟨(by show 2≤sizeLine;decide),fun pl hpl=>?_⟩
  have s3:=s2.trans (Same.new (o:=HO.lst [V.int (ldr pa x),V.int (ldr pa y)]) hpl)
  refine⟨pl,[ldr pa x,ldr pa y],rfl,SqL.of upd_same,(by show 2<64;decide),fun pm ms hpm pmm sd=>?_⟩
  rw[xX pmm sd]
  have s4:=s3.trans (Same.new (o:=HO.lst ([min (ldr pa x) (ldr pa y),max (ldr pa x) (ldr pa y)].map V.int)) hpm)
  refine⟨pm,_,rfl,.inl ⟨SqL.of upd_same,fun pt hpt=>?_⟩⟩
  exact k pt _ (s4.free hpt) upd_same (s4.trans (Same.new hpt))
theorem LnAt.prs {H:Hp}:∀ {rs:List V}{ls:List (Int×Int)},LnAt H rs ls→∃ ps:List (Addr×Int×Int),ps.map (fun p=>V.ref p.1)=rs∧ps.map (·.2)=ls∧∀ p∈ps,H p.1=some (.tup [.int p.2.1,.int p.2.2])
 |[],[],_=>⟨[],rfl,rfl,fun p hp=>(nomatch hp)⟩
 |[],l::ls,h=>absurd h.1 (by simp)
 |r::rs,[],h=>absurd h.1 (by simp)
 |r::rs,l::ls,h=>by
  obtain⟨q,e1,e2⟩:=h.2 0 r l rfl rfl
  obtain⟨ps,h1,h2,h3⟩:=LnAt.prs (rs:=rs) (ls:=ls) ⟨by have:=h.1;simpa using this,fun i r p a1 a2=>h.2 (i+1) r p (by simpa using a1) (by simpa using a2)⟩
  refine⟨(q,l)::ps,by rw[List.map_cons,h1,e1],by rw[List.map_cons,h2],fun p hp=>?_⟩
  rcases List.mem_cons.mp hp with e | e
  ·rw[e];exact e2
  ·exact h3 p e
section
variable {K:PySem.W.Frag}{A:Around}{H:Hp}{D pe:Addr}{zs:List V}{Q:VK}
theorem neZ (h1:SqL K H D zs) (h2:SqL K H pe []) (hu:A.units+2<cLine) (q:Q (.bl (!zs.isEmpty)) H):Ul K A true (.ref D) (.ref pe) H Q∨zgg K A (.ref D) (.ref pe) H Q:=by
 cases zs with
 |nil=>exact .inl ⟨D,pe,[],[],fun _=>true,0,rfl,rfl,.inl ⟨h1,h2⟩,rfl,by omega,fun j x y e=>by simp at e,q⟩
 |cons z zs=>exact .inr ⟨D,pe,_,[],rfl,rfl,h1,h2,by simp,by omega,q⟩
theorem eqZ (h1:SqL K H D zs) (h2:SqL K H pe []) (hu:A.units+2<cLine) (q:Q (.bl zs.isEmpty) H):Ul K A false (.ref D) (.ref pe) H Q∨zgj K A (.ref D) (.ref pe) H Q:=by
 cases zs with
 |nil=>exact .inl ⟨D,pe,[],[],fun _=>true,0,rfl,rfl,.inl ⟨h1,h2⟩,rfl,by omega,fun j x y e=>by simp at e,q⟩
 |cons z zs=>exact .inr ⟨D,pe,_,[],rfl,rfl,h1,h2,by simp,by omega,q⟩
end
def zaS:Sp:=fun vs H Q _=>∃ (i:Int),vs=[.int i]∧Q (.bl true) H
theorem VN (T:Txt w K mg a):FnOk P w K mg base CX0 1 a.f_qv a.d_qv ["_law_thing"] zaS:=by
 refine T.F_qv.ok zaW (fun vs H Q E h=>?_) (fun cdv A outer s H vs Q E hr h=>?_)
 ·obtain⟨i,rfl,_⟩:=h
  rfl
 ·obtain⟨i,rfl,k⟩:=h
  refine zV (zf (zj (yp (zl zI (by rfl) T.n_isinstance zq (zh (zi 0) (zh (zW T.n_int Yo) zd))) (yo (vK (zl zI (by rfl) T.n_isinstance zq (zh (zi 0) (zh (zW T.n_bool wB) zd)))))))) ?_
  refine⟨_,rfl,_,_,_,_,_,rfl,rfl,.int i,T.k_tint_tint,_,rfl,xh ?_⟩
  exact⟨_,rfl,_,_,_,_,_,rfl,rfl,.int i,T.k_tint_tbool,_,rfl,k⟩
def zf6:Sp:=fun vs H Q _=>∃ (q t:Addr) (rs:List V) (ls:List (Int×Int)) (x y:Int),vs=[.ref q,.ref t]∧H q=some (.lst rs)∧LnAt H rs ls∧H t=some (.tup [.int x,.int y])∧Q (.bl (decide ((x,y)∈ls))) H
theorem zbr (T:Txt w K mg a):FnOk P w K mg base CX0 2 a.f_qw a.d_qw ["_law_lines_here", "_law_thing"] zf6:=by
 have c_qv:Callee P w K mg base "_law_is_whole" a.f_qv a.d_qv ["_law_thing"] 1 zaS:=⟨VN T,T.g_qv,T.F_qv.kp,T.b_qv⟩
 refine T.F_qw.ok zaV (fun vs H Q E h=>?_) (fun cdv A outer s H vs Q E hr h=>?_)
 ·obtain⟨q,t,rs,ls,x,y,rfl,_⟩:=h
  rfl
 ·obtain⟨q,t,rs,ls,x,y,rfl,hq,L,ht,k⟩:=h
  have un:(A.deeper (PyProof.Rows.envOfC "_law_is_line" (defScope ul) s.heap.objs.size a.f_qw cdv)).units+5<cLine:=by
   have:=hr.units
   omega
  refine zV (ze (zx (wg (yi (zK (zE (zl zI (by rfl) T.n_isinstance zq (zh (zi 1) (zh (zW T.n_tuple yA) zd))))) (zZ (zk wt (zl zw (by rfl) T.n_len zY (zh (zi 1) zd)) zg (zv _)))))
    (zf (zj zD))
    zn)
   (zf (zj (yp (zt c_qv (hr.mono (by omega)) (zr (zz zP (zi 1) zg (fun _ _=>rfl)) zd)) (yp (zt c_qv (hr.mono (by omega)) (zr (zz zP (zi 1) zg (fun _ _=>rfl)) zd)) (yo (zR VH (zi 1) (zi 0) (by with_unfolding_all rfl)))))))) ?_
  refine⟨_,rfl,_,_,_,_,_,rfl,rfl,.tup ht,T.k_ttuple_ttuple,_,rfl,iteN rfl ?_⟩
  refine⟨_,rfl,t,_,rfl,.inr (SqT.of ht),rfl,_,rfl,iteN rfl ?_⟩
  refine⟨_,rfl,t,_,0,_,rfl,rfl,SqT.of ht,rfl,_,rfl,_,rfl,xh ?_⟩
  refine⟨_,rfl,t,_,1,_,rfl,rfl,SqT.of ht,rfl,_,rfl,_,rfl,xh ?_⟩
  obtain⟨ps,e1,e2,e3⟩:=L.prs
  refine⟨_,rfl,_,rfl,q,t,ps,x,y,rfl,rfl,by rw[e1];exact SqL.of hq,e3,ht,un,?_⟩
  rw[e2]
  exact k
theorem zaM {τ:St}{H:Hp}{A B:Hp→Prop}(h:A H):W9 τ H fun b H5=>if b=true then A H5 else B H5:=by
 show(if true=true then A H else B H)
 rw[if_pos rfl]
 exact h
def zf2:Sp:=fun vs H Q _=>∃ (h q d l:Addr) (rs rb:List V) (hs us:List Int) (ls bs:List (Int×Int)) (pf:Int→Option Int),vs=[.ref h,.ref q,.ref d,.ref l]∧H h=some (.lst (hs.map V.int))∧H q=some (.lst rs)∧LnAt H rs ls∧H d=some (.dK (tabV (fun x=>opV (pf x)) us))∧H l=some (.lst rb)∧LnAt H rb bs∧Hs hs∧Ls hs ls∧us.Nodup∧(∀ x,x∈us↔x∈hs)∧Cl us pf∧BrL ls bs∧bs.length≤200∧∀ (b:Bool) (H':Hp),(b=true↔GG us ls pf bs)→Same H H'→Q (.bl b) H'
theorem zbn (T:Txt w K mg a):FnOk P w K mg base CX0 3 a.f_qx a.d_qx ["_law_hands_here", "_law_lines_here", "_law_parents", "_law_bridges"] zf2:=by
 have c_qv:Callee P w K mg base "_law_is_whole" a.f_qv a.d_qv ["_law_thing"] 1 zaS:=⟨VN T,T.g_qv,T.F_qv.kp,T.b_qv⟩
 have c_qw:Callee P w K mg base "_law_is_line" a.f_qw a.d_qw ["_law_lines_here", "_law_thing"] 2 zf6:=⟨zbr T,T.g_qw,T.F_qw.kp,T.b_qw⟩
 have c_qs:Callee P w K mg base "_law_near" a.f_qs a.d_qs ["_law_lines_here", "_law_hand"] 1 zaQ:=⟨VM T,T.g_qs,T.F_qs.kp,T.b_qs⟩
 have c_qt:Callee P w K mg base "_law_up" a.f_qt a.d_qt ["_law_parents", "_law_hand"] 1 X6:=⟨ZN T,T.g_qt,T.F_qt.kp,T.b_qt⟩
 have c_qu:Callee P w K mg base "_law_both" a.f_qu a.d_qu ["_law_parents", "_law_one", "_law_other"] 2 zaU:=⟨VP T,T.g_qu,T.F_qu.kp,T.b_qu⟩
 refine T.F_qx.ok sc_qx (fun vs H Q E h=>?_) (fun cdv A outer s H vs Q E hr h=>?_)
 ·obtain⟨h,q,d,l,rs,rb,hs,us,ls,bs,pf,rfl,_⟩:=h
  rfl
 ·obtain⟨h,q,d,l,rs,rb,hs,us,ls,bs,pf,rfl,hh,hq,L,hd,hl,Lb,wh,wl,nd,hm,C,BL,l200,k⟩:=h
  have hu:=xw hr
  have h12:=wh.l12
  have un:∀ n:Nat,n≤8→(A.deeper (PyProof.Rows.envOfC "_law_lets" (defScope uj) s.heap.objs.size a.f_qx cdv)).units+n+2<cLine:=fun n hn=>by
   have:=hr.units
   omega
  have hlen:us.length=hs.length:=Nat.le_antisymm (wU nd fun x hx=>(hm x).mp hx) (wU (Z8 wh) fun x hx=>(hm x).mpr hx)
  refine zV (ze (xD (yn (i:=4) rfl sc_qx.nd rfl (Or.inl rfl) (N':=["_law_one", "_law_hands_here"]) (t:=1) (caps:=[0]) ⟨rfl,rfl,rfl⟩ (ud (zi 2)) (fun _=>(zm (i:=0) (show(["_law_one", "_law_hands_here"]:List Str).Nodup by decide +kernel) rfl (Or.inl rfl))) (fun _=>(yc (wg (yi (zK (zE (zt c_qv (hr.mono (by omega)) (zh (zi 0) zd)))) (zZ (zk yG (zi 0) (zi 1) (by with_unfolding_all rfl))))))) (fun _=>(zi 0))))
   (ze (zx (wg (yi (zk wt (zl xP (by rfl) T.n_len zY (zh (zi 2) zd)) (zl zw (by rfl) T.n_len zY (zh (zi 0) zd)) (zv _)) (zZ (zk VG (zi 4) (zF zd) (zv _)))))
    (zf (zj zD))
    zn)
   (ze (zL PassesOwn.never rfl (zB (zi 0)) (zm (i:=5) sc_qx.nd rfl (Or.inl rfl))
    (ze (zp (i:=6) sc_qx.nd rfl (Or.inl rfl) (zt c_qs (hr.mono (by omega)) (zh (zi 1) (zh (zi 5) zd))))
    (zf (zx (wg (yf (zk xI (yr hu (zi 2) (zi 5) (fun _ _=>rfl)) z9 (zv _)) (yb (wg (yi (zK (zE (zt c_qv (hr.mono (by omega)) (zr (yr hu (zi 2) (zi 5) (fun _ _=>rfl)) zd)))) (zZ (zk yG (yr hu (zi 2) (zi 5) (fun _ _=>rfl)) (zi 6) (by with_unfolding_all rfl))))))))
     (zf (zj zD))
     zn))))
   (ze (zx (zk (we v3 v4) (z6 rfl (N':=["_law_hand", "_law_parents"]) (t:=1) (caps:=[2]) ⟨rfl,rfl,rfl⟩ (zB (zi 0)) (fun _=>(zm (i:=0) (show(["_law_hand", "_law_parents"]:List Str).Nodup by decide +kernel) rfl (Or.inl rfl))) (fun _=>(yc (zk XJ (zt c_qt (hr.mono (by omega)) (zh (zi 1) (zh (zi 0) zd))) z9 (zv _)))) (fun _=>(zi 0))) (zF zd) (zv _))
    (zf (zj zD))
    zn)
   (ze (zx (zk (we v3 v4) (z6 rfl (N':=["_law_bridge", "_law_lines_here", "_law_bridges"]) (t:=1) (caps:=[1,3]) ⟨rfl,rfl,rfl⟩ (zB (zi 3)) (fun _=>(zm (i:=0) (show(["_law_bridge", "_law_lines_here", "_law_bridges"]:List Str).Nodup by decide +kernel) rfl (Or.inl rfl))) (fun _=>(yc (wg (yi (zK (zE (zt c_qw (hr.mono (by omega)) (zh (zi 1) (zh (zi 0) zd))))) (zZ (zk vt (yq PySem.F.plainAttrs_list PySem.F.slot_list_count PySem.F.type_list_count Y0 (zi 2) (zh (zi 0) zd)) zg (zv _))))))) (fun _=>(zi 0))) (zF zd) (zv _))
    (zf (zj zD))
    zn)
   (ze (yn (i:=7) rfl sc_qx.nd rfl (Or.inl rfl) (N':=["_law_one", "_law_other", "_law_parents"]) (t:=2) (caps:=[2]) ⟨rfl,rfl,rfl⟩ (zB (zi 3)) (fun _=>(yg rfl (zy (zm (i:=0) (show(["_law_one", "_law_other", "_law_parents"]:List Str).Nodup by decide +kernel) rfl (Or.inl rfl)) (zy (zm (i:=1) (show(["_law_one", "_law_other", "_law_parents"]:List Str).Nodup by decide +kernel) rfl (Or.inl rfl)) z5)))) (fun _=>yD) (fun _=>(zt c_qu (hr.mono (by omega)) (zh (zi 2) (zh (zi 0) (zh (zi 1) zd))))))
   (ze (zx (zk (we v3 v4) (z6 rfl (N':=["_law_both_here"]) (t:=1) (caps:=[]) ⟨rfl,rfl,rfl⟩ (zB (zi 7)) (fun _=>(zm (i:=0) (show(["_law_both_here"]:List Str).Nodup by decide +kernel) rfl (Or.inl rfl))) (fun _=>(yc (zk xc (zz zP (zi 0) zg (fun _ _=>rfl)) (zz zP (zi 0) zg (fun _ _=>rfl)) (zv _)))) (fun _=>(zi 0))) (zF zd) (zv _))
    (zf (zj zD))
    zn)
   (ze (zL PassesOwn.never rfl (zB (zi 1)) (yg rfl (zy (zm (i:=8) sc_qx.nd rfl (Or.inl rfl)) (zy (zm (i:=9) sc_qx.nd rfl (Or.inl rfl)) z5)))
    (ze (zp (i:=10) sc_qx.nd rfl (Or.inl rfl) (zt c_qu (hr.mono (by omega)) (zh (zi 2) (zh (zi 8) (zh (zi 9) zd)))))
    (zf (zx (wg (yf (zk wt (zz zP (zi 10) zg (fun _ _=>rfl)) (zz zP (zi 10) zg (fun _ _=>rfl)) (zv _)) (yb (zk ZJ (zi 10) (zi 7) (by with_unfolding_all rfl)))))
     (zf (zj zD))
     zn))))
   (zf (zj zD)))))))))) ?_
  refine⟨_,rfl,d,_,rfl,hd,fun od S D0 hD0 _=>?_⟩
  have hz5:=upd_same (H:=H) (a:=d) (o:=HO.frz od (HO.dK (tabV (fun x=>opV (pf x)) us)))
  have x5:Ext d H (upd H d (HO.frz od (HO.dK (tabV (fun x=>opV (pf x)) us)))):=Ext.at
  have nhd:h≠d:=fun z=>by rw[z,hd] at hh;cases hh
  generalize upd H d (HO.frz od (HO.dK (tabV (fun x=>opV (pf x)) us)))=H5 at *
  refine comp_view (yl:=yK) (d:=d) (od:=od) (kvs:=tabV (fun x=>opV (pf x)) us) (fun i zs τ H'=>∃ (o1:Option V),τ=[o1,some (.ref h)]∧zs=[]∧H' D0=some (.lst zs)∧Same H5 H') ?_ ?_ ?_ ?_
  ·exact⟨none,rfl,rfl,upd_same,Same.new hD0⟩
  ·rintro i zs τ H' ⟨o1,_,_,_,sm⟩
   exact sm _ _ hz5
  ·rintro i kv v zs τ G G' hkv ⟨o1,rfl,rfl,hD',sm⟩ hy
   obtain⟨u,hu,rfl⟩:∃ x,us[i]?=some x∧kv=(Sum.inl x,opV (pf x)):=by
    unfold tabV at hkv
    rw[List.getElem?_map] at hkv
    obtain⟨x,h1,h2⟩:=Option.map_eq_some_iff.mp hkv
    exact⟨x,h1,h2.symm⟩
   obtain⟨rfl,rfl⟩:=hy
   have huh:=(hm u).mp (List.mem_of_getElem? hu)
   refine⟨_,rfl,_,rfl,_,rfl,iteN rfl ?_⟩
   refine⟨_,rfl,_,rfl,h,_,rfl,.inl (SqL.of (sm _ _ (x5 _ _ hh nhd))),rfl,ym _,_,rfl,iteN (by show(!inV (.int u) _)=false;rw[yx,decide_eq_true huh];rfl) ⟨_,rfl,rfl,hD',sm⟩⟩
  ·rintro zs τ G ⟨o1,rfl,rfl,hD',sm⟩
   refine .inr ⟨d,od,_,S,sm _ _ hz5,?_⟩
   have nDd:D0≠d:=fun z=>by rw[z,sm _ _ hz5] at hD';cases hD'
   have s6:Same H (upd G d (HO.dK (tabV (fun x=>opV (pf x)) us))):=fun b o e=>by
    by_cases z:b=d
    ·rw[z,hd] at e;cases e;rw[z];exact upd_same
    ·rw[upd_ne z];exact sm _ _ (x5 _ _ e z)
   have hD6:upd G d (HO.dK (tabV (fun x=>opV (pf x)) us)) D0=some (.lst []):=by rw[upd_ne nDd];exact hD'
   generalize upd G d (HO.dK (tabV (fun x=>opV (pf x)) us))=H6 at *
   clear hz5 x5 hD0 hD' sm nhd nDd
   have hd6:=s6 _ _ hd
   have hh6:=s6 _ _ hh
   refine⟨_,rfl,d,_,rfl,hd6,_,rfl,h,_,rfl,.inl (SqL.of hh6),rfl,_,rfl,iteN (by rw[tabV_len,List.length_map,hlen];simp) ?_⟩
   refine⟨_,rfl,Nat.zero_le _,fun pe hpe=>?_⟩
   have s7:=Same.new (o:=HO.lst []) hpe
   refine⟨D0,pe,[],[],0,rfl,rfl,.inl ⟨SqL.of (s7 _ _ hD6),SqL.of upd_same⟩,rfl,un 0 (by omega),(fun j x y e=>by simp at e),_,rfl,iteN rfl ?_⟩
   have S7:=s6.trans s7
   generalize upd H6 pe (HO.lst [])=H7 at *
   have hh7:=S7 _ _ hh
   refine⟨_,rfl,h,rfl,⟨_,SqL.of hh7⟩,?_⟩
   refine for_list (K:=K) (a:=h) (xs:=hs.map V.int) (fun i σ H'=>∃ (o5 o6:Option V),σ=[some (.ref h),some (.ref q),some (.ref d),some (.ref l),some (.ref D0),o5,o6,none,none,none,none]∧Same H H'∧∀ x∈hs.take i,∀ y,pf x=some y→adB ls x y=true) ?_ ?_ ?_ ?_
   ·exact⟨none,none,rfl,S7,fun x hx=>by simp at hx⟩
   ·rintro i σ H' _ ⟨o5,o6,_,sm,_⟩
    exact SqL.of (sm _ _ hh)
   ·rintro i v σ G hi ⟨o5,o6,rfl,sm,gd⟩
    rw[List.getElem?_map] at hi
    obtain⟨x,hx,rfl⟩:=Option.map_eq_some_iff.mp hi
    have hxh:=List.mem_of_getElem? hx
    have hxu:=(hm x).mpr hxh
    have etk:hs.take (i+1)=hs.take i++[x]:=by rw[List.take_add_one,hx];rfl
    have gd2:(∀ y,pf x=some y→adB ls x y=true)→∀ u∈hs.take (i+1),∀ y,pf u=some y→adB ls u y=true:=fun h u hu=>by
     rw[etk] at hu
     rcases List.mem_append.mp hu with e | e
     ·exact gd u e
     ·rw[List.mem_singleton.mp e];exact h
    refine⟨_,rfl,_,rfl,q,x,rs,hs,ls,rfl,sm _ _ hq,L.same sm,wh,wl,fun ln G2 hln s2 hln2=>?_⟩
    have sm2:=sm.trans s2
    refine⟨_,rfl,_,rfl,d,_,rfl,xA (sm2 _ _ hd) hxu,?_⟩
    cases hpx:pf x with
    |none=>exact⟨rfl,_,rfl,iteN rfl ⟨_,_,rfl,sm2,gd2 fun y h=>by rw[hpx] at h;cases h⟩⟩
    |some y =>
     refine⟨rfl,_,rfl,xh ?_⟩
     have hyu:=C x hxu y hpx
     have tg:DGet G2 d (V.int x) (some (V.int y)):=by
      have:=xA (sm2 _ _ hd) hxu
      rw[hpx] at this
      exact this
     refine⟨_,rfl,_,rfl,d,_,rfl,tg,y,rfl,_,rfl,iteN rfl ?_⟩
     have hin:inV (.int y) ((hs.filter (adB ls x)).map V.int)=adB ls x y:=by
      rw[yx,Bool.eq_iff_iff,decide_eq_true_eq,List.mem_filter]
      exact⟨fun h=>h.2,fun h=>⟨(hm y).mp hyu,h⟩⟩
     refine⟨_,rfl,_,rfl,d,_,rfl,tg,_,rfl,ln,_,rfl,.inl (SqL.of hln2),rfl,ym _,_,rfl,?_⟩
     cases hb:adB ls x y with
     |true=>exact iteN (by show(!inV (.int y) _)=false;rw[hin,hb];rfl) ⟨_,_,rfl,sm2,gd2 fun y' h=>by rw[hpx] at h;cases h;exact hb⟩
     |false =>
      refine iteB (by show(!inV (.int y) _)=true;rw[hin,hb];rfl) ?_
      refine k false _ ⟨fun z=>(nomatch z),fun h=>?_⟩ sm2
      rw[h.g.ad x hxu y hpx] at hb
      cases hb
   ·rintro σ G ⟨o5,o6,rfl,sm,gd⟩
    rw[List.length_map,List.take_length] at gd
    have gad:∀ x∈us,∀ y,pf x=some y→adB ls x y=true:=fun x hx=>gd x ((hm x).mp hx)
    clear gd hh7 S7 s7 hpe hh6 hd6 hD6 s6
    refine⟨_,rfl,h,rfl,⟨_,SqL.of (sm _ _ hh)⟩,fun D1 hD1 _=>?_⟩
    refine zU (K:=K) (a:=h) (xs:=hs.map V.int) (fun i zs τ H'=>∃ (o1:Option V),τ=[o1,some (.ref d)]∧zs.length≤i∧(zs=[]↔∀ x∈hs.take i,∃ l,En pf x l)∧H' D1=some (.lst zs)∧Same G H') ?_ ?_ ?_ ?_
    ·exact⟨none,rfl,Nat.le_refl _,by simp,upd_same,Same.new hD1⟩
    ·rintro i zs τ H' ⟨o1,_,_,_,_,sm1⟩
     exact SqL.of (sm1 _ _ (sm _ _ hh))
    ·rintro i v zs τ G1 hi ⟨o1,rfl,hzl,hzn,hD',sm1⟩
     rw[List.getElem?_map] at hi
     obtain⟨x,hx,rfl⟩:=Option.map_eq_some_iff.mp hi
     have hxu:=(hm x).mpr (List.mem_of_getElem? hx)
     have hil:i<hs.length:=(List.getElem?_eq_some_iff.mp hx).1
     have etk:hs.take (i+1)=hs.take i++[x]:=by rw[List.take_add_one,hx];rfl
     refine⟨_,rfl,_,rfl,d,pf,us,x,rfl,sm1 _ _ (sm _ _ hd),by omega,C,hxu,fun lu p hp hlu=>?_,fun hno G2 s2=>?_⟩
     ·have n1:=Same.new (o:=HO.lst (p.map V.int)) hlu
      refine⟨rfl,_,rfl,iteN rfl ⟨_,rfl,by omega,?_,n1 _ _ hD',sm1.trans n1⟩⟩
      rw[hzn,etk]
      constructor
      ·intro h u hu
       rcases List.mem_append.mp hu with e | e
       ·exact h u e
       ·rw[List.mem_singleton.mp e];exact⟨_,hp⟩
      ·intro h u hu
       exact h u (List.mem_append.mpr (.inl hu))
     ·refine⟨rfl,_,rfl,xh ⟨_,rfl,s2 _ _ hD',zo (by omega),_,rfl,by simp;omega,?_,upd_same,(sm1.trans s2).updF hD1⟩⟩
      constructor
      ·intro z
       simp at z
      ·intro h
       exact absurd (h x (by rw[etk];simp)) hno
    ·rintro zs τ G1 ⟨o1,rfl,hzl,hzn,hD',sm1⟩
     rw[List.length_map,List.take_length] at hzn
     refine⟨Nat.zero_le _,fun pe hpe=>?_⟩
     have n1:=Same.new (o:=HO.lst []) hpe
     refine neZ (SqL.of (n1 _ _ hD')) (SqL.of upd_same) (un 0 (by omega)) ⟨_,rfl,?_⟩
     have sm2:=sm.trans (sm1.trans n1)
     generalize upd G1 pe (HO.lst [])=G2 at *
     clear n1 hpe hD' sm1 hD1
     cases zs with
     |cons z zs =>
      refine xh (k false _ ⟨fun z=>(nomatch z),fun h=>?_⟩ sm2)
      have:=hzn.mpr fun x hx=>h.g.en x ((hm x).mpr hx)
      cases this
     |nil =>
      refine iteN rfl ?_
      have en:∀ x∈us,∃ l,En pf x l:=fun x hx=>hzn.mp rfl x ((hm x).mp hx)
      have U:=UpP.of C en
      clear hzn hzl sm
      have hl2:=sm2 _ _ hl
      have Lb2:=Lb.same sm2
      have lr:=Lb.1
      refine⟨_,rfl,l,rfl,⟨_,SqL.of hl2⟩,fun D2 hD2 _=>?_⟩
      refine zU (K:=K) (a:=l) (xs:=rb) (fun i zs τ H'=>∃ (o1:Option V),τ=[o1,some (.ref q),some (.ref l)]∧zs.length≤i∧(zs=[]↔∀ b∈bs.take i,b∈ls∧bs.count b≤1)∧H' D2=some (.lst zs)∧Same G2 H') ?_ ?_ ?_ ?_
      ·exact⟨none,rfl,Nat.le_refl _,by simp,upd_same,Same.new hD2⟩
      ·rintro i zs τ H' ⟨o1,_,_,_,_,sm1⟩
       exact SqL.of (sm1 _ _ hl2)
      ·rintro i v zs τ G3 hi ⟨o1,rfl,hzl,hzn,hD',sm1⟩
       have Lb3:=Lb2.same sm1
       obtain⟨b,t,hp,rfl,ht⟩:=Lb3.get hi
       have hil:i<bs.length:=(List.getElem?_eq_some_iff.mp hp).1
       have etk:bs.take (i+1)=bs.take i++[b]:=by rw[List.take_add_one,hp];rfl
       have sm3:=sm2.trans sm1
       have bad:¬(b∈ls∧bs.count b≤1)→(zs++[V.ref t]=[]↔∀ b∈bs.take (i+1),b∈ls∧bs.count b≤1):=fun hb=>⟨fun z=>by simp at z,fun h=>absurd (h b (by rw[etk];simp)) hb⟩
       refine⟨_,rfl,_,rfl,q,t,rs,ls,b.1,b.2,rfl,sm3 _ _ hq,L.same sm3,ht,_,rfl,?_⟩
       by_cases c1:b∈ls
       ·refine iteN (by show(!decide (b∈ls))=false;simp[c1]) ?_
        obtain⟨ps,e1,e2,e3⟩:=Lb3.prs
        have hl3:G3 l=some (.lst (ps.map fun p=>V.ref p.1)):=by rw[e1];exact sm1 _ _ hl2
        refine⟨_,rfl,.inl ⟨rfl,_,SqL.of hl3⟩,_,rfl,l,t,ps,b.1,b.2,rfl,rfl,hl3,e3,ht,un 3 (by omega),_,_,rfl,rfl,_,rfl,?_⟩
        rw[e2]
        by_cases c2:bs.count b≤1
        ·refine iteN (decide_eq_false (by show ¬ ((1:Int)<((bs.count b:Nat):Int));omega)) ⟨_,rfl,by omega,?_,hD',sm1⟩
         rw[hzn,etk]
         constructor
         ·intro h u hu
          rcases List.mem_append.mp hu with e | e
          ·exact h u e
          ·rw[List.mem_singleton.mp e];exact⟨c1,c2⟩
         ·intro h u hu
          exact h u (List.mem_append.mpr (.inl hu))
        ·refine iteB (decide_eq_true (by show((1:Int)<((bs.count b:Nat):Int));omega)) ⟨_,rfl,hD',zo (by omega),_,rfl,by simp;omega,bad fun h=>c2 h.2,upd_same,sm1.updF hD2⟩
       ·refine iteB (by show(!decide (b∈ls))=true;simp[c1]) ⟨_,rfl,hD',zo (by omega),_,rfl,by simp;omega,bad fun h=>c1 h.1,upd_same,sm1.updF hD2⟩
      ·rintro zs τ G3 ⟨o1,rfl,hzl,hzn,hD',sm1⟩
       rw[lr,List.take_length] at hzn
       refine⟨Nat.zero_le _,fun pe hpe=>?_⟩
       have n1:=Same.new (o:=HO.lst []) hpe
       refine neZ (SqL.of (n1 _ _ hD')) (SqL.of upd_same) (un 0 (by omega)) ⟨_,rfl,?_⟩
       have sm3:=sm2.trans (sm1.trans n1)
       generalize upd G3 pe (HO.lst [])=G4 at *
       clear n1 hpe hD' sm1 hD2 sm2 hl2 Lb2
       have ndc:bs.Nodup↔∀ b∈bs,bs.count b≤1:=by
        rw[List.nodup_iff_count]
        exact⟨fun h b _=>h b,fun h b=>by
         by_cases c:b∈bs
         ·exact h b c
         ·rw[List.count_eq_zero.mpr c];omega⟩
       cases zs with
       |cons z zs =>
        refine xh (k false _ ⟨fun z=>(nomatch z),fun h=>?_⟩ sm3)
        have:=hzn.mpr fun b hb=>⟨BL.inl wl hb (h.g.gd.1 b hb).1,ndc.mp h.g.gd.2 b hb⟩
        cases this
       |nil =>
        refine iteN rfl ?_
        have inl:∀ b∈bs,b∈ls:=fun b hb=>(hzn.mp rfl b hb).1
        have ndb:bs.Nodup:=ndc.mpr fun b hb=>(hzn.mp rfl b hb).2
        have bin:∀ b∈bs,b.1∈us∧b.2∈us:=fun b hb=>⟨(hm _).mpr (wl.ok b (inl b hb)).1,(hm _).mpr (wl.ok b (inl b hb)).2.1⟩
        have ble:∀ b∈bs,b.1≤b.2:=fun b hb=>Int.le_of_lt (wl.ok b (inl b hb)).2.2
        clear hzn hzl ndc
        have hl4:=sm3 _ _ hl
        have Lb4:=Lb.same sm3
        refine⟨_,rfl,l,rfl,⟨_,SqL.of hl4⟩,fun D3 hD3 _=>?_⟩
        refine zU (K:=K) (a:=l) (xs:=rb) (fun i zs τ H'=>∃ (o1 o2:Option V),τ=[o1,o2,some (.ref d)]∧LnAt H' zs ((bs.take i).map (jk (ldr (paO pf))))∧H' D3=some (.lst zs)∧Same G4 H') ?_ ?_ ?_ ?_
        ·exact⟨none,none,rfl,⟨rfl,fun i r p h=>by simp at h⟩,upd_same,Same.new hD3⟩
        ·rintro i zs τ H' ⟨o1,o2,_,_,_,sm1⟩
         exact SqL.of (sm1 _ _ hl4)
        ·rintro i v zs τ G5 hi ⟨o1,o2,rfl,Lz,hD',sm1⟩
         obtain⟨b,t,hp,rfl,ht⟩:=(Lb4.same sm1).get hi
         have hil:i<bs.length:=(List.getElem?_eq_some_iff.mp hp).1
         have hb:=List.mem_of_getElem? hp
         have etk:bs.take (i+1)=bs.take i++[b]:=by rw[List.take_add_one,hp];rfl
         refine⟨t,_,rfl,SqT.of ht,rfl,_,_,rfl,_,_,rfl,rfl,?_⟩
         refine zaM ?_
         refine⟨_,rfl,_,rfl,_,rfl,d,pf,paO pf,us,b.1,b.2,rfl,sm1 _ _ (sm3 _ _ hd),by omega,U,(bin b hb).1,(bin b hb).2,fun tj G6 htj htj6 s6=>?_⟩
         have Lz6:=(Lz.same s6).snoc (p:=jk (ldr (paO pf)) b) htj6
         have hD6:=s6 _ _ hD'
         have hzl:=Lz.1
         rw[List.length_map,List.length_take] at hzl
         refine⟨hD6,zo (by omega),_,_,rfl,?_,upd_same,(sm1.trans s6).updF hD3⟩
         rw[etk,List.map_append]
         exact Lz6.updL hD6
        ·rintro zs τ G5 ⟨o1,o2,rfl,Lz,hD',sm1⟩
         rw[lr,List.take_length] at Lz
         have sm5:=sm3.trans sm1
         have hzl:=Lz.1
         rw[List.length_map] at hzl
         clear sm1 hD3 hl4 Lb4 sm3
         have hjk:∀ b:Int×Int,(jk (ldr (paO pf)) b).1=(jk (ldr (paO pf)) b).2↔ldr (paO pf) b.1=ldr (paO pf) b.2:=fun b=>by
          unfold jk
          dsimp only
          omega
         refine⟨_,rfl,D3,rfl,⟨_,SqL.of hD'⟩,fun D4 hD4 _=>?_⟩
         refine zU (K:=K) (a:=D3) (xs:=zs) (fun i ys τ H'=>∃ (o1:Option V),τ=[o1]∧ys.length≤i∧(ys=[]↔∀ b∈bs.take i,ldr (paO pf) b.1≠ldr (paO pf) b.2)∧H' D4=some (.lst ys)∧Same G5 H') ?_ ?_ ?_ ?_
         ·exact⟨none,rfl,Nat.le_refl _,by simp,upd_same,Same.new hD4⟩
         ·rintro i zs τ H' ⟨o1,_,_,_,_,sm1⟩
          exact SqL.of (sm1 _ _ hD')
         ·rintro i v ys τ G6 hi ⟨o1,rfl,hyl,hyn,hD6,sm1⟩
          obtain⟨c,t,hc,rfl,ht⟩:=(Lz.same sm1).get hi
          rw[List.getElem?_map] at hc
          obtain⟨b,hp,rfl⟩:=Option.map_eq_some_iff.mp hc
          have hil:i<bs.length:=(List.getElem?_eq_some_iff.mp hp).1
          have etk:bs.take (i+1)=bs.take i++[b]:=by rw[List.take_add_one,hp];rfl
          refine⟨_,rfl,t,_,0,_,rfl,rfl,SqT.of ht,rfl,_,rfl,t,_,1,_,rfl,rfl,SqT.of ht,rfl,rfl,_,rfl,?_⟩
          by_cases c:ldr (paO pf) b.1=ldr (paO pf) b.2
          ·refine iteB (decide_eq_true (by rw[(hjk b).mpr c])) ⟨_,rfl,hD6,zo (by omega),_,rfl,by simp;omega,?_,upd_same,sm1.updF hD4⟩
           exact⟨fun z=>by simp at z,fun h=>absurd c (h b (by rw[etk];simp))⟩
          ·refine iteN (decide_eq_false fun z=>c ((hjk b).mp (by injection z))) ⟨_,rfl,by omega,?_,hD6,sm1⟩
           rw[hyn,etk]
           constructor
           ·intro h u hu
            rcases List.mem_append.mp hu with e | e
            ·exact h u e
            ·rw[List.mem_singleton.mp e];exact c
           ·intro h u hu
            exact h u (List.mem_append.mpr (.inl hu))
         ·rintro ys τ G6 ⟨o1,rfl,hyl,hyn,hD6,sm1⟩
          rw[hzl,List.take_length] at hyn
          refine⟨Nat.zero_le _,fun pe hpe=>?_⟩
          have n1:=Same.new (o:=HO.lst []) hpe
          refine neZ (SqL.of (n1 _ _ hD6)) (SqL.of upd_same) (un 0 (by omega)) ⟨_,rfl,?_⟩
          have sm7:=sm5.trans (sm1.trans n1)
          have Lz7:=(Lz.same sm1).same n1
          have hD7:=n1 _ _ (sm1 _ _ hD')
          generalize upd G6 pe (HO.lst [])=G7 at *
          clear n1 hpe hD6 sm1 hD4 sm5 hD' Lz
          cases ys with
          |cons y ys =>
           refine xh (k false _ ⟨fun z=>(nomatch z),fun h=>?_⟩ sm7)
           have:=hyn.mpr fun b hb=>(h.g.gd.1 b hb).2
           cases this
          |nil =>
           refine iteN rfl ?_
           have df:=hyn.mp rfl
           have g:GrB us ls pf bs:=⟨gad,en,fun b hb=>⟨ble b hb,df b hb⟩,ndb⟩
           clear hyn hyl
           have hq7:=sm7 _ _ hq
           refine⟨_,rfl,q,rfl,⟨_,SqL.of hq7⟩,?_⟩
           refine for_list (K:=K) (a:=q) (xs:=rs) (fun i σ H'=>∃ (o8 o9 o10:Option V),σ=[some (.ref h),some (.ref q),some (.ref d),some (.ref l),some (.ref D0),o5,o6,some (.ref D3),o8,o9,o10]∧Same G7 H'∧∀ p∈ls.take i,ldr (paO pf) p.1≠ldr (paO pf) p.2→∃ b∈bs,jk (ldr (paO pf)) b=jk (ldr (paO pf)) p) ?_ ?_ ?_ ?_
           ·exact⟨none,none,none,rfl,fun _ _ h=>h,fun p hp=>by simp at hp⟩
           ·rintro i σ H' _ ⟨o8,o9,o10,_,sm,_⟩
            exact SqL.of (sm _ _ hq7)
           ·rintro i v σ G8 hi ⟨o8,o9,o10,rfl,sm,gd⟩
            obtain⟨p,t,hp,rfl,ht⟩:=((L.same sm7).same sm).get hi
            have hpl:=List.mem_of_getElem? hp
            have etk:ls.take (i+1)=ls.take i++[p]:=by rw[List.take_add_one,hp];rfl
            have gd2:(ldr (paO pf) p.1≠ldr (paO pf) p.2→∃ b∈bs,jk (ldr (paO pf)) b=jk (ldr (paO pf)) p)→∀ p∈ls.take (i+1),ldr (paO pf) p.1≠ldr (paO pf) p.2→∃ b∈bs,jk (ldr (paO pf)) b=jk (ldr (paO pf)) p:=fun h u hu=>by
             rw[etk] at hu
             rcases List.mem_append.mp hu with e | e
             ·exact gd u e
             ·rw[List.mem_singleton.mp e];exact h
            refine⟨t,_,rfl,SqT.of ht,rfl,_,_,rfl,_,_,rfl,rfl,?_⟩
            refine⟨_,rfl,_,rfl,_,rfl,d,pf,paO pf,us,p.1,p.2,rfl,sm _ _ (sm7 _ _ hd),by omega,U,(hm _).mpr (wl.ok p hpl).1,(hm _).mpr (wl.ok p hpl).2.1,fun tj G9 htj htj9 s9=>?_⟩
            have sm9:=sm.trans s9
            refine⟨_,rfl,tj,_,0,_,rfl,rfl,SqT.of htj9,rfl,_,rfl,tj,_,1,_,rfl,rfl,SqT.of htj9,rfl,rfl,_,rfl,?_⟩
            by_cases c:ldr (paO pf) p.1=ldr (paO pf) p.2
            ·exact iteN (by rw[(hjk p).mpr c];simp) ⟨_,_,_,rfl,sm9,gd2 fun h=>absurd c h⟩
            ·refine iteB (by
              have:¬ (V.int (jk (ldr (paO pf)) p).1=V.int (jk (ldr (paO pf)) p).2):=fun z=>c ((hjk p).mp (by injection z))
              simp[this]) ?_
             obtain⟨ps,f1,f2,f3⟩:=(Lz7.same sm9).prs
             refine⟨_,rfl,_,rfl,D3,tj,ps,_,_,rfl,rfl,by rw[f1];exact SqL.of (sm9 _ _ hD7),f3,htj9,un 3 (by omega),_,rfl,?_⟩
             rw[f2]
             by_cases c2:jk (ldr (paO pf)) p∈bs.map (jk (ldr (paO pf)))
             ·refine iteN (by show(!decide (jk (ldr (paO pf)) p∈_))=false;simp only[decide_eq_true c2,Bool.not_true]) ⟨_,_,_,rfl,sm9,gd2 fun _=>?_⟩
              obtain⟨b,hb,e⟩:=List.mem_map.mp c2
              exact⟨b,hb,e⟩
             ·refine iteB (by show(!decide (jk (ldr (paO pf)) p∈_))=true;simp only[decide_eq_false c2,Bool.not_false]) ?_
              refine k false _ ⟨fun z=>(nomatch z),fun h=>?_⟩ (sm7.trans sm9)
              obtain⟨b,hb,e⟩:=h.cov p hpl c
              exact absurd (List.mem_map.mpr ⟨b,hb,e⟩) c2
           ·rintro σ G8 ⟨o8,o9,o10,rfl,sm,gd⟩
            rw[L.1,List.take_length] at gd
            exact k true _ ⟨fun _=>⟨g,gd⟩,fun _=>rfl⟩ (sm7.trans sm)
theorem vN {f:Int→V}{us:List Int}{x:Int}{v:V}(hx:x∈us):putK (tabV f us) (.inl x) v=tabV (fun y=>if y=x then v else f y) us:=by
 unfold putK
 have h:((tabV f us).any fun kv=>decide (kv.1=(Sum.inl x:Key)))=true:=by
  rw[List.any_eq_true]
  exact⟨(Sum.inl x,f x),List.mem_map.mpr ⟨x,hx,rfl⟩,by simp⟩
 rw[if_pos h]
 unfold tabV
 rw[List.map_map]
 refine List.map_congr_left fun y _=>?_
 show(if (Sum.inl y:Key)=Sum.inl x then((Sum.inl y:Key),v) else(Sum.inl y,f y))=(Sum.inl y,if y=x then v else f y)
 by_cases c:y=x
 ·rw[if_pos c,if_pos (by rw[c])]
 ·rw[if_neg c,if_neg (fun z=>c (by injection z))]
theorem LnAt.extX {H H':Hp}{l:Addr}{rs:List V}{ls:List (Int×Int)}(h:LnAt H rs ls) (x:XsAt H l) (y:Ext l H H'):LnAt H' rs ls:=⟨h.1,fun n r p a1 a2=>by
 obtain⟨qq,b1,b2⟩:=h.2 n r p a1 a2
 exact⟨qq,b1,y _ _ b2 fun z=>by
  obtain⟨ms,e',_⟩:=x
  rw[z,e'] at b2
  cases b2⟩⟩
theorem LnAt.updN {H:Hp}{p:Addr}{o:HO}{u:HO}{rs:List V}{ls:List (Int×Int)}(h:LnAt H rs ls) (hp:H p=some u) (hu:∀ xs,u≠.tup xs):LnAt (L2.upd H p o) rs ls:=⟨h.1,fun n r q a1 a2=>by
 obtain⟨qq,b1,b2⟩:=h.2 n r q a1 a2
 exact⟨qq,b1,by rw[upd_ne (fun z=>by rw[z,hp] at b2;injection b2 with b2;exact hu _ b2)];exact b2⟩⟩
def zgb:Sp:=fun vs H Q _=>∃ (l h q:Addr) (rs:List V) (hs:List Int) (ls:List (Int×Int)),vs=[.ref l,.ref h,.ref q]∧XsAt H l∧H h=some (.lst (hs.map V.int))∧h≠l∧H q=some (.lst rs)∧q≠l∧LnAt H rs ls∧Hs hs∧Ls hs ls ∧
 ∀ (t d lb:Addr) (pf:Int→Option Int) (bs:List (Int×Int)) (rb:List V) (H':Hp),H' t=some (.tup [.ref d,.ref lb])→H' d=some (.dK (tabV (fun x=>opV (pf x)) hs))→H' lb=some (.lst rb)→LnAt H' rb bs→Cl hs pf→BrL ls bs→bs.length≤200→Ext l H H'→Q (.ref t) H'
theorem zbw (T:Txt w K mg a):FnOk P w K mg base CX0 3 a.f_qy a.d_qy ["_law_xs", "_law_hands_here", "_law_lines_here"] zgb:=by
 have c_qp:Callee P w K mg base "_law_take" a.f_qp a.d_qp ["_law_xs", "_law_size"] 1 vS:=⟨vv T,T.g_qp,T.F_qp.kp,T.b_qp⟩
 have c_qs:Callee P w K mg base "_law_near" a.f_qs a.d_qs ["_law_lines_here", "_law_hand"] 1 zaQ:=⟨VM T,T.g_qs,T.F_qs.kp,T.b_qs⟩
 have c_qt:Callee P w K mg base "_law_up" a.f_qt a.d_qt ["_law_parents", "_law_hand"] 1 X6:=⟨ZN T,T.g_qt,T.F_qt.kp,T.b_qt⟩
 have c_qu:Callee P w K mg base "_law_both" a.f_qu a.d_qu ["_law_parents", "_law_one", "_law_other"] 2 zaU:=⟨VP T,T.g_qu,T.F_qu.kp,T.b_qu⟩
 refine T.F_qy.ok sc_qy (fun vs H Q E h=>?_) (fun cdv A outer s H vs Q E hr h=>?_)
 ·obtain⟨l,h,q,rs,hs,ls,rfl,_⟩:=h
  rfl
 ·obtain⟨l,h,q,rs,hs,ls,rfl,hX,hh,nhl,hq,nql,L,wh,wl,k⟩:=h
  have hu:=xw hr
  have l12:=wh.l12
  have l1:=wh.l1
  have ndh:=Z8 wh
  have un:∀ n:Nat,n≤3→(A.deeper (PyProof.Rows.envOfC "_law_any_way" (defScope ui) s.heap.objs.size a.f_qy cdv)).units+n+2<cLine:=fun n hn=>by
   have:=hr.units
   omega
  refine zV (ze (zp (i:=3) sc_qy.nd rfl (Or.inr rfl) ue)
   (ze (zp (i:=4) sc_qy.nd rfl (Or.inl rfl) (zt c_qp (hr.mono (by omega)) (zh (zi 0) (zO zg zd))))
   (ze (zL PassesOwn.never rfl (zB (zi 1)) (zm (i:=5) sc_qy.nd rfl (Or.inl rfl))
    (ze (zp (i:=6) sc_qy.nd rfl (Or.inl rfl) (zt c_qs (hr.mono (by omega)) (zh (zi 2) (zh (zi 5) zd))))
    (ze (zp (i:=7) sc_qy.nd rfl (Or.inl rfl) (zt c_qp (hr.mono (by omega)) (zh (zi 0) (zr (zz z7 (zF (zO zg (zO zg (zO zg zd)))) (zi 4) (fun _ _=>rfl)) zd))))
    (ze (yZ hu (zi 3) (zi 5) z9 rfl)
    (yE (zx (wg (yf (zk (we v3 v4) (zi 6) (zF zd) (zv _)) (yb (zk xb (zi 7) (yL (zO zg (zO zg zd))) (by with_unfolding_all rfl)))))
     (zf (yZ hu (zi 3) (zi 5) (zz z7 (zi 6) (zu wc (zt c_qp (hr.mono (by omega)) (zh (zi 0) (zS (zl zw (by rfl) T.n_len zY (zh (zi 6) zd)) zd))) (zu xt (zi 7) zg)) (fun _ _=>rfl)) rfl))
     zn)
    (zf (zx (zk xc (zi 7) zg (zv _))
     (zf (yZ hu (zi 3) (zi 5) (zz z7 (zi 1) (zt c_qp (hr.mono (by omega)) (zh (zi 0) (zS (zl zw (by rfl) T.n_len zY (zh (zi 1) zd)) zd))) (fun _ _=>rfl)) rfl))
     zn)))))))
   (ze (zp (i:=8) sc_qy.nd rfl (Or.inl rfl) (zF zd))
   (ze (zp (i:=9) sc_qy.nd rfl (Or.inl rfl) (zz z7 (zF (zO zg (zO zg (zO zg zd)))) (zt c_qp (hr.mono (by omega)) (zh (zi 0) (zO zg zd))) (fun _ _=>rfl)))
   (ze (zL PassesOwn.never rfl (zB (zi 2)) (zm (i:=10) sc_qy.nd rfl (Or.inl rfl))
    (yE (zx (zk wS (zt c_qp (hr.mono (by omega)) (zh (zi 0) (zh (zi 9) zd))) (zl (Ym rfl) (by rfl) T.n_max Ug (zO zg (xW (zu xt (zi 9) zg) zd))) (zv _))
     (zf (z4 (yq PySem.F.plainAttrs_list PySem.F.slot_list_append PySem.F.type_list_append zQ (zi 8) (zh (zi 10) zd))))
     zn)
    (zf (zx (zk xc (zt c_qp (hr.mono (by omega)) (zh (zi 0) (zO zg zd))) zg (zv _))
     (zf (z4 (yq PySem.F.plainAttrs_list PySem.F.slot_list_append PySem.F.type_list_append zQ (zi 8) (Xq (yL (zr (zz zP (zi 10) zg (fun _ _=>rfl)) (zr (zz zP (zi 10) zg (fun _ _=>rfl)) zd))) zd))))
     zn))))
   (yE (zx (wg (yf (zk xc (zi 4) zg (zv _)) (yf (zk xc (zt c_qp (hr.mono (by omega)) (zh (zi 0) (zO zg zd))) zg (zv _)) (yb (zk (we XM XN) (z6 rfl (N':=["_law_hand", "_law_parents"]) (t:=1) (caps:=[3]) ⟨rfl,rfl,rfl⟩ (zB (zi 1)) (fun _=>(zm (i:=0) (show(["_law_hand", "_law_parents"]:List Str).Nodup by decide +kernel) rfl (Or.inl rfl))) (fun _=>(yc (zk XJ (zt c_qt (hr.mono (by omega)) (zh (zi 1) (zh (zi 0) zd))) z9 (zv _)))) (fun _=>(zi 0))) (zF zd) (zv _))))))
    (zf (yn (i:=8) rfl sc_qy.nd rfl (Or.inl rfl) (N':=["_law_line", "_law_parents"]) (t:=1) (caps:=[3]) ⟨rfl,rfl,rfl⟩ (zB (zi 2)) (fun _=>(zm (i:=0) (show(["_law_line", "_law_parents"]:List Str).Nodup by decide +kernel) rfl (Or.inl rfl))) (fun _=>(yc (zk vt (zl Yn (by rfl) T.n_len zY (zS (zX (Yl rfl) (by rfl) T.n_set Uf (zS (zt c_qu (hr.mono (by omega)) (zh (zi 1) (zr (zz zP (zi 0) zg (fun _ _=>rfl)) (zr (zz zP (zi 0) zg (fun _ _=>rfl)) zd)))) zd)) zd)) zg (zv _)))) (fun _=>(zi 0))))
    zn)
   (zf (zj (yL (zh (zi 3) (zh (zi 8) zd)))))))))))) ?_
  refine fun d hd=>?_
  have ndl:d≠l:=hX.ne hd
  have y0:Ext l H (upd H d (HO.dK [])):=Ext.new hd
  have x0:=hX.new (o:=HO.dK []) hd
  have hd0:=upd_same (H:=H) (a:=d) (o:=HO.dK [])
  generalize upd H d (HO.dK [])=H0 at *
  refine⟨_,rfl,l,3,rfl,x0,by decide,fun mode H1 m0 m1 x1 y1=>?_⟩
  have hd1:=y1 _ _ hd0 ndl
  have y01:=y0.trans y1
  refine⟨_,rfl,h,rfl,⟨_,SqL.of (y01 _ _ hh nhl)⟩,?_⟩
  refine for_list (K:=K) (a:=h) (xs:=hs.map V.int) (fun i σ H'=>∃ (pf:Int→Option Int) (o5 o6 o7:Option V),σ=[some (.ref l),some (.ref h),some (.ref q),some (.ref d),some (.int mode),o5,o6,o7,none,none,none]∧H' d=some (.dK (tabV (fun x=>opV (pf x)) (hs.take i)))∧(∀ x y,pf x=some y→y∈hs)∧XsAt H' l∧Ext l H H') ?_ ?_ ?_ ?_
  ·exact⟨fun _=>none,none,none,none,rfl,hd1,(fun x y h=>by cases h),x1,y01⟩
  ·rintro i σ H' _ ⟨_,_,_,_,_,_,_,_,y⟩
   exact SqL.of (y _ _ hh nhl)
  ·rintro i v σ H2 hi ⟨pf,o5,o6,o7,rfl,hd2,hpf,x2,y2⟩
   rw[List.getElem?_map] at hi
   obtain⟨x,hx,rfl⟩:=Option.map_eq_some_iff.mp hi
   have hxh:=List.mem_of_getElem? hx
   have hil:i<hs.length:=(List.getElem?_eq_some_iff.mp hx).1
   have etk:hs.take (i+1)=hs.take i++[x]:=by rw[List.take_add_one,hx];rfl
   have hxn:x∉hs.take i:=ww ndh hx
   refine⟨_,rfl,_,rfl,q,x,rs,hs,ls,rfl,y2 _ _ hq nql,L.extX hX y2,wh,wl,fun ln H3 hln s3 hln3=>?_⟩
   have x3:=x2.same s3
   have y3:=y2.trans (Ext.same s3)
   have hd3:=s3 _ _ hd2
   have nll:ln≠l:=x2.ne hln
   refine⟨_,rfl,(by show 3≤sizeLine;decide),fun p1 hp1=>?_⟩
   have x4:=x3.new (o:=HO.lst [V.int 6,V.int 3,V.int 40]) hp1
   have y4:=y3.trans (Ext.new (l:=l) (o:=HO.lst [V.int 6,V.int 3,V.int 40]) hp1)
   have s4:=Same.new (o:=HO.lst [V.int 6,V.int 3,V.int 40]) hp1
   have hd4:=s4 _ _ hd3
   have hln4:=s4 _ _ hln3
   have hp4:=upd_same (H:=H3) (a:=p1) (o:=HO.lst [V.int 6,V.int 3,V.int 40])
   generalize upd H3 p1 (HO.lst [V.int 6,V.int 3,V.int 40])=H4 at *
   obtain⟨n,n0,hat⟩:∃ n:Int,0<n∧atI [V.int 6,V.int 3,V.int 40] mode=some (V.int n):=by
    have:mode=0∨mode=1∨mode=2:=by omega
    rcases this with rfl | rfl | rfl
    ·exact⟨6,by decide,rfl⟩
    ·exact⟨3,by decide,rfl⟩
    ·exact⟨40,by decide,rfl⟩
   refine⟨_,rfl,p1,_,mode,_,rfl,rfl,SqL.of hp4,hat,l,n,rfl,x4,n0,fun way H5 w0 w1 x5 y5=>?_⟩
   have hd5:=y5 _ _ hd4 ndl
   have hln5:=y5 _ _ hln4 nll
   have y05:=y4.trans y5
   refine⟨_,rfl,_,rfl,d,_,rfl,DPut.k (k:=.inl x) hd5 (by rw[tabV_len,List.length_take];exact zo (by omega)),?_⟩
   rw[YC hxn,← etk]
   have eop:∀ o:Option Int,tabV (fun y=>if y=x then opV o else opV (pf y)) (hs.take (i+1))=tabV (fun y=>opV (if y=x then o else pf y)) (hs.take (i+1)):=fun o=>xY fun y _=>by
    by_cases c:y=x
    ·rw[if_pos c,if_pos c]
    ·rw[if_neg c,if_neg c]
   have eop2:∀ o o':Option Int,tabV (fun y=>if y=x then opV o else opV (if y=x then o' else pf y)) (hs.take (i+1))=tabV (fun y=>opV (if y=x then o else pf y)) (hs.take (i+1)):=fun o o'=>xY fun y _=>by
    by_cases c:y=x
    ·rw[if_pos c,if_pos c]
    ·rw[if_neg c,if_neg c,if_neg c]
   have hx1:x∈hs.take (i+1):=by rw[etk];simp
   have e6:=eop none
   have e6:tabV (fun y=>if y=x then V.non else opV (pf y)) (hs.take (i+1))=tabV (fun y=>opV (if y=x then none else pf y)) (hs.take (i+1)):=e6
   rw[e6]
   have hd6:=upd_same (H:=H5) (a:=d) (o:=HO.dK (tabV (fun y=>opV (if y=x then none else pf y)) (hs.take (i+1))))
   have x6:=x5.upd (o:=HO.dK (tabV (fun y=>opV (if y=x then none else pf y)) (hs.take (i+1)))) ndl
   have putE:∀ {G:Hp}{o:HO},Ext l H G→Ext l H (upd G d o):=fun {G o} y b u e nb=>by
    rw[upd_ne (ne_of_none e hd)]
    exact y b u e nb
   have y6:=putE (o:=HO.dK (tabV (fun y=>opV (if y=x then none else pf y)) (hs.take (i+1)))) y05
   have hln6:upd H5 d (HO.dK (tabV (fun y=>opV (if y=x then none else pf y)) (hs.take (i+1)))) ln=some (.lst ((hs.filter (adB ls x)).map V.int)):=by rw[upd_ne fun z=>by rw[z,hd5] at hln5;cases hln5];exact hln5
   generalize upd H5 d (HO.dK (tabV (fun y=>opV (if y=x then none else pf y)) (hs.take (i+1))))=H6 at *
   clear hd5 hln5 y05 hd4 hln4 hp4 x4 y4 s4 hd3 hln3 hp1 s3 x3 y3 x5 y5 x2 y2 hd2 hln
   have fin:∀ (o:Option Int) (G:Hp),(∀ y,o=some y→y∈hs)→G d=some (.dK (tabV (fun y=>opV (if y=x then o else pf y)) (hs.take (i+1))))→XsAt G l→Ext l H G→∃ (pf':Int→Option Int) (o5' o6' o7':Option V),([some (.ref l),some (.ref h),some (.ref q),some (.ref d),some (.int mode),some (.int x),some (.ref ln),some (.int way),none,none,none]:St)=[some (.ref l),some (.ref h),some (.ref q),some (.ref d),some (.int mode),o5',o6',o7',none,none,none]∧G d=some (.dK (tabV (fun x=>opV (pf' x)) (hs.take (i+1))))∧(∀ x y,pf' x=some y→y∈hs)∧XsAt G l∧Ext l H G:=fun o G ho a1 a2 a3=>⟨_,_,_,_,rfl,a1,fun u v huv=>by
     have huv:(if u=x then o else pf u)=some v:=huv
     by_cases c:u=x
     ·rw[if_pos c] at huv;exact ho v huv
     ·rw[if_neg c] at huv;exact hpf u v huv,a2,a3⟩
   refine⟨fun σ' G=>∃ (o:Option Int),σ'=[some (.ref l),some (.ref h),some (.ref q),some (.ref d),some (.int mode),some (.int x),some (.ref ln),some (.int way),none,none,none]∧(∀ y,o=some y→y∈hs)∧G d=some (.dK (tabV (fun y=>opV (if y=x then o else pf y)) (hs.take (i+1))))∧XsAt G l∧Ext l H G,?_,?_⟩
   ·refine⟨_,rfl,Nat.zero_le _,fun pe hpe=>?_⟩
    have s7:=Same.new (o:=HO.lst []) hpe
    refine neZ (SqL.of (s7 _ _ hln6)) (SqL.of upd_same) (un 0 (by omega)) ⟨_,rfl,?_⟩
    have hd7:=s7 _ _ hd6
    have x7:=x6.same s7
    have y7:=y6.trans (Ext.same s7)
    have hln7:=s7 _ _ hln6
    generalize upd H6 pe (HO.lst [])=H7 at *
    generalize hns:hs.filter (adB ls x)=ns at *
    cases hnc:ns with
    |nil=>exact iteN rfl (iteN rfl ⟨none,rfl,(fun y z=>by cases z),hd7,x7,y7⟩)
    |cons n0 nt =>
     rw[← hnc]
     refine iteB (by rw[hnc];rfl) ?_
     have hnp:0<ns.length:=by rw[hnc];simp
     refine⟨_,rfl,(by show 2≤sizeLine;decide),fun pt hpt=>?_⟩
     have s8:=Same.new (o:=HO.tup [V.int 1,V.int 2]) hpt
     refine⟨pt,_,rfl,.inr (SqT.of upd_same),rfl,rfl,_,rfl,?_⟩
     have hd8:=s8 _ _ hd7
     have x8:=x7.same s8
     have y8:=y7.trans (Ext.same s8)
     have hln8:=s8 _ _ hln7
     generalize upd H7 pt (HO.tup [V.int 1,V.int 2])=H8 at *
     have hin:inV (V.int way) [V.int 1,V.int 2]=decide (way∈[1,2]):=yx (ns:=[1,2])
     by_cases c:way=1∨way=2
     ·refine iteB (by rw[hin];simp;exact c) ?_
      refine⟨_,rfl,_,rfl,_,rfl,ln,_,rfl,.inl (SqL.of hln8),l,_,rfl,x8,(by rw[List.length_map];omega),fun kk H9 k0 k1 x9 y9=>?_⟩
      rw[List.length_map] at k1
      have hd9:=y9 _ _ hd8 ndl
      have hln9:=y9 _ _ hln8 nll
      obtain⟨jj,hj,hjl⟩:∃ jj:Nat,kk*(way-1)=(jj:Int)∧jj<ns.length:=by
       rcases c with rfl | rfl
       ·exact⟨0,by simp,hnp⟩
       ·exact⟨kk.toNat,by rw[Int.toNat_of_nonneg k0];omega,by omega⟩
      obtain⟨yv,hyv⟩:∃ yv,ns[jj]?=some yv:=⟨ns[jj],by simp[hjl]⟩
      have hym:=List.mem_of_getElem? hyv
      rw[← hns] at hym
      have hcm:CMul kk (way-1):=.inr ⟨by omega,by omega⟩
      have hat:atI (ns.map V.int) (kk*(way-1))=some (V.int yv):=by
       rw[hj]
       exact xQ (by rw[List.getElem?_map,hyv];rfl)
      refine⟨_,rfl,_,_,rfl,rfl,_,_,rfl,rfl,hcm,ln,_,_,_,rfl,rfl,SqL.of hln9,hat,?_⟩
      refine⟨_,rfl,_,rfl,d,_,rfl,DPut.k (k:=.inl x) hd9 (by rw[tabV_len,List.length_take];exact zo (by omega)),?_⟩
      rw[vN hx1]
      have e12:=eop2 (some yv) none
      have e12:tabV (fun y=>if y=x then V.int yv else opV (if y=x then none else pf y)) (hs.take (i+1))=tabV (fun y=>opV (if y=x then some yv else pf y)) (hs.take (i+1)):=e12
      rw[e12]
      exact⟨some yv,rfl,(fun y z=>by cases z;exact(List.mem_filter.mp hym).1),upd_same,x9.upd ndl,putE (y8.trans y9)⟩
     ·refine iteN (by rw[hin];simp;omega) ?_
      exact⟨none,rfl,(fun y z=>by cases z),hd8,x8,y8⟩
   ·rintro σ' H7 ⟨o,rfl,ho,hd7,x7,y7⟩
    refine⟨_,rfl,rfl,_,rfl,?_⟩
    by_cases c:way=3
    ·refine iteB (by simp[c]) ?_
     have hh7:=y7 _ _ hh nhl
     refine⟨_,rfl,_,rfl,_,rfl,h,_,rfl,.inl (SqL.of hh7),l,_,rfl,x7,(by rw[List.length_map];omega),fun kk H8 k0 k1 x8 y8=>?_⟩
     rw[List.length_map] at k1
     have hkk:kk.toNat<hs.length:=by omega
     have hyv:hs[kk.toNat]?=some hs[kk.toNat]:=by simp[hkk]
     have hat:atI (hs.map V.int) kk=some (V.int hs[kk.toNat]):=by
      have:=xQ (xs:=hs.map V.int) (j:=kk.toNat) (v:=V.int hs[kk.toNat]) (by rw[List.getElem?_map,hyv];rfl)
      rw[Int.toNat_of_nonneg k0] at this
      exact this
     refine⟨h,_,_,_,rfl,rfl,SqL.of (y8 _ _ hh7 nhl),hat,?_⟩
     refine⟨_,rfl,_,rfl,d,_,rfl,DPut.k (k:=.inl x) (y8 _ _ hd7 ndl) (by rw[tabV_len,List.length_take];exact zo (by omega)),?_⟩
     rw[vN hx1]
     have e12:=eop2 (some hs[kk.toNat]) o
     have e12:tabV (fun y=>if y=x then V.int hs[kk.toNat] else opV (if y=x then o else pf y)) (hs.take (i+1))=tabV (fun y=>opV (if y=x then some hs[kk.toNat] else pf y)) (hs.take (i+1)):=e12
     rw[e12]
     exact fin (some hs[kk.toNat]) _ (fun y z=>by cases z;exact List.mem_of_getElem? hyv) upd_same (x8.upd ndl) (putE (y7.trans y8))
    ·refine iteN (by simp[c]) ?_
     exact fin o _ ho hd7 x7 y7
  ·rintro σ H2 ⟨pf,o5,o6,o7,rfl,hd2,hpf,x2,y2⟩
   rw[List.length_map,List.take_length] at hd2
   have C:Cl hs pf:=fun x _ y h=>hpf x y h
   clear hd0 hd1 x0 x1 y0 y1 y01
   refine⟨Nat.zero_le _,fun bl hbl=>?_⟩
   have nbl:bl≠l:=x2.ne hbl
   have fbl:H bl=none:=y2.free nbl hbl
   have s3:=Same.new (o:=HO.lst []) hbl
   have hb3:=upd_same (H:=H2) (a:=bl) (o:=HO.lst [])
   have x3:=x2.same s3
   have y3:=y2.trans (Ext.same s3)
   have hd3:=s3 _ _ hd2
   generalize upd H2 bl (HO.lst [])=H3 at *
   have nbd:bl≠d:=fun z=>by rw[z,hd3] at hb3;cases hb3
   refine⟨(by show 3≤sizeLine;decide),fun p1 hp1=>?_⟩
   have s4:=Same.new (o:=HO.lst [V.int 2,V.int 9,V.int 1]) hp1
   have np1:p1≠l:=x3.ne hp1
   have hp4:=upd_same (H:=H3) (a:=p1) (o:=HO.lst [V.int 2,V.int 9,V.int 1])
   have x4:=x3.same s4
   have y4:=y3.trans (Ext.same s4)
   have hd4:=s4 _ _ hd3
   have hb4:=s4 _ _ hb3
   generalize upd H3 p1 (HO.lst [V.int 2,V.int 9,V.int 1])=H4 at *
   refine⟨_,rfl,l,3,rfl,x4,by decide,fun t3 H5 t0 t1 x5 y5=>?_⟩
   have hd5:=y5 _ _ hd4 ndl
   have hb5:=y5 _ _ hb4 nbl
   have y05:=y4.trans y5
   obtain⟨n,n0,hat⟩:∃ n:Int,0<n∧atI [V.int 2,V.int 9,V.int 1] t3=some (V.int n):=by
    have:t3=0∨t3=1∨t3=2:=by omega
    rcases this with rfl | rfl | rfl
    ·exact⟨2,by decide,rfl⟩
    ·exact⟨9,by decide,rfl⟩
    ·exact⟨1,by decide,rfl⟩
   refine⟨p1,_,t3,_,rfl,rfl,SqL.of (y5 _ _ hp4 np1),hat,?_⟩
   have hq5:=y05 _ _ hq nql
   refine⟨_,rfl,q,rfl,⟨_,SqL.of hq5⟩,?_⟩
   have putB:∀ {G:Hp}{o:HO},Ext l H G→Ext l H (upd G bl o):=fun {G o} y b u e nb=>by
    rw[upd_ne (ne_of_none e fbl)]
    exact y b u e nb
   have l66:=wl.le
   refine for_list (K:=K) (a:=q) (xs:=rs) (fun i σ H'=>∃ (bs:List (Int×Int)) (rb:List V) (o10:Option V),σ=[some (.ref l),some (.ref h),some (.ref q),some (.ref d),some (.int mode),o5,o6,o7,some (.ref bl),some (.int n),o10]∧H' d=some (.dK (tabV (fun x=>opV (pf x)) hs))∧H' bl=some (.lst rb)∧LnAt H' rb bs∧BrL ls bs∧bs.length≤2*i∧XsAt H' l∧Ext l H H') ?_ ?_ ?_ ?_
   ·exact⟨[],[],_,rfl,hd5,hb5,⟨rfl,fun n r p a1=>by simp at a1⟩,(fun b hb=>(nomatch hb)),Nat.le_refl _,x5,y05⟩
   ·rintro i σ H' _ ⟨_,_,_,_,_,_,_,_,_,_,y⟩
    exact SqL.of (y _ _ hq nql)
   ·rintro i v σ H6 hi ⟨bs,rb,o10,rfl,hd6,hb6,Lb,BL,bl6,x6,y6⟩
    obtain⟨p,qa,hp,rfl,hqa⟩:=(L.extX hX y6).get hi
    have hpl:=List.mem_of_getElem? hp
    have hil:i<ls.length:=(List.getElem?_eq_some_iff.mp hp).1
    have hpa:adB ls p.1 p.2=true:=by
     unfold adB
     rw[Bool.or_eq_true]
     exact .inl (decide_eq_true hpl)
    refine⟨fun σ' G=>∃ (bs:List (Int×Int)) (rb:List V),σ'=[some (.ref l),some (.ref h),some (.ref q),some (.ref d),some (.int mode),o5,o6,o7,some (.ref bl),some (.int n),some (.ref qa)]∧G d=some (.dK (tabV (fun x=>opV (pf x)) hs))∧G bl=some (.lst rb)∧LnAt G rb bs∧BrL ls bs∧bs.length≤2*i+1∧XsAt G l∧Ext l H G∧G qa=some (.tup [.int p.1,.int p.2]),?_,?_⟩
    ·refine⟨_,rfl,_,rfl,l,n,rfl,x6,n0,fun t7 H7 a0 a1 x7 y7=>?_⟩
     have hqa7:=y7 _ _ hqa fun z=>by
      obtain⟨ms,e',_⟩:=x6
      rw[z,e'] at hqa
      cases hqa
     have hd7:=y7 _ _ hd6 ndl
     have hb7:=y7 _ _ hb6 nbl
     have Lb7:=Lb.extX x6 y7
     have y07:=y6.trans y7
     refine⟨_,rfl,_,_,rfl,rfl,_,_,rfl,_,_,rfl,rfl,_,rfl,?_⟩
     refine ite2 (fun _=>?_) (fun _=>?_)
     ·have nqb:qa≠bl:=fun z=>by rw[z,hb7] at hqa7;cases hqa7
      have rl:=Lb.1
      refine⟨_,rfl,.inl ⟨rfl,_,SqL.of hb7⟩,_,rfl,bl,_,_,rfl,rfl,hb7,zo (by omega),?_⟩
      refine⟨bs++[p],rb++[.ref qa],rfl,(upd_ne nbd.symm).trans hd7,upd_same,(Lb7.snoc hqa7).updN hb7 (fun _ z=>by cases z),fun b hb=>?_,by simp;omega,x7.upd nbl,putB y07,(upd_ne nqb).trans hqa7⟩
      rcases List.mem_append.mp hb with e | e
      ·exact BL b e
      ·rw[List.mem_singleton.mp e];exact hpa
     ·exact⟨bs,rb,rfl,hd7,hb7,Lb7,BL,by omega,x7,y07,hqa7⟩
    ·rintro σ' H7 ⟨bs,rb,rfl,hd7,hb7,Lb7,BL,bl7,x7,y7,hqa7⟩
     refine⟨_,rfl,l,60,rfl,x7,by decide,fun t8 H8 a0 a1 x8 y8=>?_⟩
     have hqa8:=y8 _ _ hqa7 fun z=>by
      obtain⟨ms,e',_⟩:=x7
      rw[z,e'] at hqa7
      cases hqa7
     have hd8:=y8 _ _ hd7 ndl
     have hb8:=y8 _ _ hb7 nbl
     have Lb8:=Lb7.extX x7 y8
     have y08:=y7.trans y8
     refine⟨rfl,_,rfl,?_⟩
     refine ite2 (fun _=>?_) (fun _=>?_)
     ·have rl:=Lb7.1
      refine⟨_,rfl,.inl ⟨rfl,_,SqL.of hb8⟩,_,rfl,qa,_,1,_,rfl,rfl,SqT.of hqa8,rfl,_,rfl,qa,_,0,_,rfl,rfl,SqT.of hqa8,rfl,(by show 2≤sizeLine;decide),fun pt hpt=>?_⟩
      have s9:=Same.new (o:=HO.tup [V.int p.2,V.int p.1]) hpt
      have hb9:=s9 _ _ hb8
      refine⟨bl,_,_,rfl,rfl,hb9,zo (by omega),?_⟩
      refine⟨bs++[(p.2,p.1)],rb++[.ref pt],_,rfl,(upd_ne nbd.symm).trans (s9 _ _ hd8),upd_same,((Lb8.same s9).snoc (p:=(p.2,p.1)) upd_same).updN hb9 (fun _ z=>by cases z),fun b hb=>?_,by simp;omega,(x8.same s9).upd nbl,putB (y08.trans (Ext.same s9))⟩
      rcases List.mem_append.mp hb with e | e
      ·exact BL b e
      ·rw[List.mem_singleton.mp e]
       show adB ls p.2 p.1=true
       rw[uc]
       exact hpa
     ·exact⟨bs,rb,_,rfl,hd8,hb8,Lb8,BL,by omega,x8,y08⟩
   ·rintro σ H6 ⟨bs,rb,o10,rfl,hd6,hb6,Lb,BL,bl6,x6,y6⟩
    have lr:=L.1
    refine⟨fun σ' G=>∃ (lb:Addr) (bs:List (Int×Int)) (rb:List V),σ'=[some (.ref l),some (.ref h),some (.ref q),some (.ref d),some (.int mode),o5,o6,o7,some (.ref lb),some (.int n),o10]∧G d=some (.dK (tabV (fun x=>opV (pf x)) hs))∧G lb=some (.lst rb)∧LnAt G rb bs∧BrL ls bs∧bs.length≤200∧Ext l H G,?_,?_⟩
    ·have keep:∀ (G:Hp),Ext l H6 G→∃ (lb:Addr) (bs':List (Int×Int)) (rb':List V),([some (.ref l),some (.ref h),some (.ref q),some (.ref d),some (.int mode),o5,o6,o7,some (.ref bl),some (.int n),o10]:St)=[some (.ref l),some (.ref h),some (.ref q),some (.ref d),some (.int mode),o5,o6,o7,some (.ref lb),some (.int n),o10]∧G d=some (.dK (tabV (fun x=>opV (pf x)) hs))∧G lb=some (.lst rb')∧LnAt G rb' bs'∧BrL ls bs'∧bs'.length≤200∧Ext l H G:=fun G y=>⟨bl,bs,rb,rfl,y _ _ hd6 ndl,y _ _ hb6 nbl,Lb.extX x6 y,BL,by omega,y6.trans y⟩
     refine⟨_,rfl,rfl,_,rfl,?_⟩
     refine ite2 (fun _=>?_) (fun _=>iteN rfl (keep H6 fun _ _ e _=>e))
     refine⟨_,rfl,l,2,rfl,x6,by decide,fun t7 H7 a0 a1 x7 y7=>?_⟩
     refine⟨rfl,_,rfl,?_⟩
     refine ite2 (fun _=>?_) (fun _=>iteN rfl (keep H7 y7))
     have hd7:=y7 _ _ hd6 ndl
     have y07:=y6.trans y7
     have hh7:=y07 _ _ hh nhl
     refine⟨_,rfl,h,rfl,⟨_,SqL.of hh7⟩,fun D1 hD1 _=>?_⟩
     refine zU (K:=K) (a:=h) (xs:=hs.map V.int) (fun i zs τ H'=>∃ (o1:Option V),τ=[o1,some (.ref d)]∧zs.length≤i∧(zs=[]↔∀ x∈hs.take i,∃ l,En pf x l)∧H' D1=some (.lst zs)∧Same H7 H') ?_ ?_ ?_ ?_
     ·exact⟨none,rfl,Nat.le_refl _,by simp,upd_same,Same.new hD1⟩
     ·rintro i zs τ H' ⟨o1,_,_,_,_,sm1⟩
      exact SqL.of (sm1 _ _ hh7)
     ·rintro i v zs τ G1 hi ⟨o1,rfl,hzl,hzn,hD',sm1⟩
      rw[List.getElem?_map] at hi
      obtain⟨x,hx,rfl⟩:=Option.map_eq_some_iff.mp hi
      have hxu:=List.mem_of_getElem? hx
      have hil:i<hs.length:=(List.getElem?_eq_some_iff.mp hx).1
      have etk:hs.take (i+1)=hs.take i++[x]:=by rw[List.take_add_one,hx];rfl
      refine⟨_,rfl,_,rfl,d,pf,hs,x,rfl,sm1 _ _ hd7,l12,C,hxu,fun lu p hp hlu=>?_,fun hno G2 s2=>?_⟩
      ·have n1:=Same.new (o:=HO.lst (p.map V.int)) hlu
       refine⟨rfl,_,rfl,iteN rfl ⟨_,rfl,by omega,?_,n1 _ _ hD',sm1.trans n1⟩⟩
       rw[hzn,etk]
       constructor
       ·intro h u hu
        rcases List.mem_append.mp hu with e | e
        ·exact h u e
        ·rw[List.mem_singleton.mp e];exact⟨_,hp⟩
       ·intro h u hu
        exact h u (List.mem_append.mpr (.inl hu))
      ·refine⟨rfl,_,rfl,xh ⟨_,rfl,s2 _ _ hD',zo (by omega),_,rfl,by simp;omega,?_,upd_same,(sm1.trans s2).updF hD1⟩⟩
       constructor
       ·intro z
        simp at z
       ·intro h
        exact absurd (h x (by rw[etk];simp)) hno
     ·rintro zs τ G1 ⟨o1,rfl,hzl,hzn,hD',sm1⟩
      rw[List.length_map,List.take_length] at hzn
      refine⟨Nat.zero_le _,fun pe hpe=>?_⟩
      have n1:=Same.new (o:=HO.lst []) hpe
      refine eqZ (SqL.of (n1 _ _ hD')) (SqL.of upd_same) (un 0 (by omega)) ⟨_,rfl,?_⟩
      have s8:=sm1.trans n1
      generalize upd G1 pe (HO.lst [])=H8 at *
      have y8:=y7.trans (Ext.same (l:=l) s8)
      clear n1 hpe hD' sm1 hD1
      cases zs with
      |cons z zs=>exact iteN rfl (keep H8 y8)
      |nil =>
       refine xh ?_
       have U:=UpP.of C fun x hx=>hzn.mp rfl x hx
       have hd8:=s8 _ _ hd7
       have y08:=y6.trans y8
       have hq8:=y08 _ _ hq nql
       have L8:=L.extX hX y08
       refine⟨_,rfl,q,rfl,⟨_,SqL.of hq8⟩,fun D2 hD2 _=>?_⟩
       refine zU (K:=K) (a:=q) (xs:=rs) (fun i zs τ H'=>∃ (o1:Option V) (cs:List (Int×Int)),τ=[o1,some (.ref d)]∧LnAt H' zs cs∧(∀ c∈cs,c∈ls)∧cs.length≤i∧H' D2=some (.lst zs)∧Same H8 H') ?_ ?_ ?_ ?_
       ·exact⟨none,[],rfl,⟨rfl,fun i r p h=>by simp at h⟩,(fun c hc=>(nomatch hc)),Nat.le_refl _,upd_same,Same.new hD2⟩
       ·rintro i zs τ H' ⟨o1,cs,_,_,_,_,_,sm1⟩
        exact SqL.of (sm1 _ _ hq8)
       ·rintro i v zs τ G2 hi ⟨o1,cs,rfl,Lz,hcs,hcl,hD',sm1⟩
        obtain⟨p,qa,hp,rfl,hqa⟩:=(L8.same sm1).get hi
        have hpl:=List.mem_of_getElem? hp
        have hil:i<ls.length:=(List.getElem?_eq_some_iff.mp hp).1
        refine⟨_,rfl,_,rfl,qa,_,0,_,rfl,rfl,SqT.of hqa,rfl,_,rfl,qa,_,1,_,rfl,rfl,SqT.of hqa,rfl,d,pf,paO pf,hs,p.1,p.2,rfl,sm1 _ _ hd8,l12,U,(wl.ok p hpl).1,(wl.ok p hpl).2.1,fun tj G3 htj htj3 s3=>?_⟩
        refine⟨tj,[_,_],rfl,SqT.of htj3,(by show 2≤100;decide),fun st S m hst=>?_⟩
        have n3:=Same.new (o:=HO.set S m) hst
        have s13:=s3.trans n3
        refine⟨st,S,m,rfl,upd_same,_,_,rfl,rfl,_,rfl,?_⟩
        have hzl2:=Lz.1
        refine ite2 (fun _=>?_) (fun _=>?_)
        ·refine⟨_,rfl,s13 _ _ hD',zo (by omega),_,cs++[p],rfl,((Lz.same s13).snoc (s13 _ _ hqa)).updN (s13 _ _ hD') (fun _ z=>by cases z),fun c hc=>?_,by simp;omega,upd_same,(sm1.trans s13).updF hD2⟩
         rcases List.mem_append.mp hc with e | e
         ·exact hcs c e
         ·rw[List.mem_singleton.mp e];exact hpl
        ·exact⟨_,cs,rfl,Lz.same s13,hcs,by omega,s13 _ _ hD',sm1.trans s13⟩
       ·rintro zs τ G2 ⟨o1,cs,rfl,Lz,hcs,hcl,hD',sm1⟩
        refine⟨D2,cs,zs,rfl,sm1 _ _ hd8,hD',Lz,fun b hb=>?_,by omega,y08.trans (Ext.same sm1)⟩
        unfold adB
        rw[Bool.or_eq_true]
        exact .inl (decide_eq_true (hcs b hb))
    ·rintro σ' H7 ⟨lb,bs,rb,rfl,hd7,hb7,Lb7,BL,bl7,y7⟩
     refine⟨_,rfl,_,rfl,(by show 2≤sizeLine;decide),fun pt hpt=>?_⟩
     have s8:=Same.new (o:=HO.tup [V.ref d,V.ref lb]) hpt
     exact k pt d lb pf bs rb _ upd_same (s8 _ _ hd7) (s8 _ _ hb7) (Lb7.same s8) C BL bl7 (y7.trans (Ext.same s8))
theorem zf0 {K:PySem.W.Frag}{H H':Hp}{a:Addr}{xs:List V}(h:SqL K H a xs) (s:Same H H'):SqL K H' a xs:=by
 rcases h with(h | ⟨o,h⟩) | h
 ·exact .inl (.inl (s _ _ h))
 ·exact .inl (.inr ⟨o,s _ _ h⟩)
 ·exact .inr h
def spLaw (K:PySem.W.Frag):Sp:=fun vs H Q _=>∃ (a:Addr) (ns:List Int),vs=[.ref a]∧SqL K H a (ns.map V.int)∧ns.length≤63∧∀ H',Q (.bl true) H'
theorem sp_law_of {K:PySem.W.Frag}{H:Hp}{a:Addr}{ns:List Int}(hl:ns.length≤63) (hO:Ui H) (hS:SqL K H a (ns.map V.int)):spLaw K [.ref a] H (fun v _=>v=.bl true) fun _ _ _=>False:=⟨a,ns,rfl,hS,hl,fun _=>rfl⟩
theorem ok_law (T:Txt w K mg a):FnOk P w K mg base CX0 26 a.f_qz a.d_qz ["_law_script"] (spLaw K):=by
 have c_qn:Callee P w K mg base "_law_cell_at" a.f_qn a.d_qn ["_law_script", "_law_k"] 1 (XA K):=⟨Ww T,T.g_qn,T.F_qn.kp,T.b_qn⟩
 have c_qo:Callee P w K mg base "_law_draws" a.f_qo a.d_qo ["_law_cell", "_law_many"] 1 Zu:=⟨YV T,T.g_qo,T.F_qo.kp,T.b_qo⟩
 have c_qq:Callee P w K mg base "_law_hands" a.f_qq a.d_qq ["_law_xs", "_law_most"] 2 zf5:=⟨zbq T,T.g_qq,T.F_qq.kp,T.b_qq⟩
 have c_qr:Callee P w K mg base "_law_lines" a.f_qr a.d_qr ["_law_xs", "_law_hands_here"] 2 zf4:=⟨zbp T,T.g_qr,T.F_qr.kp,T.b_qr⟩
 have c_qy:Callee P w K mg base "_law_any_way" a.f_qy a.d_qy ["_law_xs", "_law_hands_here", "_law_lines_here"] 3 zgb:=⟨zbw T,T.g_qy,T.F_qy.kp,T.b_qy⟩
 have c_qx:Callee P w K mg base "_law_lets" a.f_qx a.d_qx ["_law_hands_here", "_law_lines_here", "_law_parents", "_law_bridges"] 3 zf2:=⟨zbn T,T.g_qx,T.F_qx.kp,T.b_qx⟩
 have c_qi:Callee P w K mg base "lets" a.f_qi a.d_qi ["web", "way"] 9 (zf3 a):=⟨zbo T,T.g_qi,T.F_qi.kp,T.b_qi⟩
 have m_Way:Maker P w K mg base "Way" a.c_Way a.f_qA a.d_qA ["self", "parents", "bridges"] 6 (Vn a):=⟨VJ T,T.g_Way,T.mk_Way,T.b_qA⟩
 have m_Web:Maker P w K mg base "Web" a.c_Web a.f_qG a.d_qG ["self", "hands", "lines"] 4 (Vm a):=⟨VI T,T.g_Web,T.mk_Web,T.b_qG⟩
 refine T.F_qz.ok sc_qz (fun vs H Q E h=>?_) (fun cdv A outer s H vs Q E hr h=>?_)
 ·obtain⟨x,ns,rfl,_⟩:=h
  rfl
 ·obtain⟨sc,ns,rfl,hS,hlen,k⟩:=h
  refine zV (ze (zp (i:=1) sc_qz.nd rfl (Or.inl rfl) (zt c_qo (hr.mono (by omega)) (zS (zt c_qn (hr.mono (by omega)) (zh (zi 0) (zO zg zd))) (zO zg zd))))
   (ze (zp (i:=2) sc_qz.nd rfl (Or.inl rfl) (zt c_qq (hr.mono (by omega)) (zh (zi 1) (zO zg zd))))
   (ze (zp (i:=3) sc_qz.nd rfl (Or.inl rfl) (zt c_qr (hr.mono (by omega)) (zh (zi 1) (zh (zi 2) zd))))
   (ze (zp (i:=4) sc_qz.nd rfl (Or.inl rfl) (Xp m_Web (hr.mono (by omega)) (zh (zi 2) (zh (zi 3) zd))))
   (ze (zL PassesOwn.never rfl (zB (zu ZK (zF (zS (zt c_qn (hr.mono (by omega)) (zh (zi 0) (zO zg zd))) zd)) (xl vj (zi 0) (xa zg) (xa zg)))) (zm (i:=5) sc_qz.nd rfl (Or.inl rfl))
    (ze (Yu (zt c_qy (hr.mono (by omega)) (zS (zt c_qo (hr.mono (by omega)) (zh (zi 5) (zO zg zd))) (zh (zi 2) (zh (zi 3) zd)))) (yg rfl (zy (zm (i:=6) sc_qz.nd rfl (Or.inl rfl)) (zy (zm (i:=7) sc_qz.nd rfl (Or.inl rfl)) z5))))
    (ze (zp (i:=8) sc_qz.nd rfl (Or.inl rfl) (zt c_qi (hr.mono (by omega)) (zh (zi 4) (zS (Xp m_Way (hr.mono (by omega)) (zh (zi 6) (zh (zi 7) zd))) zd))))
    (zf (zx (wg (yi (zK (zE (zl zI (by rfl) T.n_isinstance zq (zh (zi 8) (zh (zW T.n_bool wB) zd))))) (zZ (zk wt (zi 8) (zt c_qx (hr.mono (by omega)) (zh (zi 2) (zh (zi 3) (zh (zi 6) (zh (zi 7) zd))))) (zv _)))))
     (zf (zj zD))
     zn)))))
   (zf (zj zD))))))) ?_
  refine⟨_,rfl,sc,ns,0,rfl,hS,by decide,fun c0=>?_⟩
  refine⟨c0,60,rfl,by decide,fun l H1 hl0 x1 y1=>?_⟩
  refine⟨_,rfl,l,rfl,x1,fun h hs H2 hh0 hh wh x2 y2=>?_⟩
  have hne:=x1.ne hh0
  refine⟨_,rfl,_,rfl,l,h,hs,rfl,x2,hh,hne,wh,fun q rs ls H3 hq0 hq L wl x3 y3=>?_⟩
  have S3:Same H H3:=fun b o e=>(y2.trans y3) b o (y1 b o e) fun z=>by rw[z,hl0] at e;cases e
  have hh3:=y3 _ _ hh hne
  refine⟨_,rfl,_,rfl,fun x wx nx ndx nex=>?_⟩
  have m1:Same H3 (upd (upd H3 wx (.own x)) x (.ins a.c_Web wx [])):=(Same.new ndx).updF nx
  refine⟨x,wx,h,q,rs,hs,ls,rfl,upd_same,m1 _ _ hh3,m1 _ _ hq,L.same m1,wh,wl,fun oh ol wd ad H4 foh fd fad x4 Wb4=>⟨rfl,?_⟩⟩
  have s4:Same H3 H4:=fun b o e=>x4 b o (m1 b o e) (ne_of_none e nx)
  have WP4:WbP a H4 x hs ls:=⟨wh,wl,wx,oh,ol,wd,ad,Wb4⟩
  have hh4:=s4 _ _ hh3
  have hq4:=s4 _ _ hq
  have L4:=L.same s4
  have hS4:=zf0 hS (S3.trans s4)
  clear Wb4 x4 m1 s4 hh3 hq L x3 y3 hh x2 y2 x1 y1 S3
  refine⟨_,rfl,sc,ns,1,rfl,hS4,by decide,fun c1=>?_⟩
  refine⟨(by show 1≤sizeLine;decide),fun p1 hp1=>?_⟩
  have s1:=Same.new (o:=HO.lst [V.int c1]) hp1
  refine⟨_,rfl,_,rfl,_,rfl,sc,_,rfl,zf0 hS4 s1,fun p2 hp2=>?_⟩
  have s2:=Same.new (o:=HO.lst (cutV (ns.map V.int) (some 2) (some 11))) hp2
  have hcl:=yy (ns.map V.int) (some 2) (some 11)
  rw[List.length_map] at hcl
  have hz:[V.int c1].length+(cutV (ns.map V.int) (some 2) (some 11)).length≤sizeLine:=by
   have:1000≤sizeLine:=by decide
   show 1+_≤_
   omega
  refine⟨p1,p2,_,_,rfl,rfl,s2 _ _ upd_same,upd_same,hz,fun p3 hp3=>?_⟩
  have s3:=Same.new (o:=HO.lst ([V.int c1]++cutV (ns.map V.int) (some 2) (some 11))) hp3
  refine⟨p3,rfl,⟨_,SqL.of upd_same⟩,?_⟩
  have hall:∀ (i:Nat) v,([V.int c1]++cutV (ns.map V.int) (some 2) (some 11))[i]?=some v→∃ c,v=V.int c:=fun i v hi=>by
   cases i with
   |zero=>exact⟨c1,by cases hi;rfl⟩
   |succ i=>exact Xl (i:=i) (by simpa using hi)
  have S5:=s1.trans (s2.trans s3)
  have h35:=upd_same (H:=upd (upd H4 p1 (HO.lst [V.int c1])) p2 (HO.lst (cutV (ns.map V.int) (some 2) (some 11)))) (a:=p3) (o:=HO.lst ([V.int c1]++cutV (ns.map V.int) (some 2) (some 11)))
  generalize upd (upd (upd H4 p1 (HO.lst [V.int c1])) p2 (HO.lst (cutV (ns.map V.int) (some 2) (some 11)))) p3 (HO.lst ([V.int c1]++cutV (ns.map V.int) (some 2) (some 11)))=H5 at *
  generalize hxs:[V.int c1]++cutV (ns.map V.int) (some 2) (some 11)=xs at *
  refine for_list (K:=K) (a:=p3) (xs:=xs) (fun i σ H'=>∃ (o5 o6 o7 o8:Option V),σ=[some (.ref sc),some (.ref l),some (.ref h),some (.ref q),some (.ref x),o5,o6,o7,o8]∧Same H5 H') ?_ ?_ ?_ ?_
  ·exact⟨none,none,none,none,rfl,fun _ _ h=>h⟩
  ·rintro i σ H' _ ⟨_,_,_,_,_,sm⟩
   exact SqL.of (sm _ _ h35)
  ·rintro i v σ G hi ⟨o5,o6,o7,o8,rfl,sm⟩
   obtain⟨c,rfl⟩:=hall i v hi
   have S6:=S5.trans sm
   refine⟨_,rfl,c,90,rfl,by decide,fun lx G1 hl0 x1 y1=>?_⟩
   have nle:∀ {b:Addr}{o:HO},H4 b=some o→b≠lx:=fun {b o} e z=>by
    have:=S6 _ _ e
    rw[z,hl0] at this
    cases this
   have S7:=S6.trans y1
   refine⟨_,rfl,_,rfl,lx,h,q,rs,hs,ls,rfl,x1,S7 _ _ hh4,nle hh4,S7 _ _ hq4,nle hq4,L4.same S7,wh,wl,fun t d lb pf bs rb G2 ht hd hlb Lb C BL l200 y2=>?_⟩
   have s2:Same G G2:=fun b o e=>y2 b o (y1 b o e) fun z=>by rw[z,hl0] at e;cases e
   refine⟨t,_,rfl,SqT.of ht,rfl,_,_,rfl,_,_,rfl,rfl,?_⟩
   have nd:=Z8 wh
   refine⟨_,rfl,_,rfl,_,rfl,fun y dx ny ndx' ney=>?_⟩
   have m1:Same G2 (upd (upd G2 dx (.own y)) y (.ins a.c_Way dx [])):=(Same.new ndx').updF ny
   refine⟨y,dx,d,lb,pf,hs,rb,bs,rfl,upd_same,m1 _ _ hd,nd,wh.l12,m1 _ _ hlb,Lb.same m1,l200,fun dp ob G3 fdp fob x3 W3=>⟨rfl,?_⟩⟩
   have s3:Same G2 G3:=fun b o e=>x3 b o (m1 b o e) (ne_of_none e ny)
   have S8:=S6.trans (s2.trans s3)
   refine⟨x,y,dx,dp,ob,hs,hs,ls,bs,pf,rfl,WP4.same S8,W3,fun x=>Iff.rfl,C,BL,fun b G4 hb s4=>?_⟩
   refine⟨_,rfl,_,_,_,_,_,rfl,rfl,.bl b,T.k_tbool_tbool,_,rfl,iteN rfl ?_⟩
   have s24:=s3.trans s4
   have S9:=S8.trans s4
   refine⟨_,rfl,_,rfl,_,rfl,_,rfl,_,rfl,h,q,d,lb,rs,rb,hs,hs,ls,bs,pf,rfl,S9 _ _ hh4,S9 _ _ hq4,L4.same S9,s24 _ _ hd,s24 _ _ hlb,Lb.same s24,wh,wl,nd,fun x=>Iff.rfl,C,BL,l200,fun b' G5 hb' s5=>?_⟩
   have e:b=b':=by rw[Bool.eq_iff_iff,hb,hb']
   subst e
   exact⟨rfl,_,rfl,iteN (by simp) ⟨_,_,_,_,rfl,sm.trans (s2.trans (s24.trans s5))⟩⟩
  ·rintro σ H0 ⟨o5,o6,o7,o8,rfl,sm⟩
   exact k H0
end
end K04
noncomputable section
def PySem.W.Fast.tw12282711429209321588:=0
def PySem.W.Fast.tw14633931826345236324:=0
def PySem.W.Fast.tw8856144728478018897:=0
def PySem.W.Fast.tw17062198468877432609:=0
def PySem.W.Fast.tw10598372733321371305:=0
def PySem.W.Fast.tw11616086253799572649:=0
def PySem.W.Fast.tw17758467707605542250:=0
def PySem.W.Fast.tw14338876466950056905:=0
def PySem.W.Fast.tw6496138341281078435:=0
def PySem.W.Fast.tw6216741656489410486:=0
def PySem.W.Fast.tw6123116592370679677:=0
def PySem.W.Fast.tw16627384631628985244:=0
def PySem.W.Fast.tw1688954305291010661:=0
def PySem.W.Fast.tw8697170791317315040:=0
def PySem.W.Fast.tw10579265108948214604:=0
def PySem.W.Fast.tw9532633636177338432:=0
def PySem.W.Fast.tw3299963512692046226:=0
def PySem.W.Fast.tw9316987155075272405:=0
def PySem.W.Fast.tw5518260327533038333:=0
def PySem.W.Fast.tw13793158388811680729:=0
def PySem.W.Fast.tw10330366778594210143:=0
def PySem.W.Fast.tw2679819212127310782:=0
def PySem.W.Fast.tw1689613642844212636:=0
def PySem.W.Fast.tw9031915412781655692:=0
def PySem.W.Fast.tw3858109914732617049:=0
namespace Hd
open PySem PySem.W PySem.Calls PyProof.Rows
abbrev pw:=PySem.Challenge.pw_beatless_k29_any_parents_and_bridges
variable (P:Params)
def tt {α:Type}(_:α):Bool:=true
def S (i:Nat):Stmt:=pw.main.body.getD i (.Pass ⟨0,0,0,0⟩)
def fd (n q:Str) (s:Stmt) (g:Addr) (cl:List (Str×Addr)) (d k c m:Value) (an:Option Addr) (cd ct:Value) (b:Addr):FuncData :=
 ⟨n,q,L2.defArgs s,.stmts (L2.defBody s),L2.defScope s,g,cl,d,k,c,m,an,cd,ct,b⟩
abbrev an:Option Value:=(Option.some (.ref 6))
def env:Env:={ scope:=pw.main.scope,locals:=mainNs,globals:=mainNs,cells:=[],code:=(.ref 13),frame:=some 14 }
abbrev bE:List Stmt:=behindTheImports pw
abbrev cE:Code:=.body bE env
abbrev qE:Pos:=(Pos.mk 0 0 0 0)
abbrev B:List Frame:=[topFrame qE]
def s0 (w:World) (os:OsState):Shared:=⟨boot_heap w.params,⟨[]⟩,boot_drawn,boot_toks,os⟩
def zs:List Str:=List.map Str.ofString ["/claim/cut.py", "<module>", "__main__", "__name__", "beatless.ways", "__doc__", "__package__", "__loader__", "__spec__", "__annotations__", "__builtins__", "__file__", "__cached__", "_wall", "BeatlessError", "NoWeb", "is_whole", "copied", "k", "__module__", "beatless.errors", "__qualname__", "__firstlineno__", "__static_attributes__", "__weakref__", "value", "beatless.wholes", "Way", "are_parents", "come_to_leaders", "__init__", "parent_of", "all_parents", "all_bridges", "path_up", "leader", "depth_of", "depth", "children", "bridges_at", "self", "parents", "bridges", "Way.__init__", "hand", "each", "parent", "Way.parent_of", "Way.all_parents", "Way.all_bridges", "path", "above", "Way.path_up", "Way.leader", "Way.depth_of", "Way.depth", "Way.children", "Way.bridges_at", "own_bridges", "own_parents", "__dict__", "web", "way", "beatless.webs", "is_bridge", "are_bridges", "is_grounded", "first_joins", "lets", "MOST_HANDS", "LAST_HAND", "are_hands", "is_line", "are_lines", "near_by_hand", "bridge", "seen", "lines", "found", "one", "other", "leaders", "bridged", "hands", "ahead", "line", "near", "law_beatless_k29_any_parents_and_bridges", "Web", "_law_cell_at", "_law_draws", "_law_take", "_law_hands", "has_hand", "has_line", "neighbours", "groups", "group_of", "Web.__init__", "Web.hands", "Web.lines", "Web.has_hand", "Web.has_line", "Web.neighbours", "Web.groups", "Web.group_of", "own_hands", "own_lines", "_law_script", "_law_k", "_law_cell", "_law_many", "_law_found", "_law_rest", "_law_number", "_law_mixed", "_law_xs", "_law_size", "_law_lines", "_law_near", "_law_up", "_law_both", "_law_is_whole", "_law_is_line", "_law_lets", "_law_any_way", "law", "_law_hands_here", "_law_way", "_law_j", "_law_near_here", "_law_draw", "_law_at", "_law_parents", "_law_hand", "_law_one", "_law_other", "_law_thing", "_law_lines_here", "_law_web", "_law_bridges"]
def s (n:Nat):Str:=zs.getD n ⟨#[]⟩
def k0:Value:=.type "tuple"
def k1:Value:=.type "code"
def k2:Value:=.type "function"
def k3:Value:=.type "frame"
def k4:Value:=.type "dict"
def k5:Value:=.builtin "__main__.__loader__#opaque"
def k6:Value:=.type "ValueError"
def k7:Value:=.type "builtin_function_or_method"
def k8:Value:=.builtin "type.__prepare__"
def k9:Value:=.type "type"
def k10:Value:=.type "Exception"
def k11:Value:=.type "BaseException"
def k12:Value:=.type "object"
def k13:Value:=.builtin "ValueError.__new__"
def k14:Value:=.type "getset_descriptor"
def k15:Value:=.builtin "ExceptionGroup.__weakref__"
def k16:Value:=.type "super"
def k17:Value:=.builtin "object.__init_subclass__"
def k18:Value:=.builtin "object.__new__"
def k19:Value:=.builtin "function.__dict__"
def k20:Value:=.builtin "function.__dict__#set"
instance (n:Nat):OfNat Value n:=⟨.ref n⟩
def iv (n:Int):Value:=.int n 0
def sv (n:Nat) (t:Tok):Value:=.str (s n) t
def en (P:Params) (x:Nat) (t:Tok) (v:Value):DictEntry:=⟨PyData.keyHash P (s x),sv x t,v⟩
def tO (l:Array Value):Obj:=Obj.mk k0 .none (Data.seq l 0) #[]
def vO (l:Array Value):Obj:=Obj.mk .none .none (Data.fields l) #[]
def cO (n q:Nat) (a b c:Tok) (l m:Int) (k:Int) (r1 r2 r3 r4 r5:Addr) (x:Int) (y:Tok):Obj:=Obj.mk k1 .none (Data.fields #[(sv n a),(sv q b),(.str (s 0) c),(.int l 0),(.int m 0),(.int 0 0),(.int 0 0),(.int k 0),(.ref r1),(.bool true),(.int 181 0),(.ref r2),.none,(.ref r3),(.ref r4),(.ref r5),(.int x 0),(.int l 0),(.str (s 0) y)]) #[]
def uO (n q:Nat) (z:Stmt) (m:Nat) (t:Tok) (r:Addr):Obj:=Obj.mk k2 .none (Data.func (fd (s n) (s q) z 3 [] .none .none .none (sv m t) .none (.ref r) .none 0)) #[]
def gO (n q:Nat) (z:Stmt):Obj:=Obj.mk .none .none (Data.func (fd (s n) (s q) z 0 [] .none .none .none .none .none .none .none 0)) #[]
def o0:=tO #[]
def o1:=vO #[]
def o2:=Obj.mk k1 .none (Data.fields #[(sv 1 182),(sv 1 183),(sv 0 184),(iv 1),(iv 0),(iv 0),(iv 0),(iv 0),11,(.bool false),(iv 181),12,.none,.none,.none,.none,(iv 185),(iv 1),(sv 0 186)]) #[]
def o3:=Obj.mk k3 .none Data.plain #[(some 13),(some 3),(some 3),.none,(some (sv 2 164)),.none,(some 0)]
abbrev N:=@BT.node
def t14:=N (boot_o_0 P) (N (boot_o_1 P) (N (boot_o_3 P) (N (boot_o_7 P) .nil .nil) (N o0 .nil .nil)) (N (boot_o_5 P) (N (boot_o_9 P) .nil .nil) (N o2 .nil .nil))) (N (boot_o_2 P) (N (boot_o_4 P) (N (boot_o_8 P) .nil .nil) (N o1 .nil .nil)) (N (boot_o_6 P) (N (boot_o_10 P) .nil .nil) (N o3 .nil .nil)))
def sa (w:World) (os:OsState):SharedT:=⟨(t14 w.params),15,(Life.mk [] [] [] 0 [] [] false #[] [] 0 false false false 0 [2000,10,10] false 0 true [] [] 0 false),⟨[]⟩,(Drawn.mk 0 0 0 0),187,os⟩
def La (w:World) (os:OsState):Option (Shared×Thread):=topGo treeTable pw w 11 an 12 (s0 w os) (topStub pw)
def Ra (w:World) (os:OsState):Option (Shared×Thread):=some ((sa w os).abs,⟨denote treeTable cE,cE,(Pos.mk 0 0 0 0),B⟩)
theorem qa:tt (Hd.La,Hd.Ra)=true:=by k_qdec
theorem ra:∀ w,Fast.tw11367235000924431832 w=Fast.tw15912052731592885781 w:=fun w=>by kernel_rfl
theorem ea (w:World) (os:OsState):Hd.La w os=Hd.Ra w os:=((congrFun (congrFun Fast.te11367235000924431832 w) os).trans (congrFun (ra w) os)).trans (congrFun (congrFun Fast.te15912052731592885781 w) os).symm
def sb0 (w:World) (os:OsState):SharedT:=⟨(t14 w.params),15,(Life.mk [] [] [] 0 [] [] false #[] [] 0 false false false 0 [2000,10,10] false 0 true [] [] 0 false),⟨[]⟩,(Drawn.mk 0 0 0 0),187,os⟩
def Lb (w:World) (os:OsState):Option (Flow×SharedT×Code×Pos):=segRunT treeTable pw w 11 an 1 1 (sa w os) (blockOf bE env cE (Pos.mk 0 0 0 0) B)
def Rb (w:World) (os:OsState):Option (Flow×SharedT×Code×Pos):=some (.next,sb0 w os,cE,(Pos.mk 0 0 0 0))
theorem qb:tt (Hd.Lb,Hd.Rb)=true:=by k_qdec
theorem rb:∀ w,Fast.tw16430817790641568776 w=Hd.Rb w:=fun w=>by kernel_rfl
theorem eb (w:World) (os:OsState):Hd.Lb w os=Hd.Rb w os:=(congrFun (congrFun Fast.te16430817790641568776 w) os).trans (congrFun (rb w) os)
def zfZ:List Stmt:=[S 0,S 1,S 2,S 3,S 4,S 5,S 6,S 7]
def o4:=Obj.mk k4 .none (Data.dict #[en P 3 165 (sv 4 239),en P 5 166 .none,en P 6 167 .none,en P 7 168 k5,en P 8 169 .none,en P 9 170 6,en P 10 171 4,en P 11 173 (sv 0 172),en P 12 174 .none,en P 13 193 21,en P 14 213 31,en P 15 229 44,en P 16 238 53,en P 17 246 58] 14) #[]
def o5:=vO #[(iv 1),(iv 0),20,(iv 5),(iv 0),27,(iv 7),(iv 0),40,(iv 10),(iv 0),52,(iv 13),(iv 0),57]
def o6:=tO #[]
def o7:=vO #[]
def o8:=tO #[(sv 18 190)]
def o9:=tO #[]
def o10:=gO 13 13 (S 0)
def o11:=cO 13 13 187 188 189 1 1 3 15 16 17 18 19 191 192
def o12:=uO 13 13 (S 0) 2 164 20
def o13:=tO #[k6]
def o14:=Obj.mk k7 .none (Data.fields #[k8,k9]) #[]
def o15:=Obj.mk k4 .none (Data.dict #[en P 19 203 (sv 20 194),en P 21 205 (sv 14 204),en P 22 207 (.int 5 206),en P 23 208 29] 4) #[]
def o16:=tO #[]
def o17:=vO #[]
def o18:=Obj.mk k1 .none (Data.fields #[(sv 14 198),(sv 14 199),(sv 0 200),(iv 5),(iv 0),(iv 0),(iv 0),(iv 0),25,(.bool false),(iv 181),26,.none,.none,.none,.none,(iv 201),(iv 5),(sv 0 202)]) #[]
def o19:=Obj.mk k3 .none Data.plain #[(some 27),(some 3),(some 24),.none,(some (sv 20 194)),.none,(some 0)]
def o20:=tO #[]
def o21:=Obj.mk k4 .none (Data.dict #[en P 19 203 (sv 20 194),en P 22 207 (.int 5 206),en P 23 208 29,en P 24 210 32,en P 5 211 .none] 3) #[]
def o22:=Obj.mk k9 .none (Data.cls (ClassData.mk (s 14) [k6] [31,k6,k10,k11,k12] 30 (s 14) true [] [44] false .none false)) #[(some 22),.none,(some (sv 14 196)),(some (sv 14 204)),(some k13),(some (.bool true))]
def o23:=Obj.mk k14 .none (Data.fields #[(sv 24 209),31,k15,.none]) #[]
def o24:=Obj.mk k16 .none (Data.fields #[31,31,31]) #[]
def o25:=Obj.mk k7 .none (Data.fields #[k17,31]) #[]
def o26:=tO #[31]
def o27:=Obj.mk k7 .none (Data.fields #[k8,k9]) #[]
def o28:=Obj.mk k4 .none (Data.dict #[en P 19 221 (sv 20 194),en P 21 223 (sv 15 222),en P 22 225 (.int 7 224),en P 23 226 42] 4) #[]
def o29:=tO #[]
def o30:=vO #[]
def o31:=Obj.mk k1 .none (Data.fields #[(sv 15 216),(sv 15 217),(sv 0 218),(iv 7),(iv 0),(iv 0),(iv 0),(iv 0),38,(.bool false),(iv 181),39,.none,.none,.none,.none,(iv 219),(iv 7),(sv 0 220)]) #[]
def o32:=Obj.mk k3 .none Data.plain #[(some 40),(some 3),(some 37),.none,(some (sv 20 194)),.none,(some 0)]
def o33:=tO #[]
def o34:=Obj.mk k4 .none (Data.dict #[en P 19 221 (sv 20 194),en P 22 225 (.int 7 224),en P 23 226 42,en P 5 227 .none] 2) #[]
def o35:=Obj.mk k9 .none (Data.cls (ClassData.mk (s 15) [31] [44,31,k6,k10,k11,k12] 43 (s 15) true [] [] false .none false)) #[(some 35),.none,(some (sv 15 214)),(some (sv 15 222)),(some k13),(some (.bool true))]
def o36:=Obj.mk k16 .none (Data.fields #[44,44,44]) #[]
def o37:=Obj.mk k7 .none (Data.fields #[k17,44]) #[]
def o38:=tO #[]
def o39:=vO #[]
def o40:=tO #[(sv 25 235)]
def o41:=tO #[]
def o42:=gO 16 16 (S 5)
def o43:=cO 16 16 232 233 234 10 1 3 47 48 49 50 51 236 237
def o44:=uO 16 16 (S 5) 26 230 52
def o45:=tO #[]
def o46:=vO #[]
def o47:=gO 17 17 (S 7)
def o48:=Obj.mk k1 .none (Data.fields #[(sv 17 241),(sv 17 242),(sv 0 243),(iv 13),(iv 1),(iv 0),(iv 0),(iv 3),54,(.bool true),(iv 181),55,.none,.none,.none,56,(iv 244),(iv 13),(sv 0 245)]) #[]
def o49:=uO 17 17 (S 7) 4 239 57
def t42:=N (boot_o_5 P) (N (boot_o_9 P) (N o8 (N o24 .nil .nil) (N o40 .nil .nil)) (N o16 (N o32 .nil .nil) (N o48 .nil .nil))) (N o2 (N o12 (N (o28 P) .nil .nil) (N o44 .nil .nil)) (N o20 (N o36 .nil .nil) .nil))
def t71:=N (boot_o_6 P) (N (boot_o_10 P) (N o9 (N o25 .nil .nil) (N o41 .nil .nil)) (N o17 (N o33 .nil .nil) (N o49 .nil .nil))) (N o3 (N o13 (N o29 .nil .nil) (N o45 .nil .nil)) (N (o21 P) (N o37 .nil .nil) .nil))
def t72:=N (boot_o_2 P) (N (boot_o_4 P) (N (boot_o_8 P) (N o7 (N o23 .nil .nil) (N o39 .nil .nil)) (N (o15 P) (N o31 .nil .nil) (N o47 .nil .nil))) (N o5 (N o11 (N o27 .nil .nil) (N o43 .nil .nil)) (N o19 (N o35 .nil .nil) .nil))) (t71 P)
def t73:=N (boot_o_0 P) (N (boot_o_1 P) (N (o4 P) (N (boot_o_7 P) (N o6 (N o22 .nil .nil) (N o38 .nil .nil)) (N o14 (N o30 .nil .nil) (N o46 .nil .nil))) (N o0 (N o10 (N o26 .nil .nil) (N o42 .nil .nil)) (N o18 (N (o34 P) .nil .nil) .nil))) (t42 P)) (t72 P)
def sb1 (w:World) (os:OsState):SharedT:=⟨(t73 w.params),59,(Life.mk [] [] [] 0 [] [] false #[] [] 0 false false false 0 [2000,10,10] false 0 true [] [] 0 false),⟨[]⟩,(Drawn.mk 0 0 0 0),247,os⟩
def L0 (w:World) (os:OsState):Option (Flow×SharedT×Code×Pos):=segRunT treeTable pw w 11 an 1 511 (sb0 w os) (piecesOf zfZ env cE (Pos.mk 0 0 0 0) B)
def R0 (w:World) (os:OsState):Option (Flow×SharedT×Code×Pos):=some (.next,sb1 w os,cE,(Pos.mk 13 0 20 16))
theorem q0:tt (Hd.L0,Hd.R0)=true:=by k_qdec
theorem r0:∀ w,Fast.tw4453942571644881324 w=Hd.R0 w:=fun w=>by kernel_rfl
theorem e0 (w:World) (os:OsState):Hd.L0 w os=Hd.R0 w os:=(congrFun (congrFun Fast.te4453942571644881324 w) os).trans (congrFun (r0 w) os)
def zfY:List Stmt:=[S 8,S 9,S 10]
def o50:=Obj.mk k4 .none (Data.dict #[en P 3 165 (sv 4 239),en P 5 166 .none,en P 6 167 .none,en P 7 168 k5,en P 8 169 .none,en P 9 170 6,en P 10 171 4,en P 11 173 (sv 0 172),en P 12 174 .none,en P 13 193 21,en P 14 213 31,en P 15 229 44,en P 16 238 53,en P 17 246 58,en P 27 350 138,en P 28 360 149,en P 29 369 156] 17) #[]
def o51:=vO #[(iv 1),(iv 0),20,(iv 5),(iv 0),27,(iv 7),(iv 0),40,(iv 10),(iv 0),52,(iv 13),(iv 0),57,(iv 21),(iv 0),64,(iv 61),(iv 0),148,(iv 70),(iv 0),155]
def o52:=tO #[]
def o53:=Obj.mk k7 .none (Data.fields #[k8,k9]) #[]
def o54:=Obj.mk k4 .none (Data.dict #[en P 19 254 (sv 4 239),en P 21 256 (sv 27 255),en P 22 258 (.int 21 257),en P 30 267 72,en P 31 277 79,en P 32 284 86,en P 33 291 93,en P 34 301 100,en P 35 309 107,en P 36 317 114,en P 37 324 121,en P 38 332 128,en P 39 340 135,en P 23 343 136] 14) #[]
def o55:=tO #[]
def o56:=vO #[(iv 23),(iv 4),71,(iv 27),(iv 4),78,(iv 33),(iv 4),85,(iv 36),(iv 4),92,(iv 39),(iv 4),99,(iv 47),(iv 4),106,(iv 50),(iv 4),113,(iv 53),(iv 4),120,(iv 56),(iv 4),127,(iv 59),(iv 4),134]
def o57:=Obj.mk k1 .none (Data.fields #[(sv 27 249),(sv 27 250),(sv 0 251),(iv 21),(iv 0),(iv 0),(iv 0),(iv 0),62,(.bool false),(iv 181),63,.none,.none,.none,.none,(iv 252),(iv 21),(sv 0 253)]) #[]
def o58:=Obj.mk k3 .none Data.plain #[(some 64),(some 3),(some 61),.none,(some (sv 4 239)),.none,(some 0)]
def o59:=tO #[]
def o60:=vO #[]
def o61:=tO #[(sv 40 262),(sv 41 263),(sv 42 264)]
def o62:=tO #[]
def o63:=gO 30 43 (L2.inClass (S 8) 0)
def o64:=cO 30 43 259 260 261 23 3 3 66 67 68 69 70 265 266
def o65:=uO 30 43 (L2.inClass (S 8) 0) 4 239 71
def o66:=tO #[]
def o67:=vO #[]
def o68:=tO #[(sv 40 271),(sv 44 272),(sv 45 273),(sv 46 274)]
def o69:=tO #[]
def o70:=gO 31 47 (L2.inClass (S 8) 1)
def o71:=cO 31 47 268 269 270 27 2 3 73 74 75 76 77 275 276
def o72:=uO 31 47 (L2.inClass (S 8) 1) 4 239 78
def o73:=tO #[]
def o74:=vO #[]
def o75:=tO #[(sv 40 281)]
def o76:=tO #[]
def o77:=gO 32 48 (L2.inClass (S 8) 2)
def o78:=cO 32 48 278 279 280 33 1 3 80 81 82 83 84 282 283
def o79:=uO 32 48 (L2.inClass (S 8) 2) 4 239 85
def o80:=tO #[]
def o81:=vO #[]
def o82:=tO #[(sv 40 288)]
def o83:=tO #[]
def o84:=gO 33 49 (L2.inClass (S 8) 3)
def o85:=cO 33 49 285 286 287 36 1 3 87 88 89 90 91 289 290
def o86:=uO 33 49 (L2.inClass (S 8) 3) 4 239 92
def o87:=tO #[]
def o88:=vO #[]
def o89:=tO #[(sv 40 295),(sv 44 296),(sv 50 297),(sv 51 298)]
def o90:=tO #[]
def o91:=gO 34 52 (L2.inClass (S 8) 4)
def o92:=cO 34 52 292 293 294 39 2 3 94 95 96 97 98 299 300
def o93:=uO 34 52 (L2.inClass (S 8) 4) 4 239 99
def o94:=tO #[]
def o95:=vO #[]
def o96:=tO #[(sv 40 305),(sv 44 306)]
def o97:=tO #[]
def o98:=gO 35 53 (L2.inClass (S 8) 5)
def o99:=cO 35 53 302 303 304 47 2 3 101 102 103 104 105 307 308
def WX:=uO 35 53 (L2.inClass (S 8) 5) 4 239 106
def WW:=tO #[]
def VZ:=vO #[]
def WV:=tO #[(sv 40 313),(sv 44 314)]
def WU:=tO #[]
def VY:=gO 36 54 (L2.inClass (S 8) 6)
def WT:=cO 36 54 310 311 312 50 2 3 108 109 110 111 112 315 316
def WS:=uO 36 54 (L2.inClass (S 8) 6) 4 239 113
def WR:=tO #[]
def VX:=vO #[]
def VW:=tO #[(sv 40 321)]
def VV:=tO #[]
def zaI:=gO 37 55 (L2.inClass (S 8) 7)
def VU:=cO 37 55 318 319 320 53 1 3 115 116 117 118 119 322 323
def VT:=uO 37 55 (L2.inClass (S 8) 7) 4 239 120
def VS:=tO #[]
def zaH:=vO #[]
def WQ:=tO #[(sv 40 328),(sv 44 329)]
def WO:=tO #[]
def VR:=gO 38 56 (L2.inClass (S 8) 8)
def zaG:=cO 38 56 325 326 327 56 2 3 122 123 124 125 126 330 331
def zaF:=uO 38 56 (L2.inClass (S 8) 8) 4 239 127
def zaE:=tO #[]
def zdE:=vO #[]
def zaD:=tO #[(sv 40 336),(sv 44 337)]
def zaC:=tO #[]
def zdD:=gO 39 57 (L2.inClass (S 8) 9)
def zaB:=cO 39 57 333 334 335 59 2 3 129 130 131 132 133 338 339
def zaA:=uO 39 57 (L2.inClass (S 8) 9) 4 239 134
def zaz:=tO #[(sv 58 341),(sv 59 342)]
def zay:=Obj.mk k4 .none (Data.dict #[en P 19 254 (sv 4 239),en P 22 258 (.int 21 257),en P 30 267 72,en P 31 277 79,en P 32 284 86,en P 33 291 93,en P 34 301 100,en P 35 309 107,en P 36 317 114,en P 37 324 121,en P 38 332 128,en P 39 340 135,en P 23 343 136,en P 60 345 139,en P 24 347 140,en P 5 348 .none] 4) #[]
def zax:=Obj.mk k9 .none (Data.cls (ClassData.mk (s 27) [k12] [138,k12] 137 (s 27) true [] [] false .none false)) #[.none,.none,(some (sv 27 247)),(some (sv 27 255)),(some k18),(some (.bool true))]
def zaw:=Obj.mk k14 .none (Data.fields #[(sv 60 344),138,k19,k20]) #[]
def zav:=Obj.mk k14 .none (Data.fields #[(sv 24 346),138,k15,.none]) #[]
def zdC:=Obj.mk k16 .none (Data.fields #[138,138,138]) #[]
def zdB:=Obj.mk k7 .none (Data.fields #[k17,138]) #[]
def zau:=tO #[]
def zdA:=vO #[]
def zat:=tO #[(sv 61 354),(sv 41 355),(sv 44 356),(sv 46 357)]
def zas:=tO #[]
def zdz:=gO 28 28 (S 9)
def zar:=cO 28 28 351 352 353 61 2 3 143 144 145 146 147 358 359
def zaq:=uO 28 28 (S 9) 4 239 148
def zap:=tO #[]
def zdy:=vO #[]
def zao:=tO #[(sv 61 364),(sv 62 365),(sv 44 366)]
def zan:=tO #[]
def zdx:=gO 29 29 (S 10)
def zam:=cO 29 29 361 362 363 70 2 3 150 151 152 153 154 367 368
def zal:=uO 29 29 (S 10) 4 239 155
def t74:=N zaG .nil .nil
def t78:=N zau .nil .nil
def t83:=N zaA .nil .nil
def t87:=N zdy .nil .nil
def t93:=N zaD .nil .nil
def t97:=N zdz .nil .nil
def zfU:=N zaw .nil .nil
def zfT:=N zam .nil .nil
def zhI:=N o0 (N o10 (N o26 (N o60 t93 .nil) (N o92 .nil .nil)) (N o42 (N o76 t97 .nil) (N WR .nil .nil))) (N o18 (N (o34 P) (N o68 zfU .nil) (N WX .nil .nil)) (N o52 (N o84 zfT .nil) (N zaH .nil .nil)))
def zfS:=N zaE .nil .nil
def zfR:=N zat .nil .nil
def zfQ:=N (zay P) .nil .nil
def zfP:=N zan .nil .nil
def zfO:=N zdD .nil .nil
def zfN:=N zaq .nil .nil
def zfM:=N zdC .nil .nil
def zhH:=N o2 (N o12 (N (o28 P) (N o62 zfO .nil) (N o94 .nil .nil)) (N o44 (N o78 zfN .nil) (N VW .nil .nil))) (N o20 (N o36 (N o70 zfM .nil) (N VZ .nil .nil)) (N (o54 P) (N o86 .nil .nil) (N WO .nil .nil)))
def zhG:=N (boot_o_5 P) (N (boot_o_9 P) (N o8 (N o24 (N o58 zfS .nil) (N o90 .nil .nil)) (N o40 (N o74 zfR .nil) (N WT .nil .nil))) (N o16 (N o32 (N o66 (zfQ P) .nil) (N o98 .nil .nil)) (N o48 (N o82 zfP .nil) (N VT .nil .nil)))) (zhH P)
def zfL:=N zaF .nil .nil
def zfK:=N zdA .nil .nil
def zfJ:=N zaz .nil .nil
def zfI:=N zao .nil .nil
def zfH:=N zaC .nil .nil
def zfG:=N zar .nil .nil
def zfF:=N zav .nil .nil
def zfE:=N o85 (N zal .nil .nil) .nil
def zhF:=N o51 (N o11 (N o27 (N o61 zfH .nil) (N o93 .nil .nil)) (N o43 (N o77 zfG .nil) (N VX .nil .nil))) (N o19 (N o35 (N o69 zfF .nil) (N WW .nil .nil)) (N o53 zfE (N WQ .nil .nil)))
def zfD:=N zdE .nil .nil
def zfC:=N zas .nil .nil
def zfB:=N zax .nil .nil
def zfA:=N zdx .nil .nil
def zfz:=N zaB .nil .nil
def zfy:=N zap .nil .nil
def zfx:=N zdB .nil .nil
def zhE:=N o3 (N o13 (N o29 (N o63 zfz .nil) (N o95 .nil .nil)) (N o45 (N o79 zfy .nil) (N VV .nil .nil))) (N (o21 P) (N o37 (N o71 zfx .nil) (N WV .nil .nil)) (N o55 (N o87 .nil .nil) (N VR .nil .nil)))
def zhD:=N (boot_o_6 P) (N (boot_o_10 P) (N o9 (N o25 (N o59 zfD .nil) (N o91 .nil .nil)) (N o41 (N o75 zfC .nil) (N WS .nil .nil))) (N o17 (N o33 (N o67 zfB .nil) (N o99 .nil .nil)) (N o49 (N o83 zfA .nil) (N VS .nil .nil)))) (zhE P)
def zhC:=N (boot_o_2 P) (N (boot_o_4 P) (N (boot_o_8 P) (N o7 (N o23 (N o57 zfL .nil) (N o89 .nil .nil)) (N o39 (N o73 zfK .nil) (N VY .nil .nil))) (N (o15 P) (N o31 (N o65 zfJ .nil) (N o97 .nil .nil)) (N o47 (N o81 zfI .nil) (N VU .nil .nil)))) zhF) (zhD P)
def zhB:=N (boot_o_0 P) (N (boot_o_1 P) (N (o50 P) (N (boot_o_7 P) (N o6 (N o22 (N o56 t74 .nil) (N o88 .nil .nil)) (N o38 (N o72 t78 .nil) (N WU .nil .nil))) (N o14 (N o30 (N o64 t83 .nil) (N o96 .nil .nil)) (N o46 (N o80 t87 .nil) (N zaI .nil .nil)))) (zhI P)) (zhG P)) (zhC P)
def sb2 (w:World) (os:OsState):SharedT:=⟨(zhB w.params),157,(Life.mk [] [] [] 0 [] [] false #[] [] 0 false false false 0 [2000,10,10] false 0 true [] [] 0 false),⟨[]⟩,(Drawn.mk 0 0 0 0),370,os⟩
def L1 (w:World) (os:OsState):Option (Flow×SharedT×Code×Pos):=segRunT treeTable pw w 11 an 1 577 (sb1 w os) (piecesOf zfY env cE (Pos.mk 13 0 20 16) B)
def R1 (w:World) (os:OsState):Option (Flow×SharedT×Code×Pos):=some (.next,sb2 w os,cE,(Pos.mk 70 0 74 15))
theorem q1:tt (Hd.L1,Hd.R1)=true:=by k_qdec
theorem r1:∀ w,Fast.tw6387051279210280424 w=Hd.R1 w:=fun w=>by kernel_rfl
theorem e1 (w:World) (os:OsState):Hd.L1 w os=Hd.R1 w os:=(congrFun (congrFun Fast.te6387051279210280424 w) os).trans (congrFun (r1 w) os)
def zfX:List Stmt:=[S 11,S 12,S 13,S 14,S 15,S 16,S 17,S 18,S 19,S 20,S 21,S 22]
def zh2:=Obj.mk k4 .none (Data.dict #[en P 3 165 (sv 63 420),en P 5 166 .none,en P 6 167 .none,en P 7 168 k5,en P 8 169 .none,en P 9 170 6,en P 10 171 4,en P 11 173 (sv 0 172),en P 12 174 .none,en P 13 193 21,en P 14 213 31,en P 15 229 44,en P 16 238 53,en P 17 246 58,en P 27 350 138,en P 28 360 149,en P 29 369 156,en P 64 378 163,en P 65 389 170,en P 66 397 177,en P 67 409 184,en P 68 419 191,en P 69 423 (.int 12 422),en P 70 425 (.int 99 424),en P 71 434 198,en P 72 442 205,en P 73 452 212,en P 74 464 219] 28) #[]
def zh1:=vO #[(iv 1),(iv 0),20,(iv 5),(iv 0),27,(iv 7),(iv 0),40,(iv 10),(iv 0),52,(iv 13),(iv 0),57,(iv 21),(iv 0),64,(iv 61),(iv 0),148,(iv 70),(iv 0),155,(iv 75),(iv 0),162,(iv 81),(iv 0),169,(iv 90),(iv 0),176,(iv 94),(iv 0),183,(iv 101),(iv 0),190,(iv 112),(iv 0),197,(iv 121),(iv 0),204,(iv 127),(iv 0),211,(iv 136),(iv 0),218]
def zak:=tO #[]
def zdw:=vO #[]
def zaj:=tO #[(sv 61 373),(sv 62 374),(sv 75 375)]
def zai:=tO #[]
def zdv:=gO 64 64 (S 11)
def zah:=cO 64 64 370 371 372 75 3 3 157 158 159 160 161 376 377
def zag:=uO 64 64 (S 11) 4 239 162
def zaf:=tO #[]
def zdu:=vO #[]
def zae:=tO #[(sv 61 382),(sv 62 383),(sv 42 384),(sv 76 385),(sv 75 386)]
def zad:=tO #[]
def zdt:=gO 65 65 (S 12)
def zac:=cO 65 65 379 380 381 81 3 3 164 165 166 167 168 387 388
def zab:=uO 65 65 (S 12) 4 239 169
def zaa:=tO #[]
def zds:=vO #[]
def U9:=tO #[(sv 61 393),(sv 62 394)]
def U8:=tO #[]
def zdr:=gO 66 66 (S 13)
def U7:=cO 66 66 390 391 392 90 2 3 171 172 173 174 175 395 396
def U6:=uO 66 66 (S 13) 4 239 176
def U5:=tO #[]
def zdq:=vO #[]
def U4:=tO #[(sv 62 401),(sv 77 402),(sv 78 403),(sv 79 404),(sv 80 405),(sv 81 406)]
def U3:=tO #[]
def zdp:=gO 67 67 (S 14)
def U2:=cO 67 67 398 399 400 94 2 3 178 179 180 181 182 407 408
def U1:=uO 67 67 (S 14) 4 239 183
def U0:=tO #[]
def zdo:=vO #[]
def UZ:=tO #[(sv 61 413),(sv 62 414),(sv 82 415),(sv 81 416)]
def UY:=tO #[]
def zdn:=gO 68 68 (S 15)
def UX:=cO 68 68 410 411 412 101 2 3 185 186 187 188 189 417 418
def UW:=uO 68 68 (S 15) 4 239 190
def UV:=tO #[]
def zdm:=vO #[]
def UU:=tO #[(sv 83 429),(sv 84 430),(sv 44 431)]
def UT:=tO #[]
def zdl:=gO 71 71 (S 19)
def US:=cO 71 71 426 427 428 112 1 3 192 193 194 195 196 432 433
def UR:=uO 71 71 (S 19) 63 420 197
def UQ:=tO #[]
def zdk:=vO #[]
def UP:=tO #[(sv 85 438),(sv 83 439)]
def UO:=tO #[]
def zdj:=gO 72 72 (S 20)
def UN:=cO 72 72 435 436 437 121 2 3 199 200 201 202 203 440 441
def UM:=uO 72 72 (S 20) 63 420 204
def UL:=tO #[]
def zdi:=vO #[]
def UK:=tO #[(sv 77 446),(sv 83 447),(sv 76 448),(sv 85 449)]
def UJ:=tO #[]
def zdh:=gO 73 73 (S 21)
def UI:=cO 73 73 443 444 445 127 2 3 206 207 208 209 210 450 451
def UH:=uO 73 73 (S 21) 63 420 211
def UG:=tO #[]
def zdg:=vO #[]
def UF:=tO #[(sv 83 456),(sv 77 457),(sv 86 458),(sv 44 459),(sv 79 460),(sv 80 461)]
def UE:=tO #[]
def zdf:=gO 74 74 (S 22)
def UD:=cO 74 74 453 454 455 136 2 3 213 214 215 216 217 462 463
def UC:=uO 74 74 (S 22) 63 420 218
def zfw:=N UW .nil .nil
def zfv:=N zdi .nil .nil
def zfu:=N UQ .nil .nil
def zft:=N UF .nil .nil
def zfs:=N UT .nil .nil
def zfr:=N UI .nil .nil
def zfq:=N zdj .nil .nil
def zfp:=N UC .nil .nil
def zhA:=N o0 (N o10 (N o26 (N o60 t93 zfs) (N o92 (N zag .nil .nil) .nil)) (N o42 (N o76 t97 zfr) (N WR (N zdq .nil .nil) .nil))) (N o18 (N (o34 P) (N o68 zfU zfq) (N WX (N zaa .nil .nil) .nil)) (N o52 (N o84 zfT zfp) (N zaH (N UZ .nil .nil) .nil)))
def zfo:=N zdm .nil .nil
def zfn:=N UJ .nil .nil
def zfm:=N UP .nil .nil
def zfl:=N zdf .nil .nil
def zfk:=N US .nil .nil
def zfj:=N UG .nil .nil
def zfi:=N UM .nil .nil
def zfh:=N zdn .nil .nil
def zhz:=N o2 (N o12 (N (o28 P) (N o62 zfO zfk) (N o94 (N zdu .nil .nil) .nil)) (N o44 (N o78 zfN zfj) (N VW (N U3 .nil .nil) .nil))) (N o20 (N o36 (N o70 zfM zfi) (N VZ (N U9 .nil .nil) .nil)) (N (o54 P) (N o86 (N zak .nil .nil) .nil) (N WO zfh .nil)))
def zhy:=N (boot_o_5 P) (N (boot_o_9 P) (N o8 (N o24 (N o58 zfS zfo) (N o90 (N zdv .nil .nil) .nil)) (N o40 (N o74 zfR zfn) (N WT (N U6 .nil .nil) .nil))) (N o16 (N o32 (N o66 (zfQ P) zfm) (N o98 (N zac .nil .nil) .nil)) (N o48 (N o82 zfP zfl) (N VT (N U0 .nil .nil) .nil)))) (zhz P)
def zfg:=N UV .nil .nil
def zff:=N UK .nil .nil
def zfe:=N zdk .nil .nil
def zfd:=N UE .nil .nil
def zfc:=N zdl .nil .nil
def zfb:=N UH .nil .nil
def zfa:=N UN .nil .nil
def ze9:=N UY .nil .nil
def zhx:=N zh1 (N o11 (N o27 (N o61 zfH zfc) (N o93 (N zaf .nil .nil) .nil)) (N o43 (N o77 zfG zfb) (N VX (N U4 .nil .nil) .nil))) (N o19 (N o35 (N o69 zfF zfa) (N WW (N zds .nil .nil) .nil)) (N o53 zfE (N WQ ze9 .nil)))
def ze8:=N UU .nil .nil
def ze7:=N zdh .nil .nil
def ze6:=N UO .nil .nil
def ze5:=N UD .nil .nil
def ze4:=N UR .nil .nil
def ze3:=N zdg .nil .nil
def ze2:=N UL .nil .nil
def ze1:=N UX .nil .nil
def zhw:=N o3 (N o13 (N o29 (N o63 zfz ze4) (N o95 (N zae .nil .nil) .nil)) (N o45 (N o79 zfy ze3) (N VV (N zdp .nil .nil) .nil))) (N (o21 P) (N o37 (N o71 zfx ze2) (N WV (N U8 .nil .nil) .nil)) (N o55 (N o87 (N zdw .nil .nil) .nil) (N VR ze1 .nil)))
def zhv:=N (boot_o_6 P) (N (boot_o_10 P) (N o9 (N o25 (N o59 zfD ze8) (N o91 (N zah .nil .nil) .nil)) (N o41 (N o75 zfC ze7) (N WS (N U5 .nil .nil) .nil))) (N o17 (N o33 (N o67 zfB ze6) (N o99 (N zab .nil .nil) .nil)) (N o49 (N o83 zfA ze5) (N VS (N zdo .nil .nil) .nil)))) (zhw P)
def zhu:=N (boot_o_2 P) (N (boot_o_4 P) (N (boot_o_8 P) (N o7 (N o23 (N o57 zfL zfg) (N o89 (N zai .nil .nil) .nil)) (N o39 (N o73 zfK zff) (N VY (N U7 .nil .nil) .nil))) (N (o15 P) (N o31 (N o65 zfJ zfe) (N o97 (N zdt .nil .nil) .nil)) (N o47 (N o81 zfI zfd) (N VU (N U1 .nil .nil) .nil)))) zhx) (zhv P)
def zht:=N (boot_o_0 P) (N (boot_o_1 P) (N (zh2 P) (N (boot_o_7 P) (N o6 (N o22 (N o56 t74 zfw) (N o88 (N zaj .nil .nil) .nil)) (N o38 (N o72 t78 zfv) (N WU (N zdr .nil .nil) .nil))) (N o14 (N o30 (N o64 t83 zfu) (N o96 (N zad .nil .nil) .nil)) (N o46 (N o80 t87 zft) (N zaI (N U2 .nil .nil) .nil)))) (zhA P)) (zhy P)) (zhu P)
def sb3 (w:World) (os:OsState):SharedT:=⟨(zht w.params),220,(Life.mk [] [] [] 0 [] [] false #[] [] 0 false false false 0 [2000,10,10] false 0 true [] [] 0 false),⟨[]⟩,(Drawn.mk 0 0 0 0),465,os⟩
def L2 (w:World) (os:OsState):Option (Flow×SharedT×Code×Pos):=segRunT treeTable pw w 11 an 1 315 (sb2 w os) (piecesOf zfX env cE (Pos.mk 70 0 74 15) B)
def R2 (w:World) (os:OsState):Option (Flow×SharedT×Code×Pos):=some (.next,sb3 w os,cE,(Pos.mk 136 0 143 15))
theorem q2:tt (Hd.L2,Hd.R2)=true:=by k_qdec
theorem r2:∀ w,Fast.tw9171306275460833034 w=Hd.R2 w:=fun w=>by kernel_rfl
theorem e2 (w:World) (os:OsState):Hd.L2 w os=Hd.R2 w os:=(congrFun (congrFun Fast.te9171306275460833034 w) os).trans (congrFun (r2 w) os)
def zfW:List Stmt:=[S 23,S 24,S 25,S 26,S 27,S 28]
def zh0:=Obj.mk k4 .none (Data.dict #[en P 3 165 (sv 87 551),en P 5 166 .none,en P 6 167 .none,en P 7 168 k5,en P 8 169 .none,en P 9 170 6,en P 10 171 4,en P 11 173 (sv 0 172),en P 12 174 .none,en P 13 193 21,en P 14 213 31,en P 15 229 44,en P 16 238 53,en P 17 246 58,en P 27 350 138,en P 28 360 149,en P 29 369 156,en P 64 378 163,en P 65 389 170,en P 66 397 177,en P 67 409 184,en P 68 419 191,en P 69 423 (.int 12 422),en P 70 425 (.int 99 424),en P 71 434 198,en P 72 442 205,en P 73 452 212,en P 74 464 219,en P 88 550 285,en P 89 560 296,en P 90 573 303,en P 91 581 310,en P 92 587 315] 33) #[]
def zhZ:=vO #[(iv 1),(iv 0),20,(iv 5),(iv 0),27,(iv 7),(iv 0),40,(iv 10),(iv 0),52,(iv 13),(iv 0),57,(iv 21),(iv 0),64,(iv 61),(iv 0),148,(iv 70),(iv 0),155,(iv 75),(iv 0),162,(iv 81),(iv 0),169,(iv 90),(iv 0),176,(iv 94),(iv 0),183,(iv 101),(iv 0),190,(iv 112),(iv 0),197,(iv 121),(iv 0),204,(iv 127),(iv 0),211,(iv 136),(iv 0),218,(iv 144),(iv 0),225,(iv 176),(iv 0),295,(iv 180),(iv 0),302,(iv 194),(iv 0),309,(iv 198),(iv 0),314]
def zde:=tO #[]
def zdd:=Obj.mk k7 .none (Data.fields #[k8,k9]) #[]
def zdc:=Obj.mk k4 .none (Data.dict #[en P 19 472 (sv 63 420),en P 21 474 (sv 88 473),en P 22 476 (.int 144 475),en P 30 485 233,en P 83 492 240,en P 77 499 247,en P 93 507 254,en P 94 516 261,en P 95 524 268,en P 96 531 275,en P 97 539 282,en P 23 543 283] 12) #[]
def zdb:=tO #[]
def zda:=vO #[(iv 146),(iv 4),232,(iv 155),(iv 4),239,(iv 158),(iv 4),246,(iv 161),(iv 4),253,(iv 164),(iv 4),260,(iv 167),(iv 4),267,(iv 170),(iv 4),274,(iv 173),(iv 4),281]
def zc9:=Obj.mk k1 .none (Data.fields #[(sv 88 467),(sv 88 468),(sv 0 469),(iv 144),(iv 0),(iv 0),(iv 0),(iv 0),223,(.bool false),(iv 181),224,.none,.none,.none,.none,(iv 470),(iv 144),(sv 0 471)]) #[]
def zc8:=Obj.mk k3 .none Data.plain #[(some 225),(some 3),(some 222),.none,(some (sv 63 420)),.none,(some 0)]
def UB:=tO #[]
def zc7:=vO #[]
def UA:=tO #[(sv 40 480),(sv 83 481),(sv 77 482)]
def Uz:=tO #[]
def zc6:=gO 30 98 (L2.inClass (S 23) 0)
def Uy:=cO 30 98 477 478 479 146 3 3 227 228 229 230 231 483 484
def Ux:=uO 30 98 (L2.inClass (S 23) 0) 63 420 232
def Uw:=tO #[]
def zc5:=vO #[]
def Uv:=tO #[(sv 40 489)]
def Uu:=tO #[]
def zc4:=gO 83 99 (L2.inClass (S 23) 1)
def Ut:=cO 83 99 486 487 488 155 1 3 234 235 236 237 238 490 491
def Us:=uO 83 99 (L2.inClass (S 23) 1) 63 420 239
def Ur:=tO #[]
def zc3:=vO #[]
def Uq:=tO #[(sv 40 496)]
def Up:=tO #[]
def zgZ:=gO 77 100 (L2.inClass (S 23) 2)
def zc2:=cO 77 100 493 494 495 158 1 3 241 242 243 244 245 497 498
def zc1:=uO 77 100 (L2.inClass (S 23) 2) 63 420 246
def zc0:=tO #[]
def zgY:=vO #[]
def zcZ:=tO #[(sv 40 503),(sv 44 504)]
def zcY:=tO #[]
def zgX:=gO 93 101 (L2.inClass (S 23) 3)
def zcX:=cO 93 101 500 501 502 161 2 3 248 249 250 251 252 505 506
def zcW:=uO 93 101 (L2.inClass (S 23) 3) 63 420 253
def zcV:=tO #[]
def zgW:=vO #[]
def zcU:=tO #[(sv 40 511),(sv 79 512),(sv 80 513)]
def zcT:=tO #[]
def zgV:=gO 94 102 (L2.inClass (S 23) 4)
def zcS:=cO 94 102 508 509 510 164 3 3 255 256 257 258 259 514 515
def zcR:=uO 94 102 (L2.inClass (S 23) 4) 63 420 260
def zcQ:=tO #[]
def zgU:=vO #[]
def zcP:=tO #[(sv 40 520),(sv 44 521)]
def zcO:=tO #[]
def zgT:=gO 95 103 (L2.inClass (S 23) 5)
def zcN:=cO 95 103 517 518 519 167 2 3 262 263 264 265 266 522 523
def zcM:=uO 95 103 (L2.inClass (S 23) 5) 63 420 267
def zcL:=tO #[]
def zgS:=vO #[]
def zcK:=tO #[(sv 40 528)]
def zcJ:=tO #[]
def zgR:=gO 96 104 (L2.inClass (S 23) 6)
def zcI:=cO 96 104 525 526 527 170 1 3 269 270 271 272 273 529 530
def zcH:=uO 96 104 (L2.inClass (S 23) 6) 63 420 274
def zcG:=tO #[]
def zgQ:=vO #[]
def zcF:=tO #[(sv 40 535),(sv 44 536)]
def zcE:=tO #[]
def zgP:=gO 97 105 (L2.inClass (S 23) 7)
def zcD:=cO 97 105 532 533 534 173 2 3 276 277 278 279 280 537 538
def zcC:=uO 97 105 (L2.inClass (S 23) 7) 63 420 281
def zcB:=tO #[(sv 86 540),(sv 106 541),(sv 107 542)]
def zcA:=Obj.mk k4 .none (Data.dict #[en P 19 472 (sv 63 420),en P 22 476 (.int 144 475),en P 30 485 233,en P 83 492 240,en P 77 499 247,en P 93 507 254,en P 94 516 261,en P 95 524 268,en P 96 531 275,en P 97 539 282,en P 23 543 283,en P 60 545 286,en P 24 547 287,en P 5 548 .none] 4) #[]
def zcz:=Obj.mk k9 .none (Data.cls (ClassData.mk (s 88) [k12] [285,k12] 284 (s 88) true [] [] false .none false)) #[.none,.none,(some (sv 88 465)),(some (sv 88 473)),(some k18),(some (.bool true))]
def zcy:=Obj.mk k14 .none (Data.fields #[(sv 60 544),285,k19,k20]) #[]
def zcx:=Obj.mk k14 .none (Data.fields #[(sv 24 546),285,k15,.none]) #[]
def zgO:=Obj.mk k16 .none (Data.fields #[285,285,285]) #[]
def zgN:=Obj.mk k7 .none (Data.fields #[k17,285]) #[]
def zcw:=tO #[]
def zgM:=vO #[]
def zcv:=tO #[(sv 108 556),(sv 109 557)]
def zcu:=tO #[]
def zgL:=gO 89 89 (S 25)
def zct:=cO 89 89 553 554 555 176 2 3 290 291 292 293 294 558 559
def zcs:=uO 89 89 (S 25) 87 551 295
def zcr:=tO #[]
def zgK:=vO #[]
def zcq:=tO #[(sv 110 564),(sv 111 565),(sv 112 566),(sv 113 567),(sv 114 568),(sv 109 569),(sv 115 570)]
def zcp:=tO #[]
def zgJ:=gO 90 90 (S 26)
def zco:=cO 90 90 561 562 563 180 2 3 297 298 299 300 301 571 572
def zcn:=uO 90 90 (S 26) 87 551 302
def zcm:=tO #[]
def zgI:=vO #[]
def zcl:=tO #[(sv 116 577),(sv 117 578)]
def zck:=tO #[]
def zgH:=gO 91 91 (S 27)
def zcj:=cO 91 91 574 575 576 194 2 3 304 305 306 307 308 579 580
def zci:=uO 91 91 (S 27) 87 551 309
def zch:=tO #[]
def zgG:=vO #[]
def zgF:=gO 92 92 (S 28)
def zcg:=Obj.mk k1 .none (Data.fields #[(sv 92 582),(sv 92 583),(sv 0 584),(iv 198),(iv 2),(iv 0),(iv 0),(iv 3),311,(.bool true),(iv 181),312,.none,.none,.none,313,(iv 585),(iv 198),(sv 0 586)]) #[]
def zcf:=uO 92 92 (S 28) 87 551 314
def ze0:=N zaG (N zcV .nil .nil) .nil
def zeZ:=N zaj (N zcx .nil .nil) .nil
def zeY:=N zau (N zcK .nil .nil) .nil
def zeX:=N zdr (N zcn .nil .nil) .nil
def zeW:=N zaA (N zgU .nil .nil) .nil
def zeV:=N zad (N zct .nil .nil) .nil
def zeU:=N zdy (N zcE .nil .nil) .nil
def zeT:=N zaI (N U2 (N zch .nil .nil) .nil) (N zc1 .nil .nil)
def zeS:=N zaD (N zgV .nil .nil) .nil
def zeR:=N zag (N zgM .nil .nil) .nil
def zeQ:=N zdz (N zcH .nil .nil) .nil
def zeP:=N zdq (N zck .nil .nil) .nil
def zeO:=N zaw (N zcN .nil .nil) .nil
def zeN:=N zaa (N zcq .nil .nil) .nil
def zeM:=N zam (N zcB .nil .nil) .nil
def zeL:=N zaH (N UZ (N zcf .nil .nil) .nil) (N zcY .nil .nil)
def zhs:=N o0 (N o10 (N o26 (N o60 zeS zfs) (N o92 zeR (N UB .nil .nil))) (N o42 (N o76 zeQ zfr) (N WR zeP (N Uq .nil .nil)))) (N o18 (N (o34 P) (N o68 zeO zfq) (N WX zeN (N zc5 .nil .nil))) (N o52 (N o84 zeM zfp) zeL))
def zeK:=N zaE (N zcU .nil .nil) .nil
def zeJ:=N zdv (N zgN .nil .nil) .nil
def zeI:=N zat (N zgR .nil .nil) .nil
def zeH:=N U6 (N zgI .nil .nil) .nil
def zeG:=N (zay P) (N zcO .nil .nil) .nil
def zeF:=N zac (N zcr .nil .nil) .nil
def zeE:=N zan (N zcD .nil .nil) .nil
def zeD:=N VT (N U0 (N zgF .nil .nil) .nil) (N zgY .nil .nil)
def zeC:=N zdD (N zcR .nil .nil) .nil
def zeB:=N zdu (N zcu .nil .nil) .nil
def zeA:=N zaq (N zgQ .nil .nil) .nil
def zez:=N VW (N U3 (N zcj .nil .nil) .nil) (N zgZ .nil .nil)
def zey:=N zdC (N zcL .nil .nil) .nil
def zex:=N U9 (N zgJ .nil .nil) .nil
def zew:=N zak (N zcz .nil .nil) .nil
def zev:=N zcX .nil .nil
def zhr:=N o2 (N o12 (N (o28 P) (N o62 zeC zfk) (N o94 zeB (N UA .nil .nil))) (N o44 (N o78 zeA zfj) zez)) (N o20 (N o36 (N o70 zey zfi) (N VZ zex (N Uu .nil .nil))) (N (o54 P) (N o86 zew (N zdd .nil .nil)) (N WO zfh zev)))
def zhq:=N (boot_o_5 P) (N (boot_o_9 P) (N o8 (N o24 (N o58 zeK zfo) (N o90 zeJ (N zc9 .nil .nil))) (N o40 (N o74 zeI zfn) (N WT zeH (N Ur .nil .nil)))) (N o16 (N o32 (N o66 (zeG P) zfm) (N o98 zeF (N Ux .nil .nil))) (N o48 (N o82 zeE zfl) zeD))) (zhr P)
def zeu:=N zaF (N zgW .nil .nil) .nil
def zet:=N zai (N zgO .nil .nil) .nil
def zes:=N zdA (N zcJ .nil .nil) .nil
def zer:=N U7 (N zcm .nil .nil) .nil
def zeq:=N zaz (N zcP .nil .nil) .nil
def zep:=N zdt (N zcs .nil .nil) .nil
def zeo:=N zao (N zgP .nil .nil) .nil
def zen:=N VU (N U1 (N zgG .nil .nil) .nil) (N zc0 .nil .nil)
def zem:=N zaC (N zcS .nil .nil) .nil
def zel:=N zaf (N zcv .nil .nil) .nil
def zek:=N zar (N zcG .nil .nil) .nil
def zej:=N U4 (N zgH .nil .nil) .nil
def zei:=N zav (N zcM .nil .nil) .nil
def zeh:=N zds (N zcp .nil .nil) .nil
def zeg:=N zal (N (zcA P) .nil .nil) .nil
def zef:=N zgX .nil .nil
def zhp:=N zhZ (N o11 (N o27 (N o61 zem zfc) (N o93 zel (N zc7 .nil .nil))) (N o43 (N o77 zek zfb) (N VX zej (N Up .nil .nil)))) (N o19 (N o35 (N o69 zei zfa) (N WW zeh (N Uv .nil .nil))) (N o53 (N o85 (zeg P) (N zde .nil .nil)) (N WQ ze9 zef)))
def zee:=N zdE (N zcT .nil .nil) .nil
def zed:=N zah (N zcw .nil .nil) .nil
def zec:=N zas (N zcI .nil .nil) .nil
def zeb:=N U5 (N zcl .nil .nil) .nil
def zea:=N zax (N zgT .nil .nil) .nil
def zd9:=N zab (N zgK .nil .nil) .nil
def zd8:=N zdx (N zcC .nil .nil) .nil
def zd7:=N VS (N zdo (N zcg .nil .nil) .nil) (N zcZ .nil .nil)
def zd6:=N zaB (N zcQ .nil .nil) .nil
def zd5:=N zae (N zgL .nil .nil) .nil
def zd4:=N zap (N zcF .nil .nil) .nil
def zd3:=N VV (N zdp (N zci .nil .nil) .nil) (N zc2 .nil .nil)
def zd2:=N zdB (N zgS .nil .nil) .nil
def zd1:=N U8 (N zco .nil .nil) .nil
def zd0:=N zdw (N zcy .nil .nil) .nil
def zdZ:=N zcW .nil .nil
def zho:=N o3 (N o13 (N o29 (N o63 zd6 ze4) (N o95 zd5 (N Uz .nil .nil))) (N o45 (N o79 zd4 ze3) zd3)) (N (o21 P) (N o37 (N o71 zd2 ze2) (N WV zd1 (N zc4 .nil .nil))) (N o55 (N o87 zd0 (N (zdc P) .nil .nil)) (N VR ze1 zdZ)))
def zhn:=N (boot_o_6 P) (N (boot_o_10 P) (N o9 (N o25 (N o59 zee ze8) (N o91 zed (N zc8 .nil .nil))) (N o41 (N o75 zec ze7) (N WS zeb (N zc3 .nil .nil)))) (N o17 (N o33 (N o67 zea ze6) (N o99 zd9 (N Uw .nil .nil))) (N o49 (N o83 zd8 ze5) zd7))) (zho P)
def zhm:=N (boot_o_2 P) (N (boot_o_4 P) (N (boot_o_8 P) (N o7 (N o23 (N o57 zeu zfg) (N o89 zet (N zda .nil .nil))) (N o39 (N o73 zes zff) (N VY zer (N Us .nil .nil)))) (N (o15 P) (N o31 (N o65 zeq zfe) (N o97 zep (N Uy .nil .nil))) (N o47 (N o81 zeo zfd) zen))) (zhp P)) (zhn P)
def zhl:=N (boot_o_0 P) (N (boot_o_1 P) (N (zh0 P) (N (boot_o_7 P) (N o6 (N o22 (N o56 ze0 zfw) (N o88 zeZ (N zdb .nil .nil))) (N o38 (N o72 zeY zfv) (N WU zeX (N Ut .nil .nil)))) (N o14 (N o30 (N o64 zeW zfu) (N o96 zeV (N zc6 .nil .nil))) (N o46 (N o80 zeU zft) zeT))) (zhs P)) (zhq P)) (zhm P)
def sb4 (w:World) (os:OsState):SharedT:=⟨(zhl w.params),316,(Life.mk [] [] [] 0 [] [] false #[] [] 0 false false false 0 [2000,10,10] false 0 true [] [] 0 false),⟨[]⟩,(Drawn.mk 0 0 0 0),588,os⟩
def L3 (w:World) (os:OsState):Option (Flow×SharedT×Code×Pos):=segRunT treeTable pw w 11 an 1 578 (sb3 w os) (piecesOf zfW env cE (Pos.mk 136 0 143 15) B)
def R3 (w:World) (os:OsState):Option (Flow×SharedT×Code×Pos):=some (.next,sb4 w os,cE,(Pos.mk 198 0 206 21))
theorem q3:tt (Hd.L3,Hd.R3)=true:=by k_qdec
theorem r3:∀ w,Fast.tw6196771281854559479 w=Hd.R3 w:=fun w=>by kernel_rfl
theorem e3 (w:World) (os:OsState):Hd.L3 w os=Hd.R3 w os:=(congrFun (congrFun Fast.te6196771281854559479 w) os).trans (congrFun (r3 w) os)
def zfV:List Stmt:=[S 29,S 30,S 31,S 32,S 33,S 34,S 35,S 36,S 37]
def zce:=Obj.mk k4 .none (Data.dict #[en P 3 165 (sv 87 551),en P 5 166 .none,en P 6 167 .none,en P 7 168 k5,en P 8 169 .none,en P 9 170 6,en P 10 171 4,en P 11 173 (sv 0 172),en P 12 174 .none,en P 13 193 21,en P 14 213 31,en P 15 229 44,en P 16 238 53,en P 17 246 58,en P 27 350 138,en P 28 360 149,en P 29 369 156,en P 64 378 163,en P 65 389 170,en P 66 397 177,en P 67 409 184,en P 68 419 191,en P 69 423 (.int 12 422),en P 70 425 (.int 99 424),en P 71 434 198,en P 72 442 205,en P 73 452 212,en P 74 464 219,en P 88 550 285,en P 89 560 296,en P 90 573 303,en P 91 581 310,en P 92 587 315,en P 118 602 322,en P 119 608 327,en P 120 617 334,en P 121 626 341,en P 122 633 348,en P 123 641 355,en P 124 647 360,en P 125 653 365,en P 126 668 372] 42) #[]
def zgE:=vO #[(iv 1),(iv 0),20,(iv 5),(iv 0),27,(iv 7),(iv 0),40,(iv 10),(iv 0),52,(iv 13),(iv 0),57,(iv 21),(iv 0),64,(iv 61),(iv 0),148,(iv 70),(iv 0),155,(iv 75),(iv 0),162,(iv 81),(iv 0),169,(iv 90),(iv 0),176,(iv 94),(iv 0),183,(iv 101),(iv 0),190,(iv 112),(iv 0),197,(iv 121),(iv 0),204,(iv 127),(iv 0),211,(iv 136),(iv 0),218,(iv 144),(iv 0),225,(iv 176),(iv 0),295,(iv 180),(iv 0),302,(iv 194),(iv 0),309,(iv 198),(iv 0),314,(iv 207),(iv 0),321,(iv 218),(iv 0),326,(iv 221),(iv 0),333,(iv 228),(iv 0),340,(iv 230),(iv 0),347,(iv 232),(iv 0),354,(iv 236),(iv 0),359,(iv 256),(iv 0),364,(iv 277),(iv 0),371]
def zcd:=tO #[]
def zgD:=vO #[]
def zcc:=tO #[(sv 116 591),(sv 127 592),(sv 128 593),(sv 112 594),(sv 129 595),(sv 109 596),(sv 130 597),(sv 131 598),(sv 132 599)]
def zcb:=tO #[]
def zgC:=gO 118 118 (S 29)
def zca:=cO 118 118 588 589 590 207 2 3 316 317 318 319 320 600 601
def zb9:=uO 118 118 (S 29) 87 551 321
def zb8:=tO #[]
def zgB:=vO #[]
def zgA:=gO 119 119 (S 30)
def zb7:=Obj.mk k1 .none (Data.fields #[(sv 119 603),(sv 119 604),(sv 0 605),(iv 218),(iv 2),(iv 0),(iv 0),(iv 3),323,(.bool true),(iv 181),324,.none,.none,.none,325,(iv 606),(iv 218),(sv 0 607)]) #[]
def zb6:=uO 119 119 (S 30) 87 551 326
def zb5:=tO #[]
def zgz:=vO #[]
def zb4:=tO #[(sv 133 612),(sv 134 613),(sv 112 614)]
def zb3:=tO #[]
def zgy:=gO 120 120 (S 31)
def zb2:=cO 120 120 609 610 611 221 2 3 328 329 330 331 332 615 616
def zb1:=uO 120 120 (S 31) 87 551 333
def zb0:=tO #[]
def zgx:=vO #[]
def zbZ:=tO #[(sv 133 621),(sv 135 622),(sv 136 623)]
def zbY:=tO #[]
def zgw:=gO 121 121 (S 32)
def zbX:=cO 121 121 618 619 620 228 3 3 335 336 337 338 339 624 625
def zbW:=uO 121 121 (S 32) 87 551 340
def zbV:=tO #[]
def zgv:=vO #[]
def zbU:=tO #[(sv 137 630)]
def zbT:=tO #[]
def zgu:=gO 122 122 (S 33)
def zbS:=cO 122 122 627 628 629 230 1 3 342 343 344 345 346 631 632
def zbR:=uO 122 122 (S 33) 87 551 347
def zbQ:=tO #[]
def zgt:=vO #[]
def zbP:=tO #[(sv 138 637),(sv 137 638)]
def zbO:=tO #[]
def zgs:=gO 123 123 (S 34)
def zbN:=cO 123 123 634 635 636 232 2 3 349 350 351 352 353 639 640
def zbM:=uO 123 123 (S 34) 87 551 354
def zbL:=tO #[]
def zgr:=vO #[]
def zgq:=gO 124 124 (S 35)
def zbK:=Obj.mk k1 .none (Data.fields #[(sv 124 642),(sv 124 643),(sv 0 644),(iv 236),(iv 4),(iv 0),(iv 0),(iv 3),356,(.bool true),(iv 181),357,.none,.none,.none,358,(iv 645),(iv 236),(sv 0 646)]) #[]
def zbJ:=uO 124 124 (S 35) 87 551 359
def zbI:=tO #[]
def zgp:=vO #[]
def zgo:=gO 125 125 (S 36)
def zbH:=Obj.mk k1 .none (Data.fields #[(sv 125 648),(sv 125 649),(sv 0 650),(iv 256),(iv 3),(iv 0),(iv 0),(iv 3),361,(.bool true),(iv 181),362,.none,.none,.none,363,(iv 651),(iv 256),(sv 0 652)]) #[]
def zbG:=uO 125 125 (S 36) 87 551 364
def zbF:=tO #[]
def zgn:=vO #[]
def zbE:=tO #[(sv 108 657),(sv 116 658),(sv 127 659),(sv 138 660),(sv 139 661),(sv 110 662),(sv 133 663),(sv 140 664),(sv 112 665)]
def zbD:=tO #[]
def zgm:=gO 126 126 (S 37)
def zbC:=cO 126 126 654 655 656 277 1 3 366 367 368 369 370 666 667
def zbB:=uO 126 126 (S 37) 87 551 371
def zhk:=N o14 (N o30 (N o64 zeW (N UQ (N zb6 .nil .nil) .nil)) (N o96 zeV (N zc6 (N zbK .nil .nil) .nil))) (N o46 (N o80 zeU (N UF (N zgv .nil .nil) .nil)) zeT)
def zhj:=N o18 (N (o34 P) (N o68 zeO (N zdj (N zb3 .nil .nil) .nil)) (N WX zeN (N zc5 (N zgo .nil .nil) .nil))) (N o52 (N o84 zeM (N UC (N zbS .nil .nil) .nil)) zeL)
def zhi:=N o0 (N o10 (N o26 (N o60 zeS (N UT (N zb8 .nil .nil) .nil)) (N o92 zeR (N UB (N zbM .nil .nil) .nil))) (N o42 (N o76 zeQ (N UI (N zgw .nil .nil) .nil)) (N WR zeP (N Uq (N zbC .nil .nil) .nil)))) (zhj P)
def zhh:=N o16 (N o32 (N o66 (zeG P) (N UP (N zgz .nil .nil) .nil)) (N o98 zeF (N Ux (N zbI .nil .nil) .nil))) (N o48 (N o82 zeE (N zdf (N zbT .nil .nil) .nil)) zeD)
def zhg:=N o20 (N o36 (N o70 zey (N UM (N zb2 .nil .nil) .nil)) (N VZ zex (N Uu (N zbG .nil .nil) .nil))) (N (o54 P) (N o86 zew (N zdd (N zbQ .nil .nil) .nil)) (N WO (N zdn (N zgD .nil .nil) .nil) zev))
def zhf:=N o2 (N o12 (N (o28 P) (N o62 zeC (N US (N zgA .nil .nil) .nil)) (N o94 zeB (N UA (N zgr .nil .nil) .nil))) (N o44 (N o78 zeA (N UG (N zbW .nil .nil) .nil)) zez)) (zhg P)
def zhe:=N (boot_o_5 P) (N (boot_o_9 P) (N o8 (N o24 (N o58 zeK (N zdm (N zca .nil .nil) .nil)) (N o90 zeJ (N zc9 (N zgs .nil .nil) .nil))) (N o40 (N o74 zeI (N UJ (N zbZ .nil .nil) .nil)) (N WT zeH (N Ur (N zbD .nil .nil) .nil)))) (zhh P)) (zhf P)
def zhd:=N (o15 P) (N o31 (N o65 zeq (N zdk (N zb5 .nil .nil) .nil)) (N o97 zep (N Uy (N zbJ .nil .nil) .nil))) (N o47 (N o81 zeo (N UE (N zbU .nil .nil) .nil)) zen)
def zhc:=N o19 (N o35 (N o69 zei (N UN (N zgy .nil .nil) .nil)) (N WW zeh (N Uv (N zbH .nil .nil) .nil))) (N o53 (N o85 (zeg P) (N zde (N zbR .nil .nil) .nil)) (N WQ (N UY (N zcd .nil .nil) .nil) zef))
def zhb:=N zgE (N o11 (N o27 (N o61 zem (N zdl (N zgB .nil .nil) .nil)) (N o93 zel (N zc7 (N zbL .nil .nil) .nil))) (N o43 (N o77 zek (N UH (N zbX .nil .nil) .nil)) (N VX zej (N Up (N zbB .nil .nil) .nil)))) (zhc P)
def zha:=N o17 (N o33 (N o67 zea (N UO (N zb4 .nil .nil) .nil)) (N o99 zd9 (N Uw (N zgp .nil .nil) .nil))) (N o49 (N o83 zd8 (N UD (N zgu .nil .nil) .nil)) zd7)
def zg9:=N (o21 P) (N o37 (N o71 zd2 (N UL (N zb1 .nil .nil) .nil)) (N WV zd1 (N zc4 (N zbF .nil .nil) .nil))) (N o55 (N o87 zd0 (N (zdc P) (N zgt .nil .nil) .nil)) (N VR (N UX (N zcc .nil .nil) .nil) zdZ))
def zg8:=N o3 (N o13 (N o29 (N o63 zd6 (N UR (N zb7 .nil .nil) .nil)) (N o95 zd5 (N Uz (N zgq .nil .nil) .nil))) (N o45 (N o79 zd4 (N zdg (N zbV .nil .nil) .nil)) zd3)) (zg9 P)
def zg7:=N (boot_o_6 P) (N (boot_o_10 P) (N o9 (N o25 (N o59 zee (N UU (N zb9 .nil .nil) .nil)) (N o91 zed (N zc8 (N zbN .nil .nil) .nil))) (N o41 (N o75 zec (N zdh (N zbY .nil .nil) .nil)) (N WS zeb (N zc3 (N zgm .nil .nil) .nil)))) zha) (zg8 P)
def zg6:=N (boot_o_2 P) (N (boot_o_4 P) (N (boot_o_8 P) (N o7 (N o23 (N o57 zeu (N UV (N zgC .nil .nil) .nil)) (N o89 zet (N zda (N zbO .nil .nil) .nil))) (N o39 (N o73 zes (N UK (N zgx .nil .nil) .nil)) (N VY zer (N Us (N zbE .nil .nil) .nil)))) (zhd P)) (zhb P)) (zg7 P)
def zg5:=N (boot_o_0 P) (N (boot_o_1 P) (N (zce P) (N (boot_o_7 P) (N o6 (N o22 (N o56 ze0 (N UW (N zcb .nil .nil) .nil)) (N o88 zeZ (N zdb (N zbP .nil .nil) .nil))) (N o38 (N o72 zeY (N zdi (N zb0 .nil .nil) .nil)) (N WU zeX (N Ut (N zgn .nil .nil) .nil)))) zhk) (zhi P)) (zhe P)) (zg6 P)
def sb5 (w:World) (os:OsState):SharedT:=⟨(zg5 w.params),373,(Life.mk [] [] [] 0 [] [] false #[] [] 0 false false false 0 [2000,10,10] false 0 true [] [] 0 false),⟨[]⟩,(Drawn.mk 0 0 0 0),669,os⟩
def L4 (w:World) (os:OsState):Option (Flow×SharedT×Code×Pos):=segRunT treeTable pw w 11 an 1 274 (sb4 w os) (piecesOf zfV env cE (Pos.mk 198 0 206 21) B)
def R4 (w:World) (os:OsState):Option (Flow×SharedT×Code×Pos):=some (.next,sb5 w os,cE,(Pos.mk 277 0 287 15))
theorem q4:tt (Hd.L4,Hd.R4)=true:=by k_qdec
theorem r4:∀ w,Fast.tw18063231807419426806 w=Hd.R4 w:=fun w=>by kernel_rfl
theorem e4 (w:World) (os:OsState):Hd.L4 w os=Hd.R4 w os:=(congrFun (congrFun Fast.te18063231807419426806 w) os).trans (congrFun (r4 w) os)
def h31:List Obj:=zbB::[]
def h30:List Obj:=zbJ::zbI::zgp::zgo::zbH::zbG::zbF::zgn::zbE::zbD::zgm::zbC::h31
def h29:List Obj:=zbR::zbQ::zgt::zbP::zbO::zgs::zbN::zbM::zbL::zgr::zgq::zbK::h30
def h28:List Obj:=zgx::zbZ::zbY::zgw::zbX::zbW::zbV::zgv::zbU::zbT::zgu::zbS::h29
def h27:List Obj:=zgB::zgA::zb7::zb6::zb5::zgz::zb4::zb3::zgy::zb2::zb1::zb0::h28
def h26:List Obj:=zgG::zgF::zcg::zcf::zcd::zgD::zcc::zcb::zgC::zca::zb9::zb8::h27
def h25:List Obj:=zcp::zgJ::zco::zcn::zcm::zgI::zcl::zck::zgH::zcj::zci::zch::h26
def h24:List Obj:=zgO::zgN::zcw::zgM::zcv::zcu::zgL::zct::zcs::zcr::zgK::zcq::h25
def h23:List Obj:=zcG::zgQ::zcF::zcE::zgP::zcD::zcC::zcB::zcA P::zcz::zcy::zcx::h24
def h22:List Obj:=zcP::zcO::zgT::zcN::zcM::zcL::zgS::zcK::zcJ::zgR::zcI::zcH::h23 P
def h21:List Obj:=zgX::zcX::zcW::zcV::zgW::zcU::zcT::zgV::zcS::zcR::zcQ::zgU::h22 P
def h20:List Obj:=Us::Ur::zc3::Uq::Up::zgZ::zc2::zc1::zc0::zgY::zcZ::zcY::h21 P
def h19:List Obj:=zc7::UA::Uz::zc6::Uy::Ux::Uw::zc5::Uv::Uu::zc4::Ut::h20 P
def h18:List Obj:=UE::zdf::UD::UC::zde::zdd::zdc P::zdb::zda::zc9::zc8::UB::h19 P
def h17:List Obj:=UN::UM::UL::zdi::UK::UJ::zdh::UI::UH::UG::zdg::UF::h18 P
def h16:List Obj:=UV::zdm::UU::UT::zdl::US::UR::UQ::zdk::UP::UO::zdj::h17 P
def h15:List Obj:=U4::U3::zdp::U2::U1::U0::zdo::UZ::UY::zdn::UX::UW::h16 P
def h14:List Obj:=zdt::zac::zab::zaa::zds::U9::U8::zdr::U7::U6::U5::zdq::h15 P
def h13:List Obj:=zal::zak::zdw::zaj::zai::zdv::zah::zag::zaf::zdu::zae::zad::h14 P
def h12:List Obj:=zdA::zat::zas::zdz::zar::zaq::zap::zdy::zao::zan::zdx::zam::h13 P
def h11:List Obj:=zaC::zdD::zaB::zaA::zaz::zay P::zax::zaw::zav::zdC::zdB::zau::h12 P
def h10:List Obj:=VU::VT::VS::zaH::WQ::WO::VR::zaG::zaF::zaE::zdE::zaD::h11 P
def h9:List Obj:=WW::VZ::WV::WU::VY::WT::WS::WR::VX::VW::VV::zaI::h10 P
def h8:List Obj:=o89::o90::o91::o92::o93::o94::o95::o96::o97::o98::o99::WX::h9 P
def h7:List Obj:=o77::o78::o79::o80::o81::o82::o83::o84::o85::o86::o87::o88::h8 P
def h6:List Obj:=o65::o66::o67::o68::o69::o70::o71::o72::o73::o74::o75::o76::h7 P
def h5:List Obj:=o53::o54 P::o55::o56::o57::o58::o59::o60::o61::o62::o63::o64::h6 P
def h4:List Obj:=o39::o40::o41::o42::o43::o44::o45::o46::o47::o48::o49::o52::h5 P
def h3:List Obj:=o27::o28 P::o29::o30::o31::o32::o33::o34 P::o35::o36::o37::o38::h4 P
def h2:List Obj:=o15 P::o16::o17::o18::o19::o20::o21 P::o22::o23::o24::o25::o26::h3 P
def h1:List Obj:=zgE::o2::o3::o6::o7::o8::o9::o10::o11::o12::o13::o14::h2 P
def h0:List Obj:=boot_o_0 P::boot_o_1 P::boot_o_2 P::zce P::boot_o_4 P::boot_o_5 P::boot_o_6 P::boot_o_7 P::boot_o_8 P::boot_o_9 P::boot_o_10 P::o0::h1 P
def H1:Heap:=⟨⟨h0 P⟩,(Life.mk [] [] [] 0 [] [] false #[] [] 0 false false false 0 [2000,10,10] false 0 true [] [] 0 false)⟩
def sf (w:World) (os:OsState):Shared:=⟨H1 w.params,⟨[]⟩,(Drawn.mk 0 0 0 0),669,os⟩
def Lf (w:World) (os:OsState):Option Shared:=topRun treeTable pw w 11 an 2 (sb5 w os).abs ⟨doneF .next,cE,(Pos.mk 277 0 287 15),B⟩
def Rf (w:World) (os:OsState):Option Shared:=some (sf w os)
theorem qf:tt (Hd.Lf,Hd.Rf)=true:=by k_qdec
theorem rf:∀ w,Fast.tw2640074843757178226 w=Hd.Rf w:=fun w=>by kernel_rfl
theorem ef (w:World) (os:OsState):Hd.Lf w os=Hd.Rf w os:=(congrFun (congrFun Fast.te2640074843757178226 w) os).trans (congrFun (rf w) os)
theorem cut:bE=zfZ++(zfY++(zfX++(zfW++(zfV++([]))))):=by kernel_rfl
theorem run (w:World) (os:OsState):topRun treeTable pw w 11 an (12+(1+(511+(577+(315+(578+(274+2))))))) (s0 w os) (topStub pw)=some (sf w os):=by
 refine go_top (ea w os) (piece_block (q:=qE) (env:=env) (b:=bE) (segRun_of (eb w os)) ?_)
 rw[show restOf bE env cE (Pos.mk 0 0 0 0) [topFrame qE]=restOf _ env cE _ [topFrame qE] from congrArg (fun l=>restOf l env cE (Pos.mk 0 0 0 0) [topFrame qE]) cut]
 refine piece_app (segRun_of (e0 w os)) ?_
 refine piece_app (segRun_of (e1 w os)) ?_
 refine piece_app (segRun_of (e2 w os)) ?_
 refine piece_app (segRun_of (e3 w os)) ?_
 refine piece_app (segRun_of (e4 w os)) ?_
 exact ef w os
def M:Nat:=12+(1+(511+(577+(315+(578+(274+2))))))
abbrev rW:RowW:=(PySem.Challenge.rw_beatless_k29_any_parents_and_bridges.row).toRowW
def Q:Program:={ pw with main:={ pw.main with body:=[S 0,S 2,S 3,S 5,S 7,S 8,S 9,S 10,S 11,S 12,S 13,S 14,S 15,S 17,S 18,S 19,S 20,S 21,S 22,S 23,S 25,S 26,S 27,S 28,S 29,S 30,S 31,S 32,S 33,S 34,S 35,S 36,S 37] } }
def Xt (s:Shared):Bool:=xlAt Q [] s&&recOk (RowW.records rW) s
def K:Frag:=(nat_lit 2,boot_o_2 P)::(nat_lit 3,zce P)::(nat_lit 15,o6)::(nat_lit 17,o8)::(nat_lit 18,o9)::(nat_lit 20,o11)::(nat_lit 21,o12)::(nat_lit 22,o13)::(nat_lit 29,o20)::(nat_lit 30,o21 P)::(nat_lit 31,o22)::(nat_lit 32,o23)::(nat_lit 35,o26)::(nat_lit 42,o33)::(nat_lit 43,o34 P)::(nat_lit 44,o35)::(nat_lit 47,o38)::(nat_lit 49,o40)::(nat_lit 50,o41)::(nat_lit 52,o43)::(nat_lit 53,o44)::(nat_lit 54,o45)::(nat_lit 57,o48)::(nat_lit 58,o49)::(nat_lit 66,o59)::(nat_lit 68,o61)::(nat_lit 69,o62)::(nat_lit 71,o64)::(nat_lit 72,o65)::(nat_lit 73,o66)::(nat_lit 75,o68)::(nat_lit 76,o69)::(nat_lit 78,o71)::(nat_lit 79,o72)::(nat_lit 80,o73)::(nat_lit 82,o75)::(nat_lit 83,o76)::(nat_lit 85,o78)::(nat_lit 86,o79)::(nat_lit 87,o80)::(nat_lit 89,o82)::(nat_lit 90,o83)::(nat_lit 92,o85)::(nat_lit 93,o86)::(nat_lit 94,o87)::(nat_lit 96,o89)::(nat_lit 97,o90)::(nat_lit 99,o92)::(nat_lit 100,o93)::(nat_lit 101,o94)::(nat_lit 103,o96)::(nat_lit 104,o97)::(nat_lit 106,o99)::(nat_lit 107,WX)::(nat_lit 108,WW)::(nat_lit 110,WV)::(nat_lit 111,WU)::(nat_lit 113,WT)::(nat_lit 114,WS)::(nat_lit 115,WR)::(nat_lit 117,VW)::(nat_lit 118,VV)::(nat_lit 120,VU)::(nat_lit 121,VT)::(nat_lit 122,VS)::(nat_lit 124,WQ)::(nat_lit 125,WO)::(nat_lit 127,zaG)::(nat_lit 128,zaF)::(nat_lit 129,zaE)::(nat_lit 131,zaD)::(nat_lit 132,zaC)::(nat_lit 134,zaB)::(nat_lit 135,zaA)::(nat_lit 136,zaz)::(nat_lit 137,zay P)::(nat_lit 138,zax)::(nat_lit 139,zaw)::(nat_lit 140,zav)::(nat_lit 143,zau)::(nat_lit 145,zat)::(nat_lit 146,zas)::(nat_lit 148,zar)::(nat_lit 149,zaq)::(nat_lit 150,zap)::(nat_lit 152,zao)::(nat_lit 153,zan)::(nat_lit 155,zam)::(nat_lit 156,zal)::(nat_lit 157,zak)::(nat_lit 159,zaj)::(nat_lit 160,zai)::(nat_lit 162,zah)::(nat_lit 163,zag)::(nat_lit 164,zaf)::(nat_lit 166,zae)::(nat_lit 167,zad)::(nat_lit 169,zac)::(nat_lit 170,zab)::(nat_lit 171,zaa)::(nat_lit 173,U9)::(nat_lit 174,U8)::(nat_lit 176,U7)::(nat_lit 177,U6)::(nat_lit 178,U5)::(nat_lit 180,U4)::(nat_lit 181,U3)::(nat_lit 183,U2)::(nat_lit 184,U1)::(nat_lit 185,U0)::(nat_lit 187,UZ)::(nat_lit 188,UY)::(nat_lit 190,UX)::(nat_lit 191,UW)::(nat_lit 192,UV)::(nat_lit 194,UU)::(nat_lit 195,UT)::(nat_lit 197,US)::(nat_lit 198,UR)::(nat_lit 199,UQ)::(nat_lit 201,UP)::(nat_lit 202,UO)::(nat_lit 204,UN)::(nat_lit 205,UM)::(nat_lit 206,UL)::(nat_lit 208,UK)::(nat_lit 209,UJ)::(nat_lit 211,UI)::(nat_lit 212,UH)::(nat_lit 213,UG)::(nat_lit 215,UF)::(nat_lit 216,UE)::(nat_lit 218,UD)::(nat_lit 219,UC)::(nat_lit 227,UB)::(nat_lit 229,UA)::(nat_lit 230,Uz)::(nat_lit 232,Uy)::(nat_lit 233,Ux)::(nat_lit 234,Uw)::(nat_lit 236,Uv)::(nat_lit 237,Uu)::(nat_lit 239,Ut)::(nat_lit 240,Us)::(nat_lit 241,Ur)::(nat_lit 243,Uq)::(nat_lit 244,Up)::(nat_lit 246,zc2)::(nat_lit 247,zc1)::(nat_lit 248,zc0)::(nat_lit 250,zcZ)::(nat_lit 251,zcY)::(nat_lit 253,zcX)::(nat_lit 254,zcW)::(nat_lit 255,zcV)::(nat_lit 257,zcU)::(nat_lit 258,zcT)::(nat_lit 260,zcS)::(nat_lit 261,zcR)::(nat_lit 262,zcQ)::(nat_lit 264,zcP)::(nat_lit 265,zcO)::(nat_lit 267,zcN)::(nat_lit 268,zcM)::(nat_lit 269,zcL)::(nat_lit 271,zcK)::(nat_lit 272,zcJ)::(nat_lit 274,zcI)::(nat_lit 275,zcH)::(nat_lit 276,zcG)::(nat_lit 278,zcF)::(nat_lit 279,zcE)::(nat_lit 281,zcD)::(nat_lit 282,zcC)::(nat_lit 283,zcB)::(nat_lit 284,zcA P)::(nat_lit 285,zcz)::(nat_lit 286,zcy)::(nat_lit 287,zcx)::(nat_lit 290,zcw)::(nat_lit 292,zcv)::(nat_lit 293,zcu)::(nat_lit 295,zct)::(nat_lit 296,zcs)::(nat_lit 297,zcr)::(nat_lit 299,zcq)::(nat_lit 300,zcp)::(nat_lit 302,zco)::(nat_lit 303,zcn)::(nat_lit 304,zcm)::(nat_lit 306,zcl)::(nat_lit 307,zck)::(nat_lit 309,zcj)::(nat_lit 310,zci)::(nat_lit 311,zch)::(nat_lit 314,zcg)::(nat_lit 315,zcf)::(nat_lit 316,zcd)::(nat_lit 318,zcc)::(nat_lit 319,zcb)::(nat_lit 321,zca)::(nat_lit 322,zb9)::(nat_lit 323,zb8)::(nat_lit 326,zb7)::(nat_lit 327,zb6)::(nat_lit 328,zb5)::(nat_lit 330,zb4)::(nat_lit 331,zb3)::(nat_lit 333,zb2)::(nat_lit 334,zb1)::(nat_lit 335,zb0)::(nat_lit 337,zbZ)::(nat_lit 338,zbY)::(nat_lit 340,zbX)::(nat_lit 341,zbW)::(nat_lit 342,zbV)::(nat_lit 344,zbU)::(nat_lit 345,zbT)::(nat_lit 347,zbS)::(nat_lit 348,zbR)::(nat_lit 349,zbQ)::(nat_lit 351,zbP)::(nat_lit 352,zbO)::(nat_lit 354,zbN)::(nat_lit 355,zbM)::(nat_lit 356,zbL)::(nat_lit 359,zbK)::(nat_lit 360,zbJ)::(nat_lit 361,zbI)::(nat_lit 364,zbH)::(nat_lit 365,zbG)::(nat_lit 366,zbF)::(nat_lit 368,zbE)::(nat_lit 369,zbD)::(nat_lit 371,zbC)::(nat_lit 372,zbB)::[]
def as:List Addr:=[2,3,15,17,18,20,21,22,29,30,31,32,35,42,43,44,47,49,50,52,53,54,57,58,66,68,69,71,72,73,75,76,78,79,80,82,83,85,86,87,89,90,92,93,94,96,97,99,100,101,103,104,106,107,108,110,111,113,114,115,117,118,120,121,122,124,125,127,128,129,131,132,134,135,136,137,138,139,140,143,145,146,148,149,150,152,153,155,156,157,159,160,162,163,164,166,167,169,170,171,173,174,176,177,178,180,181,183,184,185,187,188,190,191,192,194,195,197,198,199,201,202,204,205,206,208,209,211,212,213,215,216,218,219,227,229,230,232,233,234,236,237,239,240,241,243,244,246,247,248,250,251,253,254,255,257,258,260,261,262,264,265,267,268,269,271,272,274,275,276,278,279,281,282,283,284,285,286,287,290,292,293,295,296,297,299,300,302,303,304,306,307,309,310,311,314,315,316,318,319,321,322,323,326,327,328,330,331,333,334,335,337,338,340,341,342,344,345,347,348,349,351,352,354,355,356,359,360,361,364,365,366,368,369,371,372]
theorem asK (P:Params):as=(K P).map (·.1):=by kernel_rfl
def Ly (w:World) (os:OsState):List (Option Obj):=as.map (sf w os).heap.get?
def Ry (w:World) (_:OsState):List (Option Obj):=(K w.params).map fun p=>some p.2
theorem qy:tt (Hd.Ly,Hd.Ry)=true:=by k_qdec
theorem ry:∀ w,Fast.tw691215026958702249 w=Hd.Ry w:=fun w=>by kernel_rfl
theorem ey (w:World) (os:OsState):Hd.Ly w os=Hd.Ry w os:=(congrFun (congrFun Fast.te691215026958702249 w) os).trans (congrFun (ry w) os)
abbrev hk:Hook:=kHook K as asK
abbrev zg0:List Str:=importedModules pw.main.body
def A (w:World) (os:OsState):=openSeen Q [] zg0 Xt true (sf w os)
def G (_:World) (_:OsState):=openGood Q []
def A0 (w:World) (os:OsState):=(A w os).1
def G0 (w:World) (os:OsState):=(G w os).1
theorem qA0:tt (Hd.A0,Hd.G0)=true:=by k_qdec
theorem rA0:∀ w,Fast.tw6131166808449026830 w=Hd.G0 w:=fun w=>by kernel_rfl
theorem eA0 (w:World) (os:OsState):Hd.A0 w os=Hd.G0 w os:=(congrFun (congrFun Fast.te6131166808449026830 w) os).trans (congrFun (rA0 w) os)
def A1 (w:World) (os:OsState):=(A w os).2.1
def G1 (w:World) (os:OsState):=(G w os).2.1
theorem qA1:tt (Hd.A1,Hd.G1)=true:=by k_qdec
theorem rA1:∀ w,Fast.tw7581016493306269660 w=Hd.G1 w:=fun w=>by kernel_rfl
theorem eA1 (w:World) (os:OsState):Hd.A1 w os=Hd.G1 w os:=(congrFun (congrFun Fast.te7581016493306269660 w) os).trans (congrFun (rA1 w) os)
def A2 (w:World) (os:OsState):=(A w os).2.2.1
def G2 (w:World) (os:OsState):=(G w os).2.2.1
theorem qA2:tt (Hd.A2,Hd.G2)=true:=by k_qdec
theorem rA2:∀ w,Fast.tw2900191123710467766 w=Hd.G2 w:=fun w=>by kernel_rfl
theorem eA2 (w:World) (os:OsState):Hd.A2 w os=Hd.G2 w os:=(congrFun (congrFun Fast.te2900191123710467766 w) os).trans (congrFun (rA2 w) os)
def A3 (w:World) (os:OsState):=(A w os).2.2.2.1
def G3 (w:World) (os:OsState):=(G w os).2.2.2.1
theorem qA3:tt (Hd.A3,Hd.G3)=true:=by k_qdec
theorem rA3:∀ w,Fast.tw447134267514248570 w=Hd.G3 w:=fun w=>by kernel_rfl
theorem eA3 (w:World) (os:OsState):Hd.A3 w os=Hd.G3 w os:=(congrFun (congrFun Fast.te447134267514248570 w) os).trans (congrFun (rA3 w) os)
def A4 (w:World) (os:OsState):=(A w os).2.2.2.2.1
def G4 (w:World) (os:OsState):=(G w os).2.2.2.2.1
theorem qA4:tt (Hd.A4,Hd.G4)=true:=by k_qdec
theorem rA4:∀ w,Fast.tw14409291123802741499 w=Hd.G4 w:=fun w=>by kernel_rfl
theorem eA4 (w:World) (os:OsState):Hd.A4 w os=Hd.G4 w os:=(congrFun (congrFun Fast.te14409291123802741499 w) os).trans (congrFun (rA4 w) os)
def A5 (w:World) (os:OsState):=(A w os).2.2.2.2.2.1
def G5 (w:World) (os:OsState):=(G w os).2.2.2.2.2.1
theorem qA5:tt (Hd.A5,Hd.G5)=true:=by k_qdec
theorem rA5:∀ w,Fast.tw7163156141784225904 w=Hd.G5 w:=fun w=>by kernel_rfl
theorem eA5 (w:World) (os:OsState):Hd.A5 w os=Hd.G5 w os:=(congrFun (congrFun Fast.te7163156141784225904 w) os).trans (congrFun (rA5 w) os)
def A6 (w:World) (os:OsState):=(A w os).2.2.2.2.2.2.1
def G6 (w:World) (os:OsState):=(G w os).2.2.2.2.2.2.1
theorem qA6:tt (Hd.A6,Hd.G6)=true:=by k_qdec
theorem rA6:∀ w,Fast.tw148487786646926683 w=Hd.G6 w:=fun w=>by kernel_rfl
theorem eA6 (w:World) (os:OsState):Hd.A6 w os=Hd.G6 w os:=(congrFun (congrFun Fast.te148487786646926683 w) os).trans (congrFun (rA6 w) os)
def A7 (w:World) (os:OsState):=(A w os).2.2.2.2.2.2.2.1
def G7 (w:World) (os:OsState):=(G w os).2.2.2.2.2.2.2.1
theorem qA7:tt (Hd.A7,Hd.G7)=true:=by k_qdec
theorem rA7:∀ w,Fast.tw17782257788342479682 w=Hd.G7 w:=fun w=>by kernel_rfl
theorem eA7 (w:World) (os:OsState):Hd.A7 w os=Hd.G7 w os:=(congrFun (congrFun Fast.te17782257788342479682 w) os).trans (congrFun (rA7 w) os)
def A8 (w:World) (os:OsState):=(A w os).2.2.2.2.2.2.2.2
def G8 (w:World) (os:OsState):=(G w os).2.2.2.2.2.2.2.2
theorem qA8:tt (Hd.A8,Hd.G8)=true:=by k_qdec
theorem rA8:∀ w,Fast.tw8885869309975874061 w=Hd.G8 w:=fun w=>by kernel_rfl
theorem eA8 (w:World) (os:OsState):Hd.A8 w os=Hd.G8 w os:=(congrFun (congrFun Fast.te8885869309975874061 w) os).trans (congrFun (rA8 w) os)
def Ls (w:World) (os:OsState):Bool:=staticsOk zg0 (boot_heap w.params) (H1 w.params)&&namesBound pw (H1 w.params)&&gensDone (sf w os)&&laidKept (boot_heap w.params) (H1 w.params)
def Rs (_:World) (_:OsState):Bool:=true
def Lz (w:World) (_:OsState):=((boot_heap w.params).isNs mainGlobals&&(⟨[]⟩:Array GenState).size == 0,(boot_heap w.params).objs.size,(boot_heap w.params).nsMap mainGlobals "__annotations__")
def Rz (_:World) (_:OsState):Bool×Nat×Option Value:=(true,11,an)
theorem qs:tt Hd.Ls=true:=by k_qdec
theorem rs:∀ w,Fast.tw4959303863618478765 w=Hd.Rs w:=fun w=>by kernel_rfl
theorem es (w:World) (os:OsState):Hd.Ls w os=Hd.Rs w os:=(congrFun (congrFun Fast.te4959303863618478765 w) os).trans (congrFun (rs w) os)
theorem qz:tt Hd.Lz=true:=by k_qdec
theorem rz:∀ w,Fast.tw17831390912981975158 w=Hd.Rz w:=fun w=>by kernel_rfl
theorem ez (w:World) (os:OsState):Hd.Lz w os=Hd.Rz w os:=(congrFun (congrFun Fast.te17831390912981975158 w) os).trans (congrFun (rz w) os)
theorem op:opening pw=plainProg pw.main.scope.names:=by kernel_rfl
theorem fe (s:Shared):fenceModules? pw s=some s:=by kernel_rfl
theorem left:LeftO pw Q [] Xt hk.obs hk.val 4626 :=
 LeftO.of_pieces (M:=M) (m₀:=11) (ann:=an) (H₀:=boot_heap) (H₁:=H1) (boot_open op (by kernel_rfl) fe) (fun w=>ez w (start pw).1.os) run (by kernel_rfl) (fun w=>funext fun os=>looks_pair (es w os) (looks_pair
  (Prod.ext (eA0 w os) (Prod.ext (eA1 w os) (Prod.ext (eA2 w os) (Prod.ext (eA3 w os) (Prod.ext (eA4 w os) (Prod.ext (eA5 w os) (Prod.ext (eA6 w os) (Prod.ext (eA7 w os) (eA8 w os)))))))))
  (ey w os)))
theorem both {a b:Bool}(z:(a&&b)=true):a=true∧b=true:=Bool.and_eq_true_iff.mp z
end Hd
end
namespace K04
open PySem L2
abbrev fS (n q:Str) (s:Stmt) (k d p:Value) (a:Option Addr) (c t:Value):FuncData:=PySem.W.fnOf n q (defArgs s) (defBody s) (defScope s) .none k d p a c t
open PySem.W (nsIn findIn isFn codeIn keepIn plainGet hasDictIn plainOver makesIn mroIn specialIn takesIn kitOne mg_of mg_none_of excIn)
theorem txt_mk {w:World}{K:PySem.W.Frag}{h:Heap}{mg:Str→Option Value}(X:K.In h) (G:h.Ns mainGlobals mg)
  {f_qa:Addr}{od0 an0:Option Addr}{sl0:Array (Option Value)}{oc0 kV0 dc0 pm0 cd0 ct0:Value}{f_qb:Addr}{od1 an1:Option Addr}{sl1:Array (Option Value)}{oc1 kV1 dc1 pm1 cd1 ct1:Value}{f_qc:Addr}{od2 an2:Option Addr}{sl2:Array (Option Value)}{oc2 kV2 dc2 pm2 cd2 ct2:Value}{f_qd:Addr}{od3 an3:Option Addr}{sl3:Array (Option Value)}{oc3 kV3 dc3 pm3 cd3 ct3:Value}{f_qe:Addr}{od4 an4:Option Addr}{sl4:Array (Option Value)}{oc4 kV4 dc4 pm4 cd4 ct4:Value}{f_qf:Addr}{od5 an5:Option Addr}{sl5:Array (Option Value)}{oc5 kV5 dc5 pm5 cd5 ct5:Value}{f_qg:Addr}{od6 an6:Option Addr}{sl6:Array (Option Value)}{oc6 kV6 dc6 pm6 cd6 ct6:Value}{f_qh:Addr}{od7 an7:Option Addr}{sl7:Array (Option Value)}{oc7 kV7 dc7 pm7 cd7 ct7:Value}{f_qi:Addr}{od8 an8:Option Addr}{sl8:Array (Option Value)}{oc8 kV8 dc8 pm8 cd8 ct8:Value}{f_qj:Addr}{od9 an9:Option Addr}{sl9:Array (Option Value)}{oc9 kV9 dc9 pm9 cd9 ct9:Value}{f_qk:Addr}{od10 an10:Option Addr}{sl10:Array (Option Value)}{oc10 kV10 dc10 pm10 cd10 ct10:Value}{f_ql:Addr}{od11 an11:Option Addr}{sl11:Array (Option Value)}{oc11 kV11 dc11 pm11 cd11 ct11:Value}{f_qm:Addr}{od12 an12:Option Addr}{sl12:Array (Option Value)}{oc12 kV12 dc12 pm12 cd12 ct12:Value}{f_qn:Addr}{od13 an13:Option Addr}{sl13:Array (Option Value)}{oc13 kV13 dc13 pm13 cd13 ct13:Value}{f_qo:Addr}{od14 an14:Option Addr}{sl14:Array (Option Value)}{oc14 kV14 dc14 pm14 cd14 ct14:Value}{f_qp:Addr}{od15 an15:Option Addr}{sl15:Array (Option Value)}{oc15 kV15 dc15 pm15 cd15 ct15:Value}{f_qq:Addr}{od16 an16:Option Addr}{sl16:Array (Option Value)}{oc16 kV16 dc16 pm16 cd16 ct16:Value}{f_qr:Addr}{od17 an17:Option Addr}{sl17:Array (Option Value)}{oc17 kV17 dc17 pm17 cd17 ct17:Value}{f_qs:Addr}{od18 an18:Option Addr}{sl18:Array (Option Value)}{oc18 kV18 dc18 pm18 cd18 ct18:Value}{f_qt:Addr}{od19 an19:Option Addr}{sl19:Array (Option Value)}{oc19 kV19 dc19 pm19 cd19 ct19:Value}{f_qu:Addr}{od20 an20:Option Addr}{sl20:Array (Option Value)}{oc20 kV20 dc20 pm20 cd20 ct20:Value}{f_qv:Addr}{od21 an21:Option Addr}{sl21:Array (Option Value)}{oc21 kV21 dc21 pm21 cd21 ct21:Value}{f_qw:Addr}{od22 an22:Option Addr}{sl22:Array (Option Value)}{oc22 kV22 dc22 pm22 cd22 ct22:Value}{f_qx:Addr}{od23 an23:Option Addr}{sl23:Array (Option Value)}{oc23 kV23 dc23 pm23 cd23 ct23:Value}{f_qy:Addr}{od24 an24:Option Addr}{sl24:Array (Option Value)}{oc24 kV24 dc24 pm24 cd24 ct24:Value}{f_qz:Addr}{od25 an25:Option Addr}{sl25:Array (Option Value)}{oc25 kV25 dc25 pm25 cd25 ct25:Value}{f_qA:Addr}{od26 an26:Option Addr}{sl26:Array (Option Value)}{oc26 kV26 dc26 pm26 cd26 ct26:Value}{f_qB:Addr}{od27 an27:Option Addr}{sl27:Array (Option Value)}{oc27 kV27 dc27 pm27 cd27 ct27:Value}{f_qC:Addr}{od28 an28:Option Addr}{sl28:Array (Option Value)}{oc28 kV28 dc28 pm28 cd28 ct28:Value}{f_qD:Addr}{od29 an29:Option Addr}{sl29:Array (Option Value)}{oc29 kV29 dc29 pm29 cd29 ct29:Value}{f_qE:Addr}{od30 an30:Option Addr}{sl30:Array (Option Value)}{oc30 kV30 dc30 pm30 cd30 ct30:Value}{f_qF:Addr}{od31 an31:Option Addr}{sl31:Array (Option Value)}{oc31 kV31 dc31 pm31 cd31 ct31:Value}{f_qG:Addr}{od32 an32:Option Addr}{sl32:Array (Option Value)}{oc32 kV32 dc32 pm32 cd32 ct32:Value}{f_qH:Addr}{od33 an33:Option Addr}{sl33:Array (Option Value)}{oc33 kV33 dc33 pm33 cd33 ct33:Value}{f_qI:Addr}{od34 an34:Option Addr}{sl34:Array (Option Value)}{oc34 kV34 dc34 pm34 cd34 ct34:Value}{f_qJ:Addr}{od35 an35:Option Addr}{sl35:Array (Option Value)}{oc35 kV35 dc35 pm35 cd35 ct35:Value}{f_qK:Addr}{od36 an36:Option Addr}{sl36:Array (Option Value)}{oc36 kV36 dc36 pm36 cd36 ct36:Value}{c_Way:Addr}{c_Web:Addr}{t_MOST_HANDS:Tok}{t_LAST_HAND:Tok}
  (z_len:nsIn K mainGlobals "len" = some none)
  (z_int:nsIn K mainGlobals "int" = some none)
  (z_max:nsIn K mainGlobals "max" = some none)
  (z_range:nsIn K mainGlobals "range" = some none)
  (z_isinstance:nsIn K mainGlobals "isinstance" = some none)
  (z_list:nsIn K mainGlobals "list" = some none)
  (z_dict:nsIn K mainGlobals "dict" = some none)
  (z_sorted:nsIn K mainGlobals "sorted" = some none)
  (z_bool:nsIn K mainGlobals "bool" = some none)
  (z_tuple:nsIn K mainGlobals "tuple" = some none)
  (z_set:nsIn K mainGlobals "set" = some none)
  (z_ValueError:nsIn K mainGlobals "ValueError" = some none)
  (A_Way:nsIn K mainGlobals "Way" = some (some (.ref c_Way)))
  (A_Web:nsIn K mainGlobals "Web" = some (some (.ref c_Web)))
  (a_0:nsIn K mainGlobals "is_whole" = some (some (.ref f_qa)))
  (l_0:K.lookup f_qa=some ⟨oc0,od0,.func (fS "is_whole" "is_whole" Zf kV0 dc0 pm0 an0 cd0 ct0),sl0⟩)
  (cc_0:codeIn K cd0 "is_whole" = true)
  (kk_0:keepIn K (.ref f_qa)=true)
  (a_1:nsIn K mainGlobals "copied" = some (some (.ref f_qb)))
  (l_1:K.lookup f_qb=some ⟨oc1,od1,.func (fS "copied" "copied" Ze kV1 dc1 pm1 an1 cd1 ct1),sl1⟩)
  (cc_1:codeIn K cd1 "copied" = true)
  (kk_1:keepIn K (.ref f_qb)=true)
  (a_2:nsIn K mainGlobals "are_parents" = some (some (.ref f_qc)))
  (l_2:K.lookup f_qc=some ⟨oc2,od2,.func (fS "are_parents" "are_parents" Zd kV2 dc2 pm2 an2 cd2 ct2),sl2⟩)
  (cc_2:codeIn K cd2 "are_parents" = true)
  (kk_2:keepIn K (.ref f_qc)=true)
  (a_3:nsIn K mainGlobals "come_to_leaders" = some (some (.ref f_qd)))
  (l_3:K.lookup f_qd=some ⟨oc3,od3,.func (fS "come_to_leaders" "come_to_leaders" Zc kV3 dc3 pm3 an3 cd3 ct3),sl3⟩)
  (cc_3:codeIn K cd3 "come_to_leaders" = true)
  (kk_3:keepIn K (.ref f_qd)=true)
  (a_4:nsIn K mainGlobals "is_bridge" = some (some (.ref f_qe)))
  (l_4:K.lookup f_qe=some ⟨oc4,od4,.func (fS "is_bridge" "is_bridge" Zb kV4 dc4 pm4 an4 cd4 ct4),sl4⟩)
  (cc_4:codeIn K cd4 "is_bridge" = true)
  (kk_4:keepIn K (.ref f_qe)=true)
  (a_5:nsIn K mainGlobals "are_bridges" = some (some (.ref f_qf)))
  (l_5:K.lookup f_qf=some ⟨oc5,od5,.func (fS "are_bridges" "are_bridges" Za kV5 dc5 pm5 an5 cd5 ct5),sl5⟩)
  (cc_5:codeIn K cd5 "are_bridges" = true)
  (kk_5:keepIn K (.ref f_qf)=true)
  (a_6:nsIn K mainGlobals "is_grounded" = some (some (.ref f_qg)))
  (l_6:K.lookup f_qg=some ⟨oc6,od6,.func (fS "is_grounded" "is_grounded" u9 kV6 dc6 pm6 an6 cd6 ct6),sl6⟩)
  (cc_6:codeIn K cd6 "is_grounded" = true)
  (kk_6:keepIn K (.ref f_qg)=true)
  (a_7:nsIn K mainGlobals "first_joins" = some (some (.ref f_qh)))
  (l_7:K.lookup f_qh=some ⟨oc7,od7,.func (fS "first_joins" "first_joins" u8 kV7 dc7 pm7 an7 cd7 ct7),sl7⟩)
  (cc_7:codeIn K cd7 "first_joins" = true)
  (kk_7:keepIn K (.ref f_qh)=true)
  (a_8:nsIn K mainGlobals "lets" = some (some (.ref f_qi)))
  (l_8:K.lookup f_qi=some ⟨oc8,od8,.func (fS "lets" "lets" u7 kV8 dc8 pm8 an8 cd8 ct8),sl8⟩)
  (cc_8:codeIn K cd8 "lets" = true)
  (kk_8:keepIn K (.ref f_qi)=true)
  (a_9:nsIn K mainGlobals "are_hands" = some (some (.ref f_qj)))
  (l_9:K.lookup f_qj=some ⟨oc9,od9,.func (fS "are_hands" "are_hands" u6 kV9 dc9 pm9 an9 cd9 ct9),sl9⟩)
  (cc_9:codeIn K cd9 "are_hands" = true)
  (kk_9:keepIn K (.ref f_qj)=true)
  (a_10:nsIn K mainGlobals "is_line" = some (some (.ref f_qk)))
  (l_10:K.lookup f_qk=some ⟨oc10,od10,.func (fS "is_line" "is_line" u4 kV10 dc10 pm10 an10 cd10 ct10),sl10⟩)
  (cc_10:codeIn K cd10 "is_line" = true)
  (kk_10:keepIn K (.ref f_qk)=true)
  (a_11:nsIn K mainGlobals "are_lines" = some (some (.ref f_ql)))
  (l_11:K.lookup f_ql=some ⟨oc11,od11,.func (fS "are_lines" "are_lines" u3 kV11 dc11 pm11 an11 cd11 ct11),sl11⟩)
  (cc_11:codeIn K cd11 "are_lines" = true)
  (kk_11:keepIn K (.ref f_ql)=true)
  (a_12:nsIn K mainGlobals "near_by_hand" = some (some (.ref f_qm)))
  (l_12:K.lookup f_qm=some ⟨oc12,od12,.func (fS "near_by_hand" "near_by_hand" u0 kV12 dc12 pm12 an12 cd12 ct12),sl12⟩)
  (cc_12:codeIn K cd12 "near_by_hand" = true)
  (kk_12:keepIn K (.ref f_qm)=true)
  (a_13:nsIn K mainGlobals "_law_cell_at" = some (some (.ref f_qn)))
  (l_13:K.lookup f_qn=some ⟨oc13,od13,.func (fS "_law_cell_at" "_law_cell_at" uZ kV13 dc13 pm13 an13 cd13 ct13),sl13⟩)
  (cc_13:codeIn K cd13 "_law_cell_at" = true)
  (kk_13:keepIn K (.ref f_qn)=true)
  (a_14:nsIn K mainGlobals "_law_draws" = some (some (.ref f_qo)))
  (l_14:K.lookup f_qo=some ⟨oc14,od14,.func (fS "_law_draws" "_law_draws" uY kV14 dc14 pm14 an14 cd14 ct14),sl14⟩)
  (cc_14:codeIn K cd14 "_law_draws" = true)
  (kk_14:keepIn K (.ref f_qo)=true)
  (a_15:nsIn K mainGlobals "_law_take" = some (some (.ref f_qp)))
  (l_15:K.lookup f_qp=some ⟨oc15,od15,.func (fS "_law_take" "_law_take" um kV15 dc15 pm15 an15 cd15 ct15),sl15⟩)
  (cc_15:codeIn K cd15 "_law_take" = true)
  (kk_15:keepIn K (.ref f_qp)=true)
  (a_16:nsIn K mainGlobals "_law_hands" = some (some (.ref f_qq)))
  (l_16:K.lookup f_qq=some ⟨oc16,od16,.func (fS "_law_hands" "_law_hands" uX kV16 dc16 pm16 an16 cd16 ct16),sl16⟩)
  (cc_16:codeIn K cd16 "_law_hands" = true)
  (kk_16:keepIn K (.ref f_qq)=true)
  (a_17:nsIn K mainGlobals "_law_lines" = some (some (.ref f_qr)))
  (l_17:K.lookup f_qr=some ⟨oc17,od17,.func (fS "_law_lines" "_law_lines" uW kV17 dc17 pm17 an17 cd17 ct17),sl17⟩)
  (cc_17:codeIn K cd17 "_law_lines" = true)
  (kk_17:keepIn K (.ref f_qr)=true)
  (a_18:nsIn K mainGlobals "_law_near" = some (some (.ref f_qs)))
  (l_18:K.lookup f_qs=some ⟨oc18,od18,.func (fS "_law_near" "_law_near" uV kV18 dc18 pm18 an18 cd18 ct18),sl18⟩)
  (cc_18:codeIn K cd18 "_law_near" = true)
  (kk_18:keepIn K (.ref f_qs)=true)
  (a_19:nsIn K mainGlobals "_law_up" = some (some (.ref f_qt)))
  (l_19:K.lookup f_qt=some ⟨oc19,od19,.func (fS "_law_up" "_law_up" uU kV19 dc19 pm19 an19 cd19 ct19),sl19⟩)
  (cc_19:codeIn K cd19 "_law_up" = true)
  (kk_19:keepIn K (.ref f_qt)=true)
  (a_20:nsIn K mainGlobals "_law_both" = some (some (.ref f_qu)))
  (l_20:K.lookup f_qu=some ⟨oc20,od20,.func (fS "_law_both" "_law_both" uT kV20 dc20 pm20 an20 cd20 ct20),sl20⟩)
  (cc_20:codeIn K cd20 "_law_both" = true)
  (kk_20:keepIn K (.ref f_qu)=true)
  (a_21:nsIn K mainGlobals "_law_is_whole" = some (some (.ref f_qv)))
  (l_21:K.lookup f_qv=some ⟨oc21,od21,.func (fS "_law_is_whole" "_law_is_whole" uS kV21 dc21 pm21 an21 cd21 ct21),sl21⟩)
  (cc_21:codeIn K cd21 "_law_is_whole" = true)
  (kk_21:keepIn K (.ref f_qv)=true)
  (a_22:nsIn K mainGlobals "_law_is_line" = some (some (.ref f_qw)))
  (l_22:K.lookup f_qw=some ⟨oc22,od22,.func (fS "_law_is_line" "_law_is_line" ul kV22 dc22 pm22 an22 cd22 ct22),sl22⟩)
  (cc_22:codeIn K cd22 "_law_is_line" = true)
  (kk_22:keepIn K (.ref f_qw)=true)
  (a_23:nsIn K mainGlobals "_law_lets" = some (some (.ref f_qx)))
  (l_23:K.lookup f_qx=some ⟨oc23,od23,.func (fS "_law_lets" "_law_lets" uj kV23 dc23 pm23 an23 cd23 ct23),sl23⟩)
  (cc_23:codeIn K cd23 "_law_lets" = true)
  (kk_23:keepIn K (.ref f_qx)=true)
  (a_24:nsIn K mainGlobals "_law_any_way" = some (some (.ref f_qy)))
  (l_24:K.lookup f_qy=some ⟨oc24,od24,.func (fS "_law_any_way" "_law_any_way" ui kV24 dc24 pm24 an24 cd24 ct24),sl24⟩)
  (cc_24:codeIn K cd24 "_law_any_way" = true)
  (kk_24:keepIn K (.ref f_qy)=true)
  (a_25:nsIn K mainGlobals "law" = some (some (.ref f_qz)))
  (l_25:K.lookup f_qz=some ⟨oc25,od25,.func (fS "law" "law" uR kV25 dc25 pm25 an25 cd25 ct25),sl25⟩)
  (cc_25:codeIn K cd25 "law" = true)
  (kk_25:keepIn K (.ref f_qz)=true)
  (a_26:findIn K (.ref c_Way) "__init__" = some (some (.ref f_qA)))
  (i_26:isFn K (.ref f_qA)=true)
  (l_26:K.lookup f_qA=some ⟨oc26,od26,.func (fS "__init__" "Way.__init__" Zq kV26 dc26 pm26 an26 cd26 ct26),sl26⟩)
  (cc_26:codeIn K cd26 "Way.__init__" = true)
  (kk_26:keepIn K (.ref f_qA)=true)
  (a_27:findIn K (.ref c_Way) "parent_of" = some (some (.ref f_qB)))
  (i_27:isFn K (.ref f_qB)=true)
  (l_27:K.lookup f_qB=some ⟨oc27,od27,.func (fS "parent_of" "Way.parent_of" Zp kV27 dc27 pm27 an27 cd27 ct27),sl27⟩)
  (cc_27:codeIn K cd27 "Way.parent_of" = true)
  (kk_27:keepIn K (.ref f_qB)=true)
  (a_28:findIn K (.ref c_Way) "all_parents" = some (some (.ref f_qC)))
  (i_28:isFn K (.ref f_qC)=true)
  (l_28:K.lookup f_qC=some ⟨oc28,od28,.func (fS "all_parents" "Way.all_parents" Zo kV28 dc28 pm28 an28 cd28 ct28),sl28⟩)
  (cc_28:codeIn K cd28 "Way.all_parents" = true)
  (kk_28:keepIn K (.ref f_qC)=true)
  (a_29:findIn K (.ref c_Way) "all_bridges" = some (some (.ref f_qD)))
  (i_29:isFn K (.ref f_qD)=true)
  (l_29:K.lookup f_qD=some ⟨oc29,od29,.func (fS "all_bridges" "Way.all_bridges" Zn kV29 dc29 pm29 an29 cd29 ct29),sl29⟩)
  (cc_29:codeIn K cd29 "Way.all_bridges" = true)
  (kk_29:keepIn K (.ref f_qD)=true)
  (a_30:findIn K (.ref c_Way) "path_up" = some (some (.ref f_qE)))
  (i_30:isFn K (.ref f_qE)=true)
  (l_30:K.lookup f_qE=some ⟨oc30,od30,.func (fS "path_up" "Way.path_up" Zm kV30 dc30 pm30 an30 cd30 ct30),sl30⟩)
  (cc_30:codeIn K cd30 "Way.path_up" = true)
  (kk_30:keepIn K (.ref f_qE)=true)
  (a_31:findIn K (.ref c_Way) "leader" = some (some (.ref f_qF)))
  (i_31:isFn K (.ref f_qF)=true)
  (l_31:K.lookup f_qF=some ⟨oc31,od31,.func (fS "leader" "Way.leader" Zl kV31 dc31 pm31 an31 cd31 ct31),sl31⟩)
  (cc_31:codeIn K cd31 "Way.leader" = true)
  (kk_31:keepIn K (.ref f_qF)=true)
  (a_32:findIn K (.ref c_Web) "__init__" = some (some (.ref f_qG)))
  (i_32:isFn K (.ref f_qG)=true)
  (l_32:K.lookup f_qG=some ⟨oc32,od32,.func (fS "__init__" "Web.__init__" Zk kV32 dc32 pm32 an32 cd32 ct32),sl32⟩)
  (cc_32:codeIn K cd32 "Web.__init__" = true)
  (kk_32:keepIn K (.ref f_qG)=true)
  (a_33:findIn K (.ref c_Web) "hands" = some (some (.ref f_qH)))
  (i_33:isFn K (.ref f_qH)=true)
  (l_33:K.lookup f_qH=some ⟨oc33,od33,.func (fS "hands" "Web.hands" Zj kV33 dc33 pm33 an33 cd33 ct33),sl33⟩)
  (cc_33:codeIn K cd33 "Web.hands" = true)
  (kk_33:keepIn K (.ref f_qH)=true)
  (a_34:findIn K (.ref c_Web) "lines" = some (some (.ref f_qI)))
  (i_34:isFn K (.ref f_qI)=true)
  (l_34:K.lookup f_qI=some ⟨oc34,od34,.func (fS "lines" "Web.lines" Zi kV34 dc34 pm34 an34 cd34 ct34),sl34⟩)
  (cc_34:codeIn K cd34 "Web.lines" = true)
  (kk_34:keepIn K (.ref f_qI)=true)
  (a_35:findIn K (.ref c_Web) "has_hand" = some (some (.ref f_qJ)))
  (i_35:isFn K (.ref f_qJ)=true)
  (l_35:K.lookup f_qJ=some ⟨oc35,od35,.func (fS "has_hand" "Web.has_hand" Zh kV35 dc35 pm35 an35 cd35 ct35),sl35⟩)
  (cc_35:codeIn K cd35 "Web.has_hand" = true)
  (kk_35:keepIn K (.ref f_qJ)=true)
  (a_36:findIn K (.ref c_Web) "has_line" = some (some (.ref f_qK)))
  (i_36:isFn K (.ref f_qK)=true)
  (l_36:K.lookup f_qK=some ⟨oc36,od36,.func (fS "has_line" "Web.has_line" Zg kV36 dc36 pm36 an36 cd36 ct36),sl36⟩)
  (cc_36:codeIn K cd36 "Web.has_line" = true)
  (kk_36:keepIn K (.ref f_qK)=true)
  (pg_Way:plainGet K c_Way Str.empty=true)
  (hd_Way:hasDictIn K c_Way=true)
  (po_Way:plainOver K c_Way=true)
  (sa_Way:findIn K (.ref c_Way) "__setattr__" = some (some (.builtin "object.__setattr__")))
  (mk_Way:makesIn K c_Way=true)
  (kc_Way:keepIn K (.ref c_Way)=true)
  (ha_Way:findIn K (.ref c_Way) "__class__" = some (some (.builtin "object.__class__")))
  (hm_Way:mroIn K c_Way (.type "object")=some true)
  (na_Way_own_parents:findIn K (.ref c_Way) "own_parents" = some none)
  (na_Way_own_bridges:findIn K (.ref c_Way) "own_bridges" = some none)
  (pg_Web:plainGet K c_Web Str.empty=true)
  (hd_Web:hasDictIn K c_Web=true)
  (po_Web:plainOver K c_Web=true)
  (sa_Web:findIn K (.ref c_Web) "__setattr__" = some (some (.builtin "object.__setattr__")))
  (mk_Web:makesIn K c_Web=true)
  (kc_Web:keepIn K (.ref c_Web)=true)
  (ha_Web:findIn K (.ref c_Web) "__class__" = some (some (.builtin "object.__class__")))
  (hm_Web:mroIn K c_Web (.type "object")=some true)
  (na_Web_own_hands:findIn K (.ref c_Web) "own_hands" = some none)
  (na_Web_own_lines:findIn K (.ref c_Web) "own_lines" = some none)
  (na_Web_near:findIn K (.ref c_Web) "near" = some none)
  (hn:specialIn K (.builtin "object.__class__") "__get__" = some (some (.builtin "getset_descriptor.__get__")))
  (htk:takesIn K (.builtin "object.__class__")=some true)
  (k_tint_tint:kitOne K (.type "int") (.type "int")=some true)
  (k_tint_tbool:kitOne K (.type "int") (.type "bool")=some false)
  (k_tlist_tlist:kitOne K (.type "list") (.type "list")=some true)
  (k_ttuple_ttuple:kitOne K (.type "tuple") (.type "tuple")=some true)
  (k_ttuple_tlist:kitOne K (.type "tuple") (.type "list")=some false)
  (k_tdict_tlist:kitOne K (.type "dict") (.type "list")=some false)
  (k_tdict_ttuple:kitOne K (.type "dict") (.type "tuple")=some false)
  (k_tdict_tdict:kitOne K (.type "dict") (.type "dict")=some true)
  (k_tint_tlist:kitOne K (.type "int") (.type "list")=some false)
  (k_tint_ttuple:kitOne K (.type "int") (.type "tuple")=some false)
  (k_tint_tdict:kitOne K (.type "int") (.type "dict")=some false)
  (k_tNoneType_tlist:kitOne K (.type "NoneType") (.type "list")=some false)
  (k_tNoneType_ttuple:kitOne K (.type "NoneType") (.type "tuple")=some false)
  (k_tNoneType_tdict:kitOne K (.type "NoneType") (.type "dict")=some false)
  (k_tNoneType_tint:kitOne K (.type "NoneType") (.type "int")=some false)
  (k_tstr_tint:kitOne K (.type "str") (.type "int")=some false)
  (k_Way_Way:kitOne K (.ref c_Way) (.ref c_Way)=some true)
  (k_tbool_tbool:kitOne K (.type "bool") (.type "bool")=some true)
  (G_MOST_HANDS:nsIn K mainGlobals "MOST_HANDS" = some (some (.int 12 t_MOST_HANDS)))
  (G_LAST_HAND:nsIn K mainGlobals "LAST_HAND" = some (some (.int 99 t_LAST_HAND))) :
  ∃ a:Ad,Txt w K mg a:=by
 have F0:=zC (st:=Zf) l_0 cc_0 kk_0
 have F1:=zC (st:=Ze) l_1 cc_1 kk_1
 have F2:=zC (st:=Zd) l_2 cc_2 kk_2
 have F3:=zC (st:=Zc) l_3 cc_3 kk_3
 have F4:=zC (st:=Zb) l_4 cc_4 kk_4
 have F5:=zC (st:=Za) l_5 cc_5 kk_5
 have F6:=zC (st:=u9) l_6 cc_6 kk_6
 have F7:=zC (st:=u8) l_7 cc_7 kk_7
 have F8:=zC (st:=u7) l_8 cc_8 kk_8
 have F9:=zC (st:=u6) l_9 cc_9 kk_9
 have F10:=zC (st:=u4) l_10 cc_10 kk_10
 have F11:=zC (st:=u3) l_11 cc_11 kk_11
 have F12:=zC (st:=u0) l_12 cc_12 kk_12
 have F13:=zC (st:=uZ) l_13 cc_13 kk_13
 have F14:=zC (st:=uY) l_14 cc_14 kk_14
 have F15:=zC (st:=um) l_15 cc_15 kk_15
 have F16:=zC (st:=uX) l_16 cc_16 kk_16
 have F17:=zC (st:=uW) l_17 cc_17 kk_17
 have F18:=zC (st:=uV) l_18 cc_18 kk_18
 have F19:=zC (st:=uU) l_19 cc_19 kk_19
 have F20:=zC (st:=uT) l_20 cc_20 kk_20
 have F21:=zC (st:=uS) l_21 cc_21 kk_21
 have F22:=zC (st:=ul) l_22 cc_22 kk_22
 have F23:=zC (st:=uj) l_23 cc_23 kk_23
 have F24:=zC (st:=ui) l_24 cc_24 kk_24
 have F25:=zC (st:=uR) l_25 cc_25 kk_25
 have F26:=zC (st:=Zq) l_26 cc_26 kk_26
 have F27:=zC (st:=Zp) l_27 cc_27 kk_27
 have F28:=zC (st:=Zo) l_28 cc_28 kk_28
 have F29:=zC (st:=Zn) l_29 cc_29 kk_29
 have F30:=zC (st:=Zm) l_30 cc_30 kk_30
 have F31:=zC (st:=Zl) l_31 cc_31 kk_31
 have F32:=zC (st:=Zk) l_32 cc_32 kk_32
 have F33:=zC (st:=Zj) l_33 cc_33 kk_33
 have F34:=zC (st:=Zi) l_34 cc_34 kk_34
 have F35:=zC (st:=Zh) l_35 cc_35 kk_35
 have F36:=zC (st:=Zg) l_36 cc_36 kk_36
 refine⟨⟨f_qa,fS "is_whole" "is_whole" Zf kV0 dc0 pm0 an0 cd0 ct0,f_qb,fS "copied" "copied" Ze kV1 dc1 pm1 an1 cd1 ct1,f_qc,fS "are_parents" "are_parents" Zd kV2 dc2 pm2 an2 cd2 ct2,f_qd,fS "come_to_leaders" "come_to_leaders" Zc kV3 dc3 pm3 an3 cd3 ct3,f_qe,fS "is_bridge" "is_bridge" Zb kV4 dc4 pm4 an4 cd4 ct4,f_qf,fS "are_bridges" "are_bridges" Za kV5 dc5 pm5 an5 cd5 ct5,f_qg,fS "is_grounded" "is_grounded" u9 kV6 dc6 pm6 an6 cd6 ct6,f_qh,fS "first_joins" "first_joins" u8 kV7 dc7 pm7 an7 cd7 ct7,f_qi,fS "lets" "lets" u7 kV8 dc8 pm8 an8 cd8 ct8,f_qj,fS "are_hands" "are_hands" u6 kV9 dc9 pm9 an9 cd9 ct9,f_qk,fS "is_line" "is_line" u4 kV10 dc10 pm10 an10 cd10 ct10,f_ql,fS "are_lines" "are_lines" u3 kV11 dc11 pm11 an11 cd11 ct11,f_qm,fS "near_by_hand" "near_by_hand" u0 kV12 dc12 pm12 an12 cd12 ct12,f_qn,fS "_law_cell_at" "_law_cell_at" uZ kV13 dc13 pm13 an13 cd13 ct13,f_qo,fS "_law_draws" "_law_draws" uY kV14 dc14 pm14 an14 cd14 ct14,f_qp,fS "_law_take" "_law_take" um kV15 dc15 pm15 an15 cd15 ct15,f_qq,fS "_law_hands" "_law_hands" uX kV16 dc16 pm16 an16 cd16 ct16,f_qr,fS "_law_lines" "_law_lines" uW kV17 dc17 pm17 an17 cd17 ct17,f_qs,fS "_law_near" "_law_near" uV kV18 dc18 pm18 an18 cd18 ct18,f_qt,fS "_law_up" "_law_up" uU kV19 dc19 pm19 an19 cd19 ct19,f_qu,fS "_law_both" "_law_both" uT kV20 dc20 pm20 an20 cd20 ct20,f_qv,fS "_law_is_whole" "_law_is_whole" uS kV21 dc21 pm21 an21 cd21 ct21,f_qw,fS "_law_is_line" "_law_is_line" ul kV22 dc22 pm22 an22 cd22 ct22,f_qx,fS "_law_lets" "_law_lets" uj kV23 dc23 pm23 an23 cd23 ct23,f_qy,fS "_law_any_way" "_law_any_way" ui kV24 dc24 pm24 an24 cd24 ct24,f_qz,fS "law" "law" uR kV25 dc25 pm25 an25 cd25 ct25,f_qA,fS "__init__" "Way.__init__" Zq kV26 dc26 pm26 an26 cd26 ct26,f_qB,fS "parent_of" "Way.parent_of" Zp kV27 dc27 pm27 an27 cd27 ct27,f_qC,fS "all_parents" "Way.all_parents" Zo kV28 dc28 pm28 an28 cd28 ct28,f_qD,fS "all_bridges" "Way.all_bridges" Zn kV29 dc29 pm29 an29 cd29 ct29,f_qE,fS "path_up" "Way.path_up" Zm kV30 dc30 pm30 an30 cd30 ct30,f_qF,fS "leader" "Way.leader" Zl kV31 dc31 pm31 an31 cd31 ct31,f_qG,fS "__init__" "Web.__init__" Zk kV32 dc32 pm32 an32 cd32 ct32,f_qH,fS "hands" "Web.hands" Zj kV33 dc33 pm33 an33 cd33 ct33,f_qI,fS "lines" "Web.lines" Zi kV34 dc34 pm34 an34 cd34 ct34,f_qJ,fS "has_hand" "Web.has_hand" Zh kV35 dc35 pm35 an35 cd35 ct35,f_qK,fS "has_line" "Web.has_line" Zg kV36 dc36 pm36 an36 cd36 ct36,c_Way,c_Web,t_MOST_HANDS,t_LAST_HAND⟩,?_⟩
 exact⟨mg_none_of X G z_len,
  mg_none_of X G z_int,
  mg_none_of X G z_max,
  mg_none_of X G z_range,
  mg_none_of X G z_isinstance,
  mg_none_of X G z_list,
  mg_none_of X G z_dict,
  mg_none_of X G z_sorted,
  mg_none_of X G z_bool,
  mg_none_of X G z_tuple,
  mg_none_of X G z_set,
  mg_none_of X G z_ValueError,
  F0,
  F0.binds (ps:=["value"]) fun _ _ _ _ _ _ us hl=>match us,hl with | [_],_=>rfl,
  mg_of X G a_0,
  F1,
  F1.binds (ps:=["value"]) fun _ _ _ _ _ _ us hl=>match us,hl with | [_],_=>rfl,
  mg_of X G a_1,
  F2,
  F2.binds (ps:=["web", "parents"]) fun _ _ _ _ _ _ us hl=>match us,hl with | [_,_],_=>rfl,
  mg_of X G a_2,
  F3,
  F3.binds (ps:=["web", "way"]) fun _ _ _ _ _ _ us hl=>match us,hl with | [_,_],_=>rfl,
  mg_of X G a_3,
  F4,
  F4.binds (ps:=["web", "way", "bridge"]) fun _ _ _ _ _ _ us hl=>match us,hl with | [_,_,_],_=>rfl,
  mg_of X G a_4,
  F5,
  F5.binds (ps:=["web", "way", "bridges"]) fun _ _ _ _ _ _ us hl=>match us,hl with | [_,_,_],_=>rfl,
  mg_of X G a_5,
  F6,
  F6.binds (ps:=["web", "way"]) fun _ _ _ _ _ _ us hl=>match us,hl with | [_,_],_=>rfl,
  mg_of X G a_6,
  F7,
  F7.binds (ps:=["way", "lines"]) fun _ _ _ _ _ _ us hl=>match us,hl with | [_,_],_=>rfl,
  mg_of X G a_7,
  F8,
  F8.binds (ps:=["web", "way"]) fun _ _ _ _ _ _ us hl=>match us,hl with | [_,_],_=>rfl,
  mg_of X G a_8,
  F9,
  F9.binds (ps:=["hands"]) fun _ _ _ _ _ _ us hl=>match us,hl with | [_],_=>rfl,
  mg_of X G a_9,
  F10,
  F10.binds (ps:=["line", "hands"]) fun _ _ _ _ _ _ us hl=>match us,hl with | [_,_],_=>rfl,
  mg_of X G a_10,
  F11,
  F11.binds (ps:=["lines", "hands"]) fun _ _ _ _ _ _ us hl=>match us,hl with | [_,_],_=>rfl,
  mg_of X G a_11,
  F12,
  F12.binds (ps:=["hands", "lines"]) fun _ _ _ _ _ _ us hl=>match us,hl with | [_,_],_=>rfl,
  mg_of X G a_12,
  F13,
  F13.binds (ps:=["_law_script", "_law_k"]) fun _ _ _ _ _ _ us hl=>match us,hl with | [_,_],_=>rfl,
  mg_of X G a_13,
  F14,
  F14.binds (ps:=["_law_cell", "_law_many"]) fun _ _ _ _ _ _ us hl=>match us,hl with | [_,_],_=>rfl,
  mg_of X G a_14,
  F15,
  F15.binds (ps:=["_law_xs", "_law_size"]) fun _ _ _ _ _ _ us hl=>match us,hl with | [_,_],_=>rfl,
  mg_of X G a_15,
  F16,
  F16.binds (ps:=["_law_xs", "_law_most"]) fun _ _ _ _ _ _ us hl=>match us,hl with | [_,_],_=>rfl,
  mg_of X G a_16,
  F17,
  F17.binds (ps:=["_law_xs", "_law_hands_here"]) fun _ _ _ _ _ _ us hl=>match us,hl with | [_,_],_=>rfl,
  mg_of X G a_17,
  F18,
  F18.binds (ps:=["_law_lines_here", "_law_hand"]) fun _ _ _ _ _ _ us hl=>match us,hl with | [_,_],_=>rfl,
  mg_of X G a_18,
  F19,
  F19.binds (ps:=["_law_parents", "_law_hand"]) fun _ _ _ _ _ _ us hl=>match us,hl with | [_,_],_=>rfl,
  mg_of X G a_19,
  F20,
  F20.binds (ps:=["_law_parents", "_law_one", "_law_other"]) fun _ _ _ _ _ _ us hl=>match us,hl with | [_,_,_],_=>rfl,
  mg_of X G a_20,
  F21,
  F21.binds (ps:=["_law_thing"]) fun _ _ _ _ _ _ us hl=>match us,hl with | [_],_=>rfl,
  mg_of X G a_21,
  F22,
  F22.binds (ps:=["_law_lines_here", "_law_thing"]) fun _ _ _ _ _ _ us hl=>match us,hl with | [_,_],_=>rfl,
  mg_of X G a_22,
  F23,
  F23.binds (ps:=["_law_hands_here", "_law_lines_here", "_law_parents", "_law_bridges"]) fun _ _ _ _ _ _ us hl=>match us,hl with | [_,_,_,_],_=>rfl,
  mg_of X G a_23,
  F24,
  F24.binds (ps:=["_law_xs", "_law_hands_here", "_law_lines_here"]) fun _ _ _ _ _ _ us hl=>match us,hl with | [_,_,_],_=>rfl,
  mg_of X G a_24,
  F25,
  F25.binds (ps:=["_law_script"]) fun _ _ _ _ _ _ us hl=>match us,hl with | [_],_=>rfl,
  fun s v=>.of_eq rfl,
  mg_of X G a_25,
  F26,
  F26.binds (ps:=["self", "parents", "bridges"]) fun _ _ _ _ _ _ us hl=>match us,hl with | [_,_,_],_=>rfl,
  F27,
  F27.binds (ps:=["self", "hand"]) fun _ _ _ _ _ _ us hl=>match us,hl with | [_,_],_=>rfl,
  ⟨a_27,i_27,kk_27⟩,
  F28,
  F28.binds (ps:=["self"]) fun _ _ _ _ _ _ us hl=>match us,hl with | [_],_=>rfl,
  ⟨a_28,i_28,kk_28⟩,
  F29,
  F29.binds (ps:=["self"]) fun _ _ _ _ _ _ us hl=>match us,hl with | [_],_=>rfl,
  ⟨a_29,i_29,kk_29⟩,
  F30,
  F30.binds (ps:=["self", "hand"]) fun _ _ _ _ _ _ us hl=>match us,hl with | [_,_],_=>rfl,
  ⟨a_30,i_30,kk_30⟩,
  F31,
  F31.binds (ps:=["self", "hand"]) fun _ _ _ _ _ _ us hl=>match us,hl with | [_,_],_=>rfl,
  ⟨a_31,i_31,kk_31⟩,
  F32,
  F32.binds (ps:=["self", "hands", "lines"]) fun _ _ _ _ _ _ us hl=>match us,hl with | [_,_,_],_=>rfl,
  F33,
  F33.binds (ps:=["self"]) fun _ _ _ _ _ _ us hl=>match us,hl with | [_],_=>rfl,
  ⟨a_33,i_33,kk_33⟩,
  F34,
  F34.binds (ps:=["self"]) fun _ _ _ _ _ _ us hl=>match us,hl with | [_],_=>rfl,
  ⟨a_34,i_34,kk_34⟩,
  F35,
  F35.binds (ps:=["self", "hand"]) fun _ _ _ _ _ _ us hl=>match us,hl with | [_,_],_=>rfl,
  ⟨a_35,i_35,kk_35⟩,
  F36,
  F36.binds (ps:=["self", "one", "other"]) fun _ _ _ _ _ _ us hl=>match us,hl with | [_,_,_],_=>rfl,
  ⟨a_36,i_36,kk_36⟩,
  mg_of X G A_Way,
  ⟨pg_Way,hd_Way,po_Way,sa_Way⟩,
  ⟨mk_Way,a_26,i_26,kc_Way⟩,
  fun H p dx fs e=>.ins e ⟨pg_Way,hd_Way,po_Way,sa_Way⟩ ha_Way hn htk hm_Way,
  na_Way_own_parents,
  na_Way_own_bridges,
  mg_of X G A_Web,
  ⟨pg_Web,hd_Web,po_Web,sa_Web⟩,
  ⟨mk_Web,a_32,i_32,kc_Web⟩,
  fun H p dx fs e=>.ins e ⟨pg_Web,hd_Web,po_Web,sa_Web⟩ ha_Web hn htk hm_Web,
  na_Web_own_hands,
  na_Web_own_lines,
  na_Web_near,
  k_tint_tint,
  k_tint_tbool,
  k_tlist_tlist,
  k_ttuple_ttuple,
  k_ttuple_tlist,
  k_tdict_tlist,
  k_tdict_ttuple,
  k_tdict_tdict,
  k_tint_tlist,
  k_tint_ttuple,
  k_tint_tdict,
  k_tNoneType_tlist,
  k_tNoneType_ttuple,
  k_tNoneType_tdict,
  k_tNoneType_tint,
  k_tstr_tint,
  k_Way_Way,
  k_tbool_tbool,
  mg_of X G G_MOST_HANDS,
  mg_of X G G_LAST_HAND⟩
end K04
open PySem PySem.W PyProof.Rows
set_option maxRecDepth 100000 in
set_option maxHeartbeats 0 in
theorem PySem.Challenge.cw_beatless_k29_any_parents_and_bridges_holds : PySem.Challenge.rw_beatless_k29_any_parents_and_bridges.Holds := by
 w_on;o_law
 refine holds_open (XP:=XL Hd.Q []) (YP:=(kHook Hd.K Hd.as Hd.asK).says) Hd.left Hd.hk.of Hd.hk.keeps
  (fun s z=>xl_of s (Hd.both z).1) XL.keeps (by rfl) (by rfl) (by rfl)
  (fun s z=>recFacts_of (Hd.both z).2) (by rfl) (by assumption) (by decide +kernel)
  ⟨rfl,rfl,rfl,rfl,rfl,by decide +kernel⟩ ?hw ?hc
 case hw=>w_witness2
 k_fill
 refine L2.walk_ofK (l:=PySem.Challenge.rw_beatless_k29_any_parents_and_bridges) (n:=63) (k:=26) (x := "_law_script") (CX:=L2.CX0) (sp:=K04.spLaw) rfl (by decide) rfl ⟨rfl,by decide,by decide⟩ (fun w h Y=>PySem.W.kIn_of Y) ?F ?S ?C
 case F =>
  intro w mg fa h KX G hmg
  have T:∃ a,K04.Txt w (L2.KOf KX) mg a:=by
   dsimp only[L2.KOf]
   refine' K04.txt_mk KX G ?z_len ?z_int ?z_max ?z_range ?z_isinstance ?z_list ?z_dict ?z_sorted ?z_bool ?z_tuple ?z_set ?z_ValueError ?A_Way ?A_Web ?a_0 ?l_0 ?cc_0 ?kk_0 ?a_1 ?l_1 ?cc_1 ?kk_1 ?a_2 ?l_2 ?cc_2 ?kk_2 ?a_3 ?l_3 ?cc_3 ?kk_3 ?a_4 ?l_4 ?cc_4 ?kk_4 ?a_5 ?l_5 ?cc_5 ?kk_5 ?a_6 ?l_6 ?cc_6 ?kk_6 ?a_7 ?l_7 ?cc_7 ?kk_7 ?a_8 ?l_8 ?cc_8 ?kk_8 ?a_9 ?l_9 ?cc_9 ?kk_9 ?a_10 ?l_10 ?cc_10 ?kk_10 ?a_11 ?l_11 ?cc_11 ?kk_11 ?a_12 ?l_12 ?cc_12 ?kk_12 ?a_13 ?l_13 ?cc_13 ?kk_13 ?a_14 ?l_14 ?cc_14 ?kk_14 ?a_15 ?l_15 ?cc_15 ?kk_15 ?a_16 ?l_16 ?cc_16 ?kk_16 ?a_17 ?l_17 ?cc_17 ?kk_17 ?a_18 ?l_18 ?cc_18 ?kk_18 ?a_19 ?l_19 ?cc_19 ?kk_19 ?a_20 ?l_20 ?cc_20 ?kk_20 ?a_21 ?l_21 ?cc_21 ?kk_21 ?a_22 ?l_22 ?cc_22 ?kk_22 ?a_23 ?l_23 ?cc_23 ?kk_23 ?a_24 ?l_24 ?cc_24 ?kk_24 ?a_25 ?l_25 ?cc_25 ?kk_25 ?a_26 ?i_26 ?l_26 ?cc_26 ?kk_26 ?a_27 ?i_27 ?l_27 ?cc_27 ?kk_27 ?a_28 ?i_28 ?l_28 ?cc_28 ?kk_28 ?a_29 ?i_29 ?l_29 ?cc_29 ?kk_29 ?a_30 ?i_30 ?l_30 ?cc_30 ?kk_30 ?a_31 ?i_31 ?l_31 ?cc_31 ?kk_31 ?a_32 ?i_32 ?l_32 ?cc_32 ?kk_32 ?a_33 ?i_33 ?l_33 ?cc_33 ?kk_33 ?a_34 ?i_34 ?l_34 ?cc_34 ?kk_34 ?a_35 ?i_35 ?l_35 ?cc_35 ?kk_35 ?a_36 ?i_36 ?l_36 ?cc_36 ?kk_36 ?pg_Way ?hd_Way ?po_Way ?sa_Way ?mk_Way ?kc_Way ?ha_Way ?hm_Way ?na_Way_own_parents ?na_Way_own_bridges ?pg_Web ?hd_Web ?po_Web ?sa_Web ?mk_Web ?kc_Web ?ha_Web ?hm_Web ?na_Web_own_hands ?na_Web_own_lines ?na_Web_near ?hn ?htk ?k_tint_tint ?k_tint_tbool ?k_tlist_tlist ?k_ttuple_ttuple ?k_ttuple_tlist ?k_tdict_tlist ?k_tdict_ttuple ?k_tdict_tdict ?k_tint_tlist ?k_tint_ttuple ?k_tint_tdict ?k_tNoneType_tlist ?k_tNoneType_ttuple ?k_tNoneType_tdict ?k_tNoneType_tint ?k_tstr_tint ?k_Way_Way ?k_tbool_tbool ?G_MOST_HANDS ?G_LAST_HAND
   (case z_len=>k_is)
   (case z_int=>k_is)
   (case z_max=>k_is)
   (case z_range=>k_is)
   (case z_isinstance=>k_is)
   (case z_list=>k_is)
   (case z_dict=>k_is)
   (case z_sorted=>k_is)
   (case z_bool=>k_is)
   (case z_tuple=>k_is)
   (case z_set=>k_is)
   (case z_ValueError=>k_is)
   (case A_Way=>k_is)
   (case A_Web=>k_is)
   (case a_0=>k_is)
   (case l_0=>k_is)
   (case cc_0=>k_is)
   (case kk_0=>k_is)
   (case a_1=>k_is)
   (case l_1=>k_is)
   (case cc_1=>k_is)
   (case kk_1=>k_is)
   (case a_2=>k_is)
   (case l_2=>k_is)
   (case cc_2=>k_is)
   (case kk_2=>k_is)
   (case a_3=>k_is)
   (case l_3=>k_is)
   (case cc_3=>k_is)
   (case kk_3=>k_is)
   (case a_4=>k_is)
   (case l_4=>k_is)
   (case cc_4=>k_is)
   (case kk_4=>k_is)
   (case a_5=>k_is)
   (case l_5=>k_is)
   (case cc_5=>k_is)
   (case kk_5=>k_is)
   (case a_6=>k_is)
   (case l_6=>k_is)
   (case cc_6=>k_is)
   (case kk_6=>k_is)
   (case a_7=>k_is)
   (case l_7=>k_is)
   (case cc_7=>k_is)
   (case kk_7=>k_is)
   (case a_8=>k_is)
   (case l_8=>k_is)
   (case cc_8=>k_is)
   (case kk_8=>k_is)
   (case a_9=>k_is)
   (case l_9=>k_is)
   (case cc_9=>k_is)
   (case kk_9=>k_is)
   (case a_10=>k_is)
   (case l_10=>k_is)
   (case cc_10=>k_is)
   (case kk_10=>k_is)
   (case a_11=>k_is)
   (case l_11=>k_is)
   (case cc_11=>k_is)
   (case kk_11=>k_is)
   (case a_12=>k_is)
   (case l_12=>k_is)
   (case cc_12=>k_is)
   (case kk_12=>k_is)
   (case a_13=>k_is)
   (case l_13=>k_is)
   (case cc_13=>k_is)
   (case kk_13=>k_is)
   (case a_14=>k_is)
   (case l_14=>k_is)
   (case cc_14=>k_is)
   (case kk_14=>k_is)
   (case a_15=>k_is)
   (case l_15=>k_is)
   (case cc_15=>k_is)
   (case kk_15=>k_is)
   (case a_16=>k_is)
   (case l_16=>k_is)
   (case cc_16=>k_is)
   (case kk_16=>k_is)
   (case a_17=>k_is)
   (case l_17=>k_is)
   (case cc_17=>k_is)
   (case kk_17=>k_is)
   (case a_18=>k_is)
   (case l_18=>k_is)
   (case cc_18=>k_is)
   (case kk_18=>k_is)
   (case a_19=>k_is)
   (case l_19=>k_is)
   (case cc_19=>k_is)
   (case kk_19=>k_is)
   (case a_20=>k_is)
   (case l_20=>k_is)
   (case cc_20=>k_is)
   (case kk_20=>k_is)
   (case a_21=>k_is)
   (case l_21=>k_is)
   (case cc_21=>k_is)
   (case kk_21=>k_is)
   (case a_22=>k_is)
   (case l_22=>k_is)
   (case cc_22=>k_is)
   (case kk_22=>k_is)
   (case a_23=>k_is)
   (case l_23=>k_is)
   (case cc_23=>k_is)
   (case kk_23=>k_is)
   (case a_24=>k_is)
   (case l_24=>k_is)
   (case cc_24=>k_is)
   (case kk_24=>k_is)
   (case a_25=>k_is)
   (case l_25=>k_is)
   (case cc_25=>k_is)
   (case kk_25=>k_is)
   (case a_26=>k_is)
   (case i_26=>k_is)
   (case l_26=>k_is)
   (case cc_26=>k_is)
   (case kk_26=>k_is)
   (case a_27=>k_is)
   (case i_27=>k_is)
   (case l_27=>k_is)
   (case cc_27=>k_is)
   (case kk_27=>k_is)
   (case a_28=>k_is)
   (case i_28=>k_is)
   (case l_28=>k_is)
   (case cc_28=>k_is)
   (case kk_28=>k_is)
   (case a_29=>k_is)
   (case i_29=>k_is)
   (case l_29=>k_is)
   (case cc_29=>k_is)
   (case kk_29=>k_is)
   (case a_30=>k_is)
   (case i_30=>k_is)
   (case l_30=>k_is)
   (case cc_30=>k_is)
   (case kk_30=>k_is)
   (case a_31=>k_is)
   (case i_31=>k_is)
   (case l_31=>k_is)
   (case cc_31=>k_is)
   (case kk_31=>k_is)
   (case a_32=>k_is)
   (case i_32=>k_is)
   (case l_32=>k_is)
   (case cc_32=>k_is)
   (case kk_32=>k_is)
   (case a_33=>k_is)
   (case i_33=>k_is)
   (case l_33=>k_is)
   (case cc_33=>k_is)
   (case kk_33=>k_is)
   (case a_34=>k_is)
   (case i_34=>k_is)
   (case l_34=>k_is)
   (case cc_34=>k_is)
   (case kk_34=>k_is)
   (case a_35=>k_is)
   (case i_35=>k_is)
   (case l_35=>k_is)
   (case cc_35=>k_is)
   (case kk_35=>k_is)
   (case a_36=>k_is)
   (case i_36=>k_is)
   (case l_36=>k_is)
   (case cc_36=>k_is)
   (case kk_36=>k_is)
   (case pg_Way=>k_is)
   (case hd_Way=>k_is)
   (case po_Way=>k_is)
   (case sa_Way=>k_is)
   (case mk_Way=>k_is)
   (case kc_Way=>k_is)
   (case ha_Way=>k_is)
   (case hm_Way=>k_is)
   (case na_Way_own_parents=>k_is)
   (case na_Way_own_bridges=>k_is)
   (case pg_Web=>k_is)
   (case hd_Web=>k_is)
   (case po_Web=>k_is)
   (case sa_Web=>k_is)
   (case mk_Web=>k_is)
   (case kc_Web=>k_is)
   (case ha_Web=>k_is)
   (case hm_Web=>k_is)
   (case na_Web_own_hands=>k_is)
   (case na_Web_own_lines=>k_is)
   (case na_Web_near=>k_is)
   (case hn=>k_is)
   (case htk=>k_is)
   (case k_tint_tint=>kit_is)
   (case k_tint_tbool=>kit_is)
   (case k_tlist_tlist=>kit_is)
   (case k_ttuple_ttuple=>kit_is)
   (case k_ttuple_tlist=>kit_is)
   (case k_tdict_tlist=>kit_is)
   (case k_tdict_ttuple=>kit_is)
   (case k_tdict_tdict=>kit_is)
   (case k_tint_tlist=>kit_is)
   (case k_tint_ttuple=>kit_is)
   (case k_tint_tdict=>kit_is)
   (case k_tNoneType_tlist=>kit_is)
   (case k_tNoneType_ttuple=>kit_is)
   (case k_tNoneType_tdict=>kit_is)
   (case k_tNoneType_tint=>kit_is)
   (case k_tstr_tint=>kit_is)
   (case k_Way_Way=>kit_is)
   (case k_tbool_tbool=>kit_is)
   (case G_MOST_HANDS=>k_is)
   (case G_LAST_HAND=>k_is)
  obtain⟨a,T⟩:=T
  have e0:=hmg.symm.trans T.g_qz
  cases e0
  exact⟨_,T.b0_qz,fun base kb nb=>K04.ok_law T⟩
 case S=>exact fun K H a ns hl hO hS=>K04.sp_law_of hl hO hS
 case C=>exact fun _ _ _ _ z=>z