import PyProof.Rows.All
import Wide.All
import OpenK.AllK
import Wide.FinOn
import PySem.Challenge.RW_beatless_k21_plain_runs_told_again
import Lean
import PyProof.EqAt
import PyProof.EqKinds
import PyProof.TupleCall
import PyProof.ZipIter
import PyProof.WalksMore
import KE.KRevSl
import KE.KIntText
import KE.KRevIter
import PyProof.Draws
import PyProof.EnumFor
import PyProof.EnumStmt
import PyProof.AttrMissHeap
import PyProof.DictUpdate
import PyProof.DictValues
import KE.KDictList
import PyProof.DictItemsLoops
import PyProof.DictWalks
set_option Elab.async false
set_option compiler.extract_closed false
set_option linter.all false
set_option maxRecDepth 100000
noncomputable section
namespace L2
open PySem PySem.Spec PyProof.Rows
abbrev Key:=Sum Int Str
noncomputable def xZ:Key→Value→Bool
 |.inl k,v=>Value.isInt k v
 |.inr x,v=>Value.isStrOf x v
noncomputable def zxl (w:World):Key→Int
 |.inl k=>hashInt k
 |.inr x=>hashStr w x
theorem zJ:∀ {k:Key}{v:Value},xZ k v=true→(∃ i t,k=Sum.inl i∧v=Value.int i t)∨(∃ x t,k=Sum.inr x∧v=Value.str x t)
 |.inl i,v,h=>by
  obtain⟨t,e⟩:=Value.isInt_shape (k:=i) (v:=v) h
  exact .inl ⟨i,t,rfl,e⟩
 |.inr x,v,h=>by
  obtain⟨t,e⟩:=Value.isStrOf_shape (x:=x) (v:=v) h
  exact .inr ⟨x,t,rfl,e⟩
theorem YU (i:Int) (t:Tok):xZ (.inl i) (.int i t)=true:=by simp[xZ,Value.isInt]
theorem YT (x:Str) (t:Tok):xZ (.inr x) (.str x t)=true:=by simp[xZ,Value.isStrOf]
theorem zg5 (a b:Int):decide ((Sum.inl a:Key)=Sum.inl b)=(a == b):=by
 by_cases e:a=b
 ·subst e;simp
 ·have h:¬ (Sum.inl a:Key)=Sum.inl b:=fun q=>e (Sum.inl.inj q)
  rw[decide_eq_false h]
  exact(beq_eq_false_iff_ne.mpr e).symm
theorem zg2 (a b:Str):decide ((Sum.inr a:Key)=Sum.inr b)=decide (a=b):=by
 by_cases e:a=b
 ·subst e;simp
 ·have h:¬ (Sum.inr a:Key)=Sum.inr b:=fun q=>e (Sum.inr.inj q)
  rw[decide_eq_false h,decide_eq_false e]
theorem zg4 (a:Int) (b:Str):decide ((Sum.inl a:Key)=Sum.inr b)=false:=decide_eq_false (fun q=>nomatch q)
theorem zg3 (a:Str) (b:Int):decide ((Sum.inr a:Key)=Sum.inl b)=false:=decide_eq_false (fun q=>nomatch q)
def zu (prog:Program) (w:World):PySem.KeyKind prog w Key where
 is:=xZ
 hash:=zxl w
 inj:=fun v a b ha hb=>by
  rcases zJ ha with⟨i,t,rfl,rfl⟩ | ⟨x,t,rfl,rfl⟩
  ·rcases zJ hb with⟨j,u,rfl,e⟩ | ⟨y,u,rfl,e⟩
   ·injection e with e1 _;rw[e1]
   ·exact nomatch e
  ·rcases zJ hb with⟨j,u,rfl,e⟩ | ⟨y,u,rfl,e⟩
   ·exact nomatch e
   ·injection e with e1 _;rw[e1]
 byValue:=fun k v h=>by
  rcases zJ h with⟨i,t,rfl,rfl⟩ | ⟨x,t,rfl,rfl⟩<;>rfl
 pyHash:=fun hv h=>by
  rcases zJ hv with⟨i,t,rfl,rfl⟩ | ⟨x,t,rfl,rfl⟩
  ·exact wpAny_pyHash_int h
  ·exact wpAny_pyHash_str h
 eqBool:=fun hu hv h=>by
  rcases zJ hu with⟨i,t,rfl,rfl⟩ | ⟨x,t,rfl,rfl⟩
  ·rcases zJ hv with⟨j,u,rfl,rfl⟩ | ⟨y,u,rfl,rfl⟩
   ·rw[zg5] at h;exact wpAny_eqBool_int h
   ·rw[zg4] at h;exact SeqAt.EqAt.int_str i t y u _ _ _ _ h
  ·rcases zJ hv with⟨j,u,rfl,rfl⟩ | ⟨y,u,rfl,rfl⟩
   ·rw[zg3] at h;exact SeqAt.EqAt.str_int x t j u _ _ _ _ h
   ·rw[zg2] at h;exact wpAny_eqBool_str h
 «strs»:=fun k x t v h=>by
  rcases zJ h with⟨i,u,rfl,e⟩ | ⟨y,u,rfl,e⟩
  ·exact nomatch e
  ·injection e with e1 _
   subst e1
   cases v<;>rfl
theorem u0 (prog:Program) (w:World) (k:Key) (v:Value):(zu prog w).is k v=xZ k v:=rfl
theorem v0 (prog:Program) (w:World) (i:Int) (t:Tok):(zu prog w).is (.inl i) (.int i t)=true:=YU i t
theorem vZ (prog:Program) (w:World) (x:Str) (t:Tok):(zu prog w).is (.inr x) (.str x t)=true:=YT x t
inductive V where
 |non | bl (b:Bool) | int (i:Int) | str (x:Str) | byt (b:Array UInt8) | flt (b:UInt64) | ref (a:Addr) | ty (n:String)
 deriving DecidableEq
def RelV:V→Value→Prop
 |.non,u=>u=Value.none
 |.bl b,u=>u=Value.bool b
 |.int i,u=>∃ t,u=Value.int i t
 |.str x,u=>∃ t,u=Value.str x t
 |.byt b,u=>∃ t,u=Value.bytes b t
 |.flt b,u=>∃ t,u=Value.float b t
 |.ref a,u=>u=Value.ref a
 |.ty n,u=>u=Value.type n
abbrev Vals:List V→List Value→Prop:=Paired RelV
theorem Vals.length {xs:List V}{us:List Value}(r:Vals xs us):xs.length=us.length:=Paired.length r
theorem Vals.get:∀ {xs:List V}{us:List Value}{i:Nat}{x:V},Vals xs us→xs[i]?=some x→∃ u,us[i]?=some u∧RelV x u
 |_,_,_,_,.nil,e=>by simp at e
 |_,_,0,_,.cons r _,e=>by simp at e;subst e;exact⟨_,rfl,r⟩
 |_,_,i+1,x,.cons _ t,e=>by
  obtain⟨u,h1,h2⟩:=Vals.get (i:=i) (x:=x) t (by simpa using e)
  exact⟨u,by simpa using h1,h2⟩
theorem Vals.set {x:V}{u:Value}(r:RelV x u):∀ {xs:List V}{us:List Value}(i:Nat),Vals xs us→Vals (xs.set i x) (us.set i u)
 |_,_,_,.nil=>.nil
 |_,_,0,.cons _ t=>.cons r t
 |_,_,i+1,.cons q t=>.cons q (Vals.set r i t)
theorem Vals.append:∀ {xs ys:List V}{us ws:List Value},Vals xs us→Vals ys ws→Vals (xs++ys) (us++ws)
 |_,_,_,_,.nil,s=>s
 |_,_,_,_,.cons r t,s=>.cons r (Vals.append t s)
theorem Vals.take:∀ {xs:List V}{us:List Value}(n:Nat),Vals xs us→Vals (xs.take n) (us.take n)
 |_,_,0,_=>.nil
 |_,_,_+1,.nil=>.nil
 |_,_,n+1,.cons r t=>.cons r (Vals.take n t)
theorem Vals.drop:∀ {xs:List V}{us:List Value}(n:Nat),Vals xs us→Vals (xs.drop n) (us.drop n)
 |_,_,0,r=>r
 |_,_,_+1,.nil=>.nil
 |_,_,n+1,.cons _ t=>Vals.drop n t
def RelO:Option V→Option Value→Prop
 |some v,some u=>RelV v u
 |none,none=>True
 |_,_=>False
def KV {κ:Type}:List (κ×V)→List (κ×Value)→Prop:=Paired fun(p:κ×V) (q:κ×Value)=>p.1=q.1∧RelV p.2 q.2
noncomputable def kV:Key→V
 |.inl i=>.int i
 |.inr x=>.str x
inductive HO where
 /-- a list -/
 |lst (xs:List V)
 /-- a tuple (never changes) -/
 |tup (xs:List V)
 /-- a dict whose keys are ints and texts;one whose keys are tuples of ints and texts (the empty one is both) -/
 |dK (kvs:List (Key×V)) | dT (kvs:List (List Key×V))
 /-- a set of ints: its members,its size -/
 |set (S:Int→Bool) (n:Nat)
 /-- an instance of the class at C,its dict at dx,its attributes -/
 |ins (C dx:Addr) (fs:List (Str×V))
 /-- the dict of the instance at x -/
 |own (x:Addr)
 /-- the dict of an exception -/
 |xd (fs:List (Str×V))
 /-- a bound method,f of x -/
 |met (f x:Addr)
 /-- a range object lo,lo+1,.. below hi -/
 |rng (lo hi:Int)
 /-- a thing that is known to the object (the script;a dict while a loop walks it): read,never written while it is so -/
 |frz (o:Obj) (u:HO)
 /-- a code object's table -/
 |tbl (ps:Array Value)
 /-- any other thing,by what is true of its one object (a def of one's own: SetO a S n:=HO.ext fun h=>..) -/
 |ext (φ:Heap→Prop)
abbrev Hp:=Addr→Option HO
noncomputable def upd (H:Hp) (a:Addr) (o:HO):Hp:=fun b=>if b=a then some o else H b
theorem upd_same {H:Hp}{a:Addr}{o:HO}:upd H a o a=some o:=by unfold upd;rw[if_pos rfl]
theorem upd_ne {H:Hp}{a b:Addr}{o:HO}(h:b≠a):upd H a o b=H b:=by unfold upd;rw[if_neg h]
theorem yg {H:Hp}{a:Addr}{o u:HO}:upd (upd H a o) a u=upd H a u:=by
 funext b;unfold upd;split<;>rfl
theorem ne_of {H:Hp}{a b:Addr}{o u:HO}(h:H a=some o) (h':H b=some u) (d:o≠u):a≠b:=by
 intro e;subst e;rw[h] at h';exact d (Option.some.inj h')
theorem ne_of_none {H:Hp}{a b:Addr}{o:HO}(h:H a=some o) (h':H b=none):a≠b:=by
 intro e;subst e;rw[h] at h';cases h'
section
variable (P:Program) (w:World)
def ObjOk (H:Hp) (h:Heap) (a:Addr):HO→Prop
 |.lst xs=>xs.length≤sizeLine∧∃ (its:List Value) (n:Nat),Vals xs its∧h.get? a=some { cls:=.type "list",data:=.seq its.toArray n }
 |.tup xs=>xs.length≤sizeLine∧∃ its:List Value,Vals xs its∧IsTup h a its.toArray
 |.dK kvs=>kvs.length≤sizeLine∧(a == sysModules)=false∧∃ vs,KV kvs vs∧h.DictOf (zu P w) a vs
 |.dT kvs=>kvs.length≤sizeLine∧(a == sysModules)=false∧∃ xs:List (List Key×Addr×Value),
   Paired (fun(p:List Key×V) (q:List Key×Addr×Value)=>p.1=q.1∧H q.2.1=some (.tup (p.1.map kV))∧RelV p.2 q.2.2) kvs xs ∧
   ∃ o es ep,h.get? a=some o∧o.ExactDict∧o.data=.dict es ep∧es.toList=xs.map (entryOfKey (tupleKind (zu P w)))∧(xs.map (·.1)).Nodup
 |.set S n=>h.SetOf (intKind P w) a S n
 |.ins C dx fs=>H dx=some (.own a)∧fs.length≤1000∧dx≠a∧h.get? a=some (PySem.W.instObj C dx) ∧
   ∃ mA,h.Ns1 dx mA∧(∀ f,RelO (fs.lookup f) (mA f))∧PySem.Within mA (fs.map (·.1))
 |.own _=>∃ o,h.get? a=some o
 |.xd fs=>∃ mA,h.Ns1 a mA∧∀ f,RelO (fs.lookup f) (mA f)
 |.rng lo hi=>∃ t u v,h.get? a=some { cls:=.type "range",data:=.fields #[.int lo t,.int hi u,.int 1 v] }
 |.frz o u=>h.get? a=some o∧ObjOk H h a u
 |.tbl ps=>h.get? a=some { cls:=.none,data:=.fields ps }
 |.met f x=>h.get? a=some (PySem.W.methodObj (.ref f) (.ref x))
 |.ext φ=>φ h∧(∃ o,h.get? a=some o)∧∀ h1 h2:Heap,φ h1→(∀ o,h1.get? a=some o→h2.get? a=some o)→φ h2
def HOk (H:Hp) (h:Heap):Prop:=∀ a o,H a=some o→ObjOk P w H h a o
end
section
variable {P:Program}{w:World}{H H':Hp}{h h':Heap}{a:Addr}{o:HO}
theorem ObjOk.lt (x:ObjOk P w H h a o):a<h.objs.size:=by
 cases o with
 |lst xs=>obtain⟨_,_,_,_,e⟩:=x;exact Heap.lt_size e
 |tup xs=>obtain⟨_,_,_,p⟩:=x;exact p.lt
 |dK kvs=>obtain⟨_,_,_,_,o,_,_,e,_⟩:=x;exact Heap.lt_size e
 |dT kvs=>obtain⟨_,_,_,_,o,_,_,e,_⟩:=x;exact Heap.lt_size e
 |set S n=>obtain⟨o,_,_,_,e,_⟩:=x;exact Heap.lt_size e
 |ins C dx fs=>obtain⟨_,_,_,e,_⟩:=x;exact Heap.lt_size e
 |own y=>obtain⟨_,e⟩:=x;exact Heap.lt_size e
 |xd fs=>obtain⟨_,⟨_,_,_,e,_⟩,_⟩:=x;exact Heap.lt_size e
 |rng lo hi=>obtain⟨_,_,_,e⟩:=x;exact Heap.lt_size e
 |frz ob u=>obtain⟨e,_⟩:=x;exact Heap.lt_size e
 |tbl ps=>exact Heap.lt_size (show h.get? a=some _ from x)
 |met f y=>exact Heap.lt_size (show h.get? a=some _ from x)
 |ext φ=>obtain⟨_,⟨_,e⟩,_⟩:=x;exact Heap.lt_size e
theorem Paired.mapP {α β:Type}{F G:α→β→Prop}:∀ {l₁:List α}{l₂:List β},Paired F l₁ l₂→(∀ a b,F a b→G a b)→Paired G l₁ l₂
 |_,_,.nil,_=>.nil
 |_,_,.cons r t,f=>.cons (f _ _ r) (Paired.mapP t f)
theorem ObjOk.stay (x:ObjOk P w H h a o) (k:∀ b u,(b=a∨H b=some (.own a))→h.get? b=some u→h'.get? b=some u)
  (ho:∀ b,H b=some (.own a)→H' b=some (.own a)) (ht:∀ b xs,H b=some (.tup xs)→H' b=some (.tup xs)):ObjOk P w H' h' a o:=by
 induction o with
 |lst xs=>obtain⟨z,its,n,r,e⟩:=x;exact⟨z,its,n,r,k _ _ (.inl rfl) e⟩
 |tup xs=>obtain⟨z,its,r,ob,e,c⟩:=x;exact⟨z,its,r,ob,k _ _ (.inl rfl) e,c⟩
 |dK kvs=>obtain⟨z,y,vs,r,ob,es,ep,e,c⟩:=x;exact⟨z,y,vs,r,ob,es,ep,k _ _ (.inl rfl) e,c⟩
 |dT kvs =>
  obtain⟨z,y,xs,r,ob,es,ep,e,c⟩:=x
  exact⟨z,y,xs,Paired.mapP r fun p q z=>⟨z.1,ht _ _ z.2.1,z.2.2⟩,ob,es,ep,k _ _ (.inl rfl) e,c⟩
 |set S n=>obtain⟨ob,es,ep,t,e,c⟩:=x;exact⟨ob,es,ep,t,k _ _ (.inl rfl) e,c⟩
 |ins C dx fs =>
  obtain⟨d,z,ne,e,mA,⟨od,es,ep,e2,c⟩,r⟩:=x
  exact⟨ho _ d,z,ne,k _ _ (.inl rfl) e,mA,⟨od,es,ep,k _ _ (.inr d) e2,c⟩,r⟩
 |own y=>obtain⟨ob,e⟩:=x;exact⟨ob,k _ _ (.inl rfl) e⟩
 |xd fs=>obtain⟨mA,⟨od,es,ep,e,c⟩,r⟩:=x;exact⟨mA,⟨od,es,ep,k _ _ (.inl rfl) e,c⟩,r⟩
 |rng lo hi=>obtain⟨t,u,v,e⟩:=x;exact⟨t,u,v,k _ _ (.inl rfl) e⟩
 |frz ob u ih=>obtain⟨e,q⟩:=x;exact⟨k _ _ (.inl rfl) e,ih q⟩
 |tbl ps =>
  have e:h.get? a=some { cls:=.none,data:=.fields ps }:=x
  show h'.get? a=some { cls:=.none,data:=.fields ps }
  exact k a _ (.inl rfl) e
 |met f y =>
  have e:h.get? a=some (PySem.W.methodObj (.ref f) (.ref y)):=x
  show h'.get? a=some (PySem.W.methodObj (.ref f) (.ref y))
  exact k a _ (.inl rfl) e
 |ext φ=>obtain⟨p,⟨o,e⟩,st⟩:=x;exact⟨st _ _ p fun o q=>k _ _ (.inl rfl) q,⟨o,k _ _ (.inl rfl) e⟩,st⟩
theorem HOk.lt (x:HOk P w H h) (e:H a=some o):a<h.objs.size:=(x a o e).lt
theorem HOk.fresh (x:HOk P w H h) (e:h.objs.size≤a):H a=none:=by
 cases q:H a with
 |none=>rfl
 |some u=>exact absurd (Nat.lt_of_lt_of_le (x.lt q) e) (Nat.lt_irrefl _)
theorem HOk.kept (x:HOk P w H h) (k:∀ b u,h.get? b=some u→h'.get? b=some u):HOk P w H h':=fun a o e =>
 (x a o e).stay (fun b u _ q=>k b u q) (fun _ q=>q) fun _ _ q=>q
theorem HOk.laid (x:HOk P w H h) (k:∀ b u,h.get? b=some u→h'.get? b=some u) (hp:h.objs.size≤a) (new:ObjOk P w (upd H a o) h' a o):HOk P w (upd H a o) h':=fun b u e=>by
 have hn:=x.fresh hp
 by_cases hb:b=a
 ·subst hb;rw[upd_same] at e;cases e;exact new
 ·rw[upd_ne hb] at e
  exact(x b u e).stay (fun c v _ q=>k c v q) (fun c q=>by rw[upd_ne (ne_of_none q hn)];exact q) fun c xs q=>by rw[upd_ne (ne_of_none q hn)];exact q
end
def Rd (H:Hp) (a:Addr) (u:HO):Prop:=H a=some u∨∃ o,H a=some (.frz o u)
theorem Rd.ok {P:Program}{w:World}{H:Hp}{h:Heap}{a:Addr}{u:HO}(r:Rd H a u) (x:HOk P w H h):ObjOk P w H h a u:=by
 rcases r with r | ⟨o,r⟩
 ·exact x a u r
 ·obtain⟨_,q⟩:=x a _ r
  exact q
def Mut:Option HO→Prop
 |some (.lst _)=>True
 |some (.dK _)=>True
 |some (.dT _)=>True
 |some (.set _ _)=>True
 |some (.ins _ _ _)=>True
 |some (.ext _)=>True
 |_=>False
section
variable {P:Program}{w:World}{H:Hp}{h h':Heap}{x e:Addr}{o':HO}
theorem HOk.write (ok:HOk P w H h) (mu:Mut (H x)) (he:e=x∨H e=some (.own x)) (k:∀ b u,b≠e→h.get? b=some u→h'.get? b=some u) (heo:∃ u,h'.get? e=some u)
  (new:ObjOk P w (upd H x o') h' x o'):HOk P w (upd H x o') h':=fun b u q=>by
 have nown:∀ c y,H c=some (.own y)→c≠x:=fun c y r z=>by subst z;rw[r] at mu;exact mu
 have ntup:∀ c xs,H c=some (.tup xs)→c≠x:=fun c xs r z=>by subst z;rw[r] at mu;exact mu
 by_cases hb:b=x
 ·subst hb;rw[upd_same] at q;cases q;exact new
 ·rw[upd_ne hb] at q
  by_cases hbe:b=e
  ·have q':H b=some (.own x):=by
    rcases he with z | z
    ·exact absurd (hbe.trans z) hb
    ·rw[hbe];exact z
   rw[q] at q';cases q'
   obtain⟨v,hv⟩:=heo
   exact⟨v,by rw[hbe];exact hv⟩
  ·refine(ok b u q).stay (fun c v hc r=>k c v ?_ r) (fun c r=>by rw[upd_ne (nown c b r)];exact r) fun c xs r=>by rw[upd_ne (ntup c xs r)];exact r
   rcases hc with rfl | hc
   ·exact hbe
   ·rintro rfl
    rcases he with z | z
    ·exact nown c b hc z
    ·rw[hc] at z;cases z;exact hb rfl
end
structure Un (fs ex:List Addr) (H H':Hp) (h h':Heap):Prop where
 keep:∀ b o,h.get? b=some o→H b=none→b∉fs→b∉ex→h'.get? b=some o
 slot:∀ b o,h.get? b=some o→H b=none→b∈fs→b∉ex→∃ sl,h'.get? b=some { o with slots:=sl }
 free:∀ b o,h.get? b=some o→H b=none→b∉ex→H' b=none
 there:∀ b o,h.get? b=some o→b∉ex→∃ o',h'.get? b=some o'
 tups:∀ b xs,H b=some (.tup xs)→H' b=some (.tup xs)
 frzs:∀ b o u,H b=some (.frz o u)→H' b=some (.frz o u)
 tbls:∀ b ps,H b=some (.tbl ps)→∃ more,H' b=some (.tbl (ps++more))
section
variable {fs fs' ex ex':List Addr}{H H1 H2:Hp}{h h1 h2 h':Heap}{a x e:Addr}{o:HO}
theorem Un.any (u:Un fs ex H H1 h h1){b:Addr}{ob:Obj}(q:h.get? b=some ob) (n:H b=none) (hx:b∉ex):∃ sl,h1.get? b=some { ob with slots:=sl }:=by
 by_cases hb:b∈fs
 ·exact u.slot b ob q n hb hx
 ·exact⟨ob.slots,u.keep b ob q n hb hx⟩
theorem Un.kept (k:∀ b u,h.get? b=some u→h'.get? b=some u):Un fs ex H H h h' :=
 ⟨fun b ob q _ _ _=>k b ob q,fun b ob q _ _ _=>⟨ob.slots,k b ob q⟩,fun _ _ _ n _=>n,fun b ob q _=>⟨ob,k b ob q⟩,fun _ _ q=>q,fun _ _ _ q=>q,fun _ ps q=>⟨#[],by rw[q];simp⟩⟩
theorem Un.refl:Un fs ex H H h h:=Un.kept fun _ _ q=>q
theorem Un.laid (k:∀ b u,h.get? b=some u→h'.get? b=some u) (hp:h.objs.size≤a) (hn:H a=none):Un fs ex H (upd H a o) h h' where
 keep:=fun b u q _ _ _=>k b u q
 slot:=fun b u q _ _ _=>⟨u.slots,k b u q⟩
 free:=fun b u q n _=>by rw[upd_ne (Nat.ne_of_lt (Nat.lt_of_lt_of_le (Heap.lt_size q) hp))];exact n
 there:=fun b u q _=>⟨u,k b u q⟩
 tups:=fun b xs q=>by rw[upd_ne (ne_of_none q hn)];exact q
 frzs:=fun b u xs q=>by rw[upd_ne (ne_of_none q hn)];exact q
 tbls:=fun b ps q=>⟨#[],by rw[upd_ne (ne_of_none q hn),q];simp⟩
theorem Un.write (mu:Mut (H x)) (he:e=x∨H e=some (.own x)) (k:∀ b u,b≠e→h.get? b=some u→h'.get? b=some u) (heo:∃ u,h'.get? e=some u):Un fs ex H (upd H x o) h h':=by
 have hx:∀ b,H b=none→b≠x:=fun b n z=>by subst z;rw[n] at mu;exact mu
 have hb:∀ b,H b=none→b≠e:=fun b n z=>by
  subst z
  rcases he with r | r
  ·exact hx b n r
  ·rw[n] at r;cases r
 have hm:∀ b u,H b=some u→¬ Mut (some u)→b≠x:=fun b u q nm z=>by subst z;rw[q] at mu;exact nm mu
 refine⟨fun b u q n _ _=>k b u (hb b n) q,fun b u q n _ _=>⟨u.slots,k b u (hb b n) q⟩,fun b u q n _=>by rw[upd_ne (hx b n)];exact n,fun b u q _=>?_,
  fun b xs q=>by rw[upd_ne (hm b _ q fun z=>z)];exact q,fun b u xs q=>by rw[upd_ne (hm b _ q fun z=>z)];exact q,fun b ps q=>⟨#[],by rw[upd_ne (hm b _ q fun z=>z),q];simp⟩⟩
 by_cases hbe:b=e
 ·subst hbe;exact heo
 ·exact⟨u,k b u hbe q⟩
end
def trk (h:Heap) (H:Hp):List Addr:=(List.range h.objs.size).filter fun a=>(H a).isSome
def WC (h:Heap) (H:Hp):Heap:=PySem.W.hideAll h (trk h H)
theorem Y2 (h:Heap) (H:Hp):(WC h H).objs.size=h.objs.size:=PySem.W.hideAll_size _ _
theorem WB {h:Heap}{H:Hp}{b:Addr}{o:Obj}(e:h.get? b=some o) (n:H b=none):(WC h H).get? b=some o :=
 PySem.W.hideAll_get _ e fun hm=>by
  have q:(H b).isSome=true:=(List.mem_filter.mp hm).2
  rw[n] at q;simp at q
theorem VQ {h:Heap}{H:Hp}{b:Addr}{o:Obj}(e:(WC h H).get? b=some o):h.get? b=some o∧H b=none:=by
 have e':h.get? b=some o:=PySem.W.of_hideAll (trk h H) e
 refine⟨e',?_⟩
 cases q:H b with
 |none=>rfl
 |some x =>
  have hm:b∈trk h H:=List.mem_filter.mpr ⟨List.mem_range.mpr (Heap.lt_size e'),by simp[q]⟩
  have z:(WC h H).get? b=none:=PySem.W.hideAll_none (trk h H) hm
  rw[z] at e;cases e
structure Mod (K:PySem.W.Frag) (mg:Str→Option Value) (base:Heap):Prop where
 kin:K.In base
 glob:base.Ns mainGlobals mg
 blt:∃ mb,base.Ns builtinsNs mb∧∀ x:Str,x ≠ "__name__" → mb x=bootBuiltins x
 nolimit:base.NoLimit
structure Cx where
 prog:Program
 w:World
 K:PySem.W.Frag
 mg:Str→Option Value
 base:Heap
 A:Around
 N:List Str
 s₀:Shared
 H₀:Hp
 env:Env
 outer:List Env
 stack:List Env
 ex:List Addr
 fn:Str→Bool
 calm:Bool
 pn:List (Addr×Obj)
 xe:Value→Shared→Prop
def frs (l:List Env):List Addr:=l.filterMap (·.frame)
abbrev Cx.fs (X:Cx):List Addr:=frs X.outer
def Vis (sc:Scope) (x:Str):Prop:=sc.names.lookup x=some .local∨sc.names.lookup x=some .cell∨sc.names.lookup x=some .free
def Loc (sc:Scope) (x:Str):Prop:=sc.names.lookup x=some .local∨sc.names.lookup x=some .cell
def zxr (env:Env) (h:Heap) (m:Str→Option Value) (x:Str) (u:Value):Prop :=
 (env.kindOf x=some .local∧m x=some u)∨((env.kindOf x=some .cell∨env.kindOf x=some .free)∧∃ c,env.cells.lookup x=some c∧h.IsCell c (some u))
structure Cx.Ok (X:Cx):Prop where
 mod:Mod X.K X.mg X.base
 kind:X.env.scope.kind=.function
 glob:X.env.globals=mainGlobals
 blt:X.env.builtins=builtinsNs
 above:X.s₀.heap.objs.size≤X.env.locals
 inj:∀ x y c,X.env.cells.lookup x=some c→X.env.cells.lookup y=some c→x=y
 has:∀ x,(X.env.kindOf x=some .cell∨X.env.kindOf x=some .free)→∃ c,X.env.cells.lookup x=some c
 cab:∀ x c,X.fn x=true→X.env.cells.lookup x=some c→X.s₀.heap.objs.size≤c
 hd:X.calm=true→X.A.handled=none
 frames:X.A.frames=some X.stack
 stk:X.stack=X.outer∨(X.stack=X.env::X.outer∧X.env.frame=some X.env.locals)
 exf:∀ b∈X.ex,b≠X.env.locals∧∀ x c,X.env.cells.lookup x=some c→c≠b
 bs:∀ b o,X.base.get? b=some o→X.s₀.heap.get? b=some o∧X.H₀ b=none
 bsz:X.base.objs.size≤X.s₀.heap.objs.size
 noex:∀ b o,X.base.get? b=some o→b∉X.ex
 exfs:∀ b∈X.ex,b∉X.fs
 funs:X.s₀.heap.FunFrames X.base X.outer
 frf:∀ b∈X.fs,X.H₀ b=none
structure Inv (X:Cx) (pins:List (Addr×Obj)) (σ:List (Option V)) (H:Hp) (s:Shared):Prop where
 ok:X.Ok
 os:s.os=X.s₀.os
 bare:AllBare s.gens
 base:Un X.fs X.ex X.H₀ H X.s₀.heap s.heap
 loc:∃ m,s.heap.Ns X.env.locals m∧∀ (i:Nat) (x:Str) (v:V),X.N[i]?=some x→σ[i]?=some (some v)→Vis X.env.scope x→∃ u,RelV v u∧zxr X.env s.heap m x u
 cell:∀ x c,X.env.cells.lookup x=some c→∃ v,s.heap.IsCell c v
 free:H X.env.locals=none
 freeC:∀ x c,X.env.cells.lookup x=some c→H c=none
 pin:∀ p∈X.pn++pins,s.heap.get? p.1=some p.2∧H p.1=none∧p.1≠X.env.locals∧p.1∉X.fs∧∀ v,p.2.data≠.cell v
 hok:HOk X.prog X.w H s.heap
 len:σ.length=X.N.length
section
variable {X:Cx}{pins:List (Addr×Obj)}{σ:List (Option V)}{H H':Hp}{s:Shared}{h':Heap}
theorem Cx.Ok.nofr (ok:X.Ok){b:Addr}{o:Obj}(e:X.base.get? b=some o):b∉X.fs:=fun hb=>by
 have:=(ok.funs.mem hb).1
 rw[e] at this;cases this
theorem Inv.bs (I:Inv X pins σ H s):∀ b o,X.base.get? b=some o→s.heap.get? b=some o∧H b=none:=fun b o e =>
 ⟨I.base.keep b o (I.ok.bs b o e).1 (I.ok.bs b o e).2 (I.ok.nofr e) (I.ok.noex b o e),I.base.free b o (I.ok.bs b o e).1 (I.ok.bs b o e).2 (I.ok.noex b o e)⟩
theorem Inv.bk (I:Inv X pins σ H s):∀ b o,X.base.get? b=some o→s.heap.get? b=some o:=fun b o e=>(I.bs b o e).1
theorem Inv.mod (I:Inv X pins σ H s):Mod X.K X.mg X.base:=I.ok.mod
theorem Inv.kIn (I:Inv X pins σ H s):X.K.In s.heap:=I.ok.mod.kin.keeps I.bk
theorem Inv.lt (I:Inv X pins σ H s):X.env.locals<s.heap.objs.size:=let ⟨_,hn,_⟩:=I.loc;hn.lt
theorem Inv.sz (I:Inv X pins σ H s):X.s₀.heap.objs.size≤s.heap.objs.size:=Nat.le_trans I.ok.above (Nat.le_of_lt I.lt)
theorem Inv.nofs (I:Inv X pins σ H s){a:Addr}(h:s.heap.objs.size≤a):a∉X.fs:=fun hb=>by
 obtain⟨_,o,ho,_⟩:=I.ok.funs.mem hb
 exact absurd (Nat.lt_of_lt_of_le (Heap.lt_size ho) (Nat.le_trans I.sz h)) (Nat.lt_irrefl _)
theorem Inv.cne (I:Inv X pins σ H s):∀ x c,X.env.cells.lookup x=some c→c≠X.env.locals:=fun x c e z=>by
 obtain⟨v,o,ho,hd⟩:=I.cell x c e
 obtain⟨m,⟨o',es,ep,ho',hd',_⟩,_⟩:=I.loc
 rw[z,ho'] at ho;cases ho;rw[hd'] at hd;cases hd
theorem Inv.funs (I:Inv X pins σ H s):s.heap.FunFrames X.base X.outer:=by
 have all:∀ (l:List Env),(∀ b∈frs l,b∈X.fs)→X.s₀.heap.FunFrames X.base l→s.heap.FunFrames X.base l:=by
  intro l
  induction l with
  |nil=>intro _ _;trivial
  |cons env r ih =>
   intro hs hl
   obtain⟨hk,⟨L,o,hf,hn,ho,hd⟩,hr⟩:=hl
   have hL:L∈X.fs:=hs L (by unfold frs;rw[List.filterMap_cons,hf];exact List.mem_cons_self)
   obtain⟨sl,e⟩:=I.base.slot L o ho (I.ok.frf L hL) hL fun z=>I.ok.exfs L z hL
   exact⟨hk,⟨L,_,hf,hn,e,hd⟩,ih (fun b hb=>hs b (by unfold frs;rw[List.filterMap_cons,hf];exact List.mem_cons_of_mem _ hb)) hr⟩
 exact all X.outer (fun _ hb=>hb) I.ok.funs
theorem Inv.stack (I:Inv X pins σ H s):s.heap.FunFrames X.base X.stack:=by
 rcases I.ok.stk with e | ⟨e,hf⟩
 ·rw[e];exact I.funs
 ·rw[e]
  obtain⟨m,hn,_⟩:=I.loc
  refine .cons (by rw[I.ok.kind];decide) hf hn ?_ I.funs
  exact Heap.get?_none_of_le (Nat.le_trans I.ok.bsz I.ok.above)
theorem Inv.stkSub (I:Inv X pins σ H s):∀ b∈frs X.stack,b∈X.env.locals::X.fs:=fun b hb=>by
 rcases I.ok.stk with e | ⟨e,hf⟩
 ·rw[e] at hb;exact List.mem_cons_of_mem _ hb
 ·rw[e] at hb
  unfold frs at hb
  rw[List.filterMap_cons,hf] at hb
  exact hb
theorem Inv.stkFree (I:Inv X pins σ H s):∀ b∈frs X.stack,H b=none:=fun b hb=>by
 rcases List.mem_cons.mp (I.stkSub b hb) with e | hb
 ·rw[e];exact I.free
 ·obtain⟨_,o,ho,_⟩:=I.ok.funs.mem hb
  exact I.base.free b o ho (I.ok.frf b hb) fun z=>I.ok.exfs b z hb
theorem Inv.step {g':Array GenState}{t':Nat}{d':Drawn}{ch:List Addr}(I:Inv X pins σ H s)
  (hch:∀ b∈ch,(b∈X.ex∨X.s₀.heap.objs.size≤b)∧b≠X.env.locals∧(∀ x c,X.env.cells.lookup x=some c→c≠b)∧∀ p∈X.pn++pins,p.1≠b)
  (keep:∀ b o,b≠X.env.locals→b∉X.fs→b∉ch→s.heap.get? b=some o→H b=none→h'.get? b=some o)
  (slot:∀ b o,b≠X.env.locals→b∈X.fs→b∉ch→s.heap.get? b=some o→H b=none→∃ sl,h'.get? b=some { o with slots:=sl }) (free:∀ b o,b∉ch→s.heap.get? b=some o→H b=none→H' b=none)
  (there:∀ b o,b∉ch→s.heap.get? b=some o→∃ o',h'.get? b=some o')
  (tups:∀ b xs,H b=some (.tup xs)→H' b=some (.tup xs)) (frzs:∀ b o u,H b=some (.frz o u)→H' b=some (.frz o u)) (tbls:∀ b ps,H b=some (.tbl ps)→∃ more,H' b=some (.tbl (ps++more)))
  (ns:∀ m,s.heap.Ns X.env.locals m→h'.Ns X.env.locals m) (hok:HOk X.prog X.w H' h') (hg:AllBare g') :
  Inv X pins σ H' { s with heap:=h',gens:=g',drawn:=d',toks:=t' }:=by
 have neL:∀ b o,X.s₀.heap.get? b=some o→b≠X.env.locals:=fun b o e=>Nat.ne_of_lt (Nat.lt_of_lt_of_le (Heap.lt_size e) I.ok.above)
 have neC:∀ b o,X.s₀.heap.get? b=some o→b∉X.ex→b∉ch:=fun b o e hx hb=>by
  rcases(hch b hb).1 with z | z
  ·exact hx z
  ·exact absurd (Nat.lt_of_lt_of_le (Heap.lt_size e) z) (Nat.lt_irrefl _)
 have cellK:∀ x c,X.env.cells.lookup x=some c→∀ v,s.heap.IsCell c v→h'.IsCell c v:=fun x c e v ⟨o,ho,hd⟩=>by
  have nch:c∉ch:=fun z=>(hch c z).2.2.1 x c e rfl
  by_cases hc:c∈X.fs
  ·obtain⟨sl,q⟩:=slot c o (I.cne x c e) hc nch ho (I.freeC x c e)
   exact⟨_,q,hd⟩
  ·exact⟨o,keep c o (I.cne x c e) hc nch ho (I.freeC x c e),hd⟩
 refine⟨I.ok,I.os,hg,⟨fun b o e n hb hx=>?_,fun b o e n hb hx=>?_,fun b o e n hx=>?_,fun b o e hx=>?_,fun b xs e=>tups b xs (I.base.tups b xs e),fun b o xs e=>frzs b o xs (I.base.frzs b o xs e),fun b ps e=>?_⟩,?_,fun x c e=>?_,?_,fun x c e=>?_,fun p hp=>?_,hok,I.len⟩
 ·exact keep b o (neL b o e) hb (neC b o e hx) (I.base.keep b o e n hb hx) (I.base.free b o e n hx)
 ·obtain⟨sl,e1⟩:=I.base.slot b o e n hb hx
  obtain⟨sl',e2⟩:=slot b _ (neL b o e) hb (neC b o e hx) e1 (I.base.free b o e n hx)
  exact⟨sl',e2⟩
 ·obtain⟨o',e1⟩:=I.base.there b o e hx
  exact free b o' (neC b o e hx) e1 (I.base.free b o e n hx)
 ·obtain⟨o',e1⟩:=I.base.there b o e hx
  exact there b o' (neC b o e hx) e1
 ·obtain⟨m1,e1⟩:=I.base.tbls b ps e
  obtain⟨m2,e2⟩:=tbls b _ e1
  exact⟨m1++m2,by rw[e2,Array.append_assoc]⟩
 ·obtain⟨m,hn,hl⟩:=I.loc
  refine⟨m,ns m hn,fun i x v e1 e2 e3=>?_⟩
  obtain⟨u,r,l⟩:=hl i x v e1 e2 e3
  refine⟨u,r,?_⟩
  rcases l with l | ⟨k,c,e,z⟩
  ·exact .inl l
  ·exact .inr ⟨k,c,e,cellK x c e _ z⟩
 ·obtain⟨v,z⟩:=I.cell x c e
  exact⟨v,cellK x c e v z⟩
 ·obtain⟨m,⟨o,_,_,ho,_⟩,_⟩:=I.loc
  exact free _ o (fun z=>(hch _ z).2.1 rfl) ho I.free
 ·obtain⟨v,o,ho,hd⟩:=I.cell x c e
  exact free c o (fun z=>(hch c z).2.2.1 x c e rfl) ho (I.freeC x c e)
 ·obtain⟨e,n,ne,nf,d⟩:=I.pin p hp
  have nch:p.1∉ch:=fun z=>(hch p.1 z).2.2.2 p hp rfl
  exact⟨keep p.1 p.2 ne nf nch e n,free p.1 p.2 nch e n,ne,nf,d⟩
theorem Inv.un {t':Nat}(I:Inv X pins σ H s) (u:Un X.fs [] H H' s.heap h') (hok:HOk X.prog X.w H' h'):Inv X pins σ H' { s with heap:=h',toks:=t' }:=by
 obtain⟨m,⟨o,es,ep,ho,r⟩,_⟩:=id I.loc
 obtain⟨sl,hL⟩:=u.any ho I.free (by simp)
 exact I.step (g':=s.gens) (d':=s.drawn) (ch:=[]) (fun _ z=>nomatch z) (fun b o _ hb _ e n=>u.keep b o e n hb (by simp)) (fun b o _ hb _ e n=>u.slot b o e n hb (by simp)) (fun b o _ e n=>u.free b o e n (by simp)) (fun b o _ e=>u.there b o e (by simp)) u.tups u.frzs u.tbls (fun m' hm=>by
  obtain⟨o',es',ep',ho',r'⟩:=hm
  rw[ho] at ho';cases ho'
  exact⟨_,es',ep',hL,r'⟩) hok I.bare
theorem Inv.call {g':Array GenState}{t':Nat}{d':Drawn}{ch:List Addr}(I:Inv X pins σ H s) (u:Un (frs X.stack) ch H H' s.heap h') (hok:HOk X.prog X.w H' h') (hg:AllBare g')
  (hch:∀ b∈ch,(b∈X.ex∨X.s₀.heap.objs.size≤b)∧b≠X.env.locals∧(∀ x c,X.env.cells.lookup x=some c→c≠b)∧∀ p∈X.pn++pins,p.1≠b) :
  Inv X pins σ H' { s with heap:=h',gens:=g',drawn:=d',toks:=t' }:=by
 obtain⟨m,⟨o,es,ep,ho,r⟩,_⟩:=id I.loc
 obtain⟨sl,hL⟩:=u.any ho I.free fun z=>(hch _ z).2.1 rfl
 exact I.step (ch:=ch) hch (fun b o hL hb hc e n=>u.keep b o e n (fun z=>(List.mem_cons.mp (I.stkSub b z)).elim hL hb) hc) (fun b o _ _ hc e n=>u.any e n hc) (fun b o hc e n=>u.free b o e n hc) (fun b o hc e=>u.there b o e hc) u.tups u.frzs u.tbls (fun m' hm=>by
  obtain⟨o',es',ep',ho',r'⟩:=hm
  rw[ho] at ho';cases ho'
  exact⟨_,es',ep',hL,r'⟩) hok hg
theorem Inv.turned {t':Nat}{it:Addr}(I:Inv X pins σ H s) (k:∀ b o,b≠it→s.heap.get? b=some o→h'.get? b=some o) (hn:H it=none) (hL:it≠X.env.locals)
  (h1:it∈X.ex∨X.s₀.heap.objs.size≤it) (h2:∀ x c,X.env.cells.lookup x=some c→c≠it) (h3:∀ p∈X.pn++pins,p.1≠it):Inv X pins σ H { s with heap:=h',toks:=t' }:=by
 have nit:∀ b u,H b=some u→b≠it:=fun b u e z=>by rw[z,hn] at e;cases e
 refine I.step (g':=s.gens) (d':=s.drawn) (ch:=[it]) (fun b hb=>?_) (fun b o _ _ hc e _=>k b o (fun z=>hc (by simp[z])) e) (fun b o _ _ hc e _=>⟨o.slots,k b o (fun z=>hc (by simp[z])) e⟩) (fun _ _ _ _ n=>n)
  (fun b o hc e=>⟨o,k b o (fun z=>hc (by simp[z])) e⟩) (fun _ _ e=>e) (fun _ _ _ e=>e) (fun b ps e=>⟨#[],by rw[e];simp⟩) (fun m hm=>?_) (fun b u e=>?_) I.bare
 ·have e:b=it:=by simpa using hb
  subst e
  exact⟨h1,hL,h2,h3⟩
 ·obtain⟨o,es,ep,ho,r⟩:=hm
  exact⟨o,es,ep,k _ o (Ne.symm hL) ho,r⟩
 ·refine(I.hok b u e).stay (fun c v hc q=>k c v ?_ q) (fun _ q=>q) fun _ _ q=>q
  rcases hc with z | z
  ·rw[z];exact nit b u e
  ·exact nit c _ z
theorem Inv.tok (I:Inv X pins σ H s) (t:Nat):Inv X pins σ H { s with toks:=t }:=I.un (h':=s.heap) (t':=t) Un.refl I.hok
theorem Inv.kept {t':Nat}(I:Inv X pins σ H s) (k:∀ b u,s.heap.get? b=some u→h'.get? b=some u):Inv X pins σ H { s with heap:=h',toks:=t' }:=I.un (Un.kept k) (I.hok.kept k)
theorem Inv.laid {a:Addr}{o:HO}{t':Nat}(I:Inv X pins σ H s) (k:∀ b u,s.heap.get? b=some u→h'.get? b=some u) (hp:s.heap.objs.size≤a) (new:ObjOk X.prog X.w (upd H a o) h' a o) :
  Inv X pins σ (upd H a o) { s with heap:=h',toks:=t' }:=I.un (Un.laid k hp (I.hok.fresh hp)) (I.hok.laid k hp new)
theorem Inv.write {x e:Addr}{o:HO}{t':Nat}(I:Inv X pins σ H s) (mu:Mut (H x)) (he:e=x∨H e=some (.own x)) (k:∀ b u,b≠e→s.heap.get? b=some u→h'.get? b=some u) (heo:∃ u,h'.get? e=some u)
  (new:ObjOk X.prog X.w (upd H x o) h' x o):Inv X pins σ (upd H x o) { s with heap:=h',toks:=t' }:=I.un (Un.write mu he k heo) (I.hok.write mu he k heo new)
theorem Inv.pins_of {pins':List (Addr×Obj)}(I:Inv X pins σ H s) (h:∀ p∈pins',s.heap.get? p.1=some p.2∧H p.1=none∧p.1≠X.env.locals∧p.1∉X.fs∧∀ v,p.2.data≠.cell v):Inv X pins' σ H s :=
 ⟨I.ok,I.os,I.bare,I.base,I.loc,I.cell,I.free,I.freeC,fun p hp=>(List.mem_append.mp hp).elim (fun z=>I.pin p (List.mem_append_left _ z)) (h p),I.hok,I.len⟩
theorem nodup_ix {N:List Str}(hN:N.Nodup){i j:Nat}{x:Str}(a:N[i]?=some x) (b:N[j]?=some x):i=j:=by
 obtain⟨h1,e1⟩:=List.getElem?_eq_some_iff.mp a
 obtain⟨h2,e2⟩:=List.getElem?_eq_some_iff.mp b
 exact(List.getElem_inj hN).mp (e1.trans e2.symm)
theorem wZ {M:Model}{A:Around}{E:Value→Shared→Prop}{i:Nat}{x:Str}{v:V}{u:Value}{Q:Unit→Shared→Prop}(I:Inv X pins σ H s) (hN:X.N.Nodup) (hi:X.N[i]?=some x) (hx:Loc X.env.scope x) (r:RelV v u)
  (h:∀ s',Inv X pins (σ.set i (some v)) H s'→(∃ a,Heap.SameBut a s.heap s'.heap∧(a=X.env.locals∨X.env.cells.lookup x=some a))→Q () s') (hf:X.fn x=true∨X.env.scope.names.lookup x=some .local:=by first | exact .inl rfl | exact .inr rfl | assumption):wpAny M A (storeName X.env x u) Q E s:=by
 obtain⟨m,hn,hl⟩:=id I.loc
 have hcls:(X.env.scope.kind == .class||(X.env.scope.kind == .module&&X.env.locals != X.env.globals))=false:=by rw[I.ok.kind];rfl
 have hiσ:i<σ.length:=by rw[I.len];exact(List.getElem?_eq_some_iff.mp hi).1
 have cne:=I.cne
 have tracked:∀ {a:Addr}{h':Heap},(∃ o,s.heap.get? a=some o∧H a=none)→Heap.SameBut a s.heap h'→HOk X.prog X.w H h':=fun {a h'} ha hs b ob e=>by
  obtain⟨_,_,hfree⟩:=ha
  refine(I.hok b ob e).stay (fun c w' hc q=>(hs.2 c ?_).trans q) (fun _ q=>q) fun _ _ q=>q
  rintro rfl
  rcases hc with rfl | hc
  ·rw[hfree] at e;cases e
  ·rw[hfree] at hc;cases hc
 rcases hx with hk | hk
 ·refine wpAny_storeName_local hk hn (fun h' hn' hs=>?_) hcls
  obtain⟨oL,_,_,hoL,_⟩:=id hn
  refine h _ ⟨I.ok,I.os,I.bare,⟨fun b o e n hb hx=>?_,fun b o e n hb hx=>?_,I.base.free,fun b o e hx=>?_,I.base.tups,I.base.frzs,I.base.tbls⟩,⟨_,hn',fun j y v' e1 e2 e3=>?_⟩,fun y c e=>?_,I.free,I.freeC,fun p hp=>?_,tracked ⟨oL,hoL,I.free⟩ hs,by simpa using I.len⟩ ⟨_,hs,.inl rfl⟩
  ·exact(hs.2 b (Nat.ne_of_lt (Nat.lt_of_lt_of_le (Heap.lt_size e) I.ok.above))).trans (I.base.keep b o e n hb hx)
  ·obtain⟨sl,e1⟩:=I.base.slot b o e n hb hx
   exact⟨sl,(hs.2 b (Nat.ne_of_lt (Nat.lt_of_lt_of_le (Heap.lt_size e) I.ok.above))).trans e1⟩
  ·obtain⟨o',e1⟩:=I.base.there b o e hx
   exact⟨o',(hs.2 b (Nat.ne_of_lt (Nat.lt_of_lt_of_le (Heap.lt_size e) I.ok.above))).trans e1⟩
  ·by_cases hj:j=i
   ·subst hj
    rw[hi] at e1;cases e1
    rw[List.getElem?_set_self hiσ] at e2
    cases e2
    exact⟨u,r,.inl ⟨hk,by simp⟩⟩
   ·rw[List.getElem?_set_ne (Ne.symm hj)] at e2
    obtain⟨u',r',q⟩:=hl j y v' e1 e2 e3
    refine⟨u',r',?_⟩
    rcases q with⟨k,e⟩ | ⟨k,c,e,z⟩
    ·refine .inl ⟨k,?_⟩
     have:y≠x:=fun e=>hj (nodup_ix hN e1 (e ▸ hi))
     simp[this,e]
    ·exact .inr ⟨k,c,e,z.sameBut hs (cne y c e)⟩
  ·obtain⟨w',z⟩:=I.cell y c e
   exact⟨w',z.sameBut hs (cne y c e)⟩
  ·obtain⟨e,n,ne,nf,d⟩:=I.pin p hp
   exact⟨(hs.2 p.1 ne).trans e,n,ne,nf,d⟩
 ·have hfn:X.fn x=true:=by
   rcases hf with z | z
   ·exact z
   ·rw[z] at hk;cases hk
  obtain⟨c,hc⟩:=I.ok.has x (.inl hk)
  obtain⟨w',z⟩:=I.cell x c hc
  refine wpAny_storeName_cell I.ok.kind hk hc z (fun h' hc' hs=>?_)
  obtain⟨oc,hoc,hocd⟩:=id z
  refine h { s with heap:=h' } ⟨I.ok,I.os,I.bare,⟨fun b o e n hb hx=>?_,fun b o e n hb hx=>?_,I.base.free,fun b o e hx=>?_,I.base.tups,I.base.frzs,I.base.tbls⟩,⟨m,hn.sameBut hs (Ne.symm (cne x c hc)),fun j y v' e1 e2 e3=>?_⟩,fun y c' e=>?_,I.free,I.freeC,fun p hp=>?_,tracked ⟨oc,hoc,I.freeC x c hc⟩ hs,by simpa using I.len⟩ ⟨c,hs,.inr hc⟩
  ·exact(hs.2 b (Nat.ne_of_lt (Nat.lt_of_lt_of_le (Heap.lt_size e) (I.ok.cab x c hfn hc)))).trans (I.base.keep b o e n hb hx)
  ·obtain⟨sl,e1⟩:=I.base.slot b o e n hb hx
   exact⟨sl,(hs.2 b (Nat.ne_of_lt (Nat.lt_of_lt_of_le (Heap.lt_size e) (I.ok.cab x c hfn hc)))).trans e1⟩
  ·obtain⟨o',e1⟩:=I.base.there b o e hx
   exact⟨o',(hs.2 b (Nat.ne_of_lt (Nat.lt_of_lt_of_le (Heap.lt_size e) (I.ok.cab x c hfn hc)))).trans e1⟩
  ·by_cases hj:j=i
   ·subst hj
    rw[hi] at e1;cases e1
    rw[List.getElem?_set_self hiσ] at e2
    cases e2
    exact⟨u,r,.inr ⟨.inl hk,c,hc,hc'⟩⟩
   ·rw[List.getElem?_set_ne (Ne.symm hj)] at e2
    obtain⟨u',r',q⟩:=hl j y v' e1 e2 e3
    refine⟨u',r',?_⟩
    rcases q with q | ⟨k,c',e,z'⟩
    ·exact .inl q
    ·refine .inr ⟨k,c',e,z'.sameBut hs ?_⟩
     rintro rfl
     exact hj (nodup_ix hN e1 (I.ok.inj _ _ _ e hc ▸ hi))
  ·by_cases hcc:c'=c
   ·subst hcc;exact⟨_,hc'⟩
   ·obtain⟨w2,z2⟩:=I.cell y c' e
    exact⟨w2,z2.sameBut hs hcc⟩
  ·obtain⟨e,n,ne,nf,d⟩:=I.pin p hp
   refine⟨(hs.2 p.1 ?_).trans e,n,ne,nf,d⟩
   intro q
   rw[q,hoc] at e
   have q':oc=p.2:=Option.some.inj e
   exact d w' (by rw[← q'];exact hocd)
theorem store_ok {M:Model}{A:Around}{E:Value→Shared→Prop}{i:Nat}{x:Str}{v:V}{u:Value}{Q:Unit→Shared→Prop}(I:Inv X pins σ H s) (hN:X.N.Nodup) (hi:X.N[i]?=some x) (hx:Loc X.env.scope x) (r:RelV v u)
  (h:∀ s',Inv X pins (σ.set i (some v)) H s'→Q () s') (hf:X.fn x=true∨X.env.scope.names.lookup x=some .local:=by first | exact .inl rfl | exact .inr rfl | assumption):wpAny M A (storeName X.env x u) Q E s :=
 wZ I hN hi hx r (fun s' I' _=>h s' I') hf
theorem Inv.call' {s':Shared}{ch:List Addr}(I:Inv X pins σ H s) (ho:s'.os=s.os) (u:Un (frs X.stack) ch H H' s.heap s'.heap) (hok:HOk X.prog X.w H' s'.heap) (hg:AllBare s'.gens)
  (hch:∀ b∈ch,(b∈X.ex∨X.s₀.heap.objs.size≤b)∧b≠X.env.locals∧(∀ x c,X.env.cells.lookup x=some c→c≠b)∧∀ p∈X.pn++pins,p.1≠b):Inv X pins σ H' s':=by
 obtain⟨h',g',d',t',o'⟩:=s'
 have e:o'=s.os:=ho
 subst e
 exact I.call (g':=g') (t':=t') (d':=d') u hok hg hch
end
abbrev XK:=Value→Option Addr→Hp→Prop
abbrev St:=List (Option V)
abbrev VK:=V→Hp→Prop
abbrev TE:=St→Hp→VK→Prop
abbrev TT:=St→Hp→(Bool→Hp→Prop)→Prop
abbrev TA:=St→Hp→(List V→Hp→Prop)→Prop
structure Ends where
 nx:St→Hp→Prop
 rt:VK
 bk:St→Hp→Prop:=fun _ _=>False
 ct:St→Hp→Prop:=fun _ _=>False
abbrev TS:=Ends→St→Hp→Prop
def EP (X:Cx) (pins:List (Addr×Obj)) (σ:St) (Q:VK) (u:Value) (s':Shared):Prop:=∃ v H',Inv X pins σ H' s'∧RelV v u∧Q v H'
def TP (X:Cx) (pins:List (Addr×Obj)) (σ:St) (Q:Bool→Hp→Prop) (b:Bool) (s':Shared):Prop:=∃ H',Inv X pins σ H' s'∧Q b H'
def AP (X:Cx) (pins:List (Addr×Obj)) (σ:St) (Q:List V→Hp→Prop) (us:List Value) (s':Shared):Prop:=∃ vs H',Inv X pins σ H' s'∧Vals vs us∧Q vs H'
def SP (X:Cx) (pins:List (Addr×Obj)) (D:Ends) (f:Flow) (s':Shared):Prop :=
 match f with
 |.next=>∃ σ' H',Inv X pins σ' H' s'∧D.nx σ' H'
 |.brk=>∃ σ' H',Inv X pins σ' H' s'∧D.bk σ' H'
 |.cont=>∃ σ' H',Inv X pins σ' H' s'∧D.ct σ' H'
 |.ret u=>∃ v σ' H',Inv X pins σ' H' s'∧RelV v u∧D.rt v H'
def PE (X:Cx) (e:Expr) (t:TE):Prop :=
 ∀ (pins:List (Addr×Obj)) (s:Shared) (σ:St) (H:Hp) (Q:VK),Inv X pins σ H s→t σ H Q→wpAny (model X.prog X.w) X.A (eval e X.env) (EP X pins σ Q) X.xe s
def PT (X:Cx) (e:Expr) (t:TT):Prop :=
 ∀ (pins:List (Addr×Obj)) (s:Shared) (σ:St) (H:Hp) (Q:Bool→Hp→Prop),Inv X pins σ H s→t σ H Q→wpAny (model X.prog X.w) X.A (isTrue e X.env (eval e X.env)) (TP X pins σ Q) X.xe s
def PW (X:Cx) (e:Expr) (t:TT):Prop :=
 ∀ (whole:Sem Value) (pins:List (Addr×Obj)) (s:Shared) (σ:St) (H:Hp) (Q:Bool→Hp→Prop),Inv X pins σ H s→t σ H Q→wpAny (model X.prog X.w) X.A (isTrue e X.env whole) (TP X pins σ Q) X.xe s
theorem PW.pt {X:Cx}{e:Expr}{t:TT}(h:PW X e t):PT X e t:=h _
def PA (X:Cx) (es:List Expr) (t:TA):Prop :=
 ∀ (pos:Pos) (pins:List (Addr×Obj)) (s:Shared) (σ:St) (H:Hp) (Q:List V→Hp→Prop),Inv X pins σ H s→t σ H Q→wpAny (model X.prog X.w) X.A (spliced (backTo pos (starEach es X.env))) (AP X pins σ Q) X.xe s
def PS (X:Cx) (st:Stmt) (t:TS):Prop :=
 ∀ (pins:List (Addr×Obj)) (s:Shared) (σ:St) (H:Hp) (D:Ends),Inv X pins σ H s→t D σ H→wpAny (model X.prog X.w) X.A (exec st X.env) (SP X pins D) X.xe s
def PSs (X:Cx) (st:List Stmt) (t:TS):Prop :=
 ∀ (pins:List (Addr×Obj)) (s:Shared) (σ:St) (H:Hp) (D:Ends),Inv X pins σ H s→t D σ H→wpAny (model X.prog X.w) X.A (execs st X.env) (SP X pins D) X.xe s
theorem thn {α:Type}{t:Sem α}{Q Q':α→Shared→Prop}{M:Model}{A:Around}{E:Value→Shared→Prop}{s:Shared}(h:wpAny M A t Q E s) (hQ:∀ a s,Q a s→Q' a s):wpAny M A t Q' E s:=wpAny_mono h hQ fun _ _ x=>x
section
variable {X:Cx}
theorem bin {a b:Expr}{ta tb:TE}(ha:PE X a ta) (hb:PE X b tb){pins:List (Addr×Obj)}{s:Shared}{σ:St}{H:Hp}{R:V→V→Hp→Prop}(I:Inv X pins σ H s) (h:ta σ H fun x H1=>tb σ H1 fun y H2=>R x y H2)
  {α:Type}{Q:α→Shared→Prop}{f:Value→Value→Sem α}
  (hf:∀ v u s2 x y H2,Inv X pins σ H2 s2→RelV x v→RelV y u→R x y H2→wpAny (model X.prog X.w) X.A (f v u) Q X.xe s2) :
  wpAny (model X.prog X.w) X.A (eval a X.env) (fun v s₁=>wpAny (model X.prog X.w) X.A (eval b X.env) (fun u s₂=>wpAny (model X.prog X.w) X.A (f v u) Q X.xe s₂) X.xe s₁) X.xe s:=by
 refine thn (ha pins s σ H _ I h) fun v s1 hq0=>?_
 obtain⟨x,H1,I1,r1,q1⟩:=hq0
 refine thn (hb pins s1 σ H1 _ I1 q1) fun u s2 hq0=>?_
 obtain⟨y,H2,I2,r2,q2⟩:=hq0
 exact hf v u s2 x y H2 I2 r1 r2 q2
def ziy (i:Nat):TE:=fun σ H Q=>∃ v,σ[i]?=some (some v)∧Q v H
def tC (v:V):TE:=fun _ H Q=>Q v H
theorem zfL {i:Nat}{x:Str}{pos:Pos}(hN:X.N[i]?=some x) (hv:Vis X.env.scope x) (hd:(x == ("__debug__" : Str))=false:=by decide) (hcd:(x == ("__classdict__" : Str))=false:=by decide):PE X (.Name x pos) (ziy i):=by
 intro pins s σ H Q I h
 obtain⟨v,e,h⟩:=h
 obtain⟨m,hn,hl⟩:=I.loc
 obtain⟨u,r,l⟩:=hl i x v hN e hv
 have fin:EP X pins σ Q u s:=⟨v,H,I,r,h⟩
 rcases l with⟨hk,hm⟩ | ⟨hk,c,hc,hcell⟩
 ·exact wpAny_Name (wpAny_loadName_local I.ok.kind hk hn hm fin) hd
 ·rcases hk with hk | hk
  ·exact wpAny_Name (wpAny_loadName_cell I.ok.kind hk hc hcell fin) hd
  ·exact wpAny_Name (wpAny_loadName_free I.ok.kind hk hc hcell fin hcd) hd
theorem yH {i j pos}:PE X (.Constant (.int i) j pos) (tC (.int i)):=fun _ _ _ H _ I h=>wpAny_Constant_int ⟨.int i,H,I.tok _,⟨_,rfl⟩,h⟩
theorem xW {b j pos}:PE X (.Constant (.bool b) j pos) (tC (.bl b)):=fun _ _ _ H _ I h=>Constant_bool ⟨.bl b,H,I,rfl,h⟩
theorem zfP {j pos}:PE X (.Constant .none j pos) (tC .non):=fun _ _ _ H _ I h=>Constant_none ⟨.non,H,I,rfl,h⟩
theorem zfO {x j pos}:PE X (.Constant (.str x) j pos) (tC (.str x)):=fun _ _ _ H _ I h=>Calls.Constant_str ⟨.str x,H,I.tok _,⟨_,rfl⟩,h⟩
def Gl (X:Cx) (x:Str):Prop:=X.env.kindOf x=some .globalImplicit
theorem ld_glob {E:Value→Shared→Prop}{pins:List (Addr×Obj)}{s:Shared}{σ:St}{H:Hp}{x:Str}{u:Value}{pos:Pos}{Q:Value→Shared→Prop}(I:Inv X pins σ H s) (hg:Gl X x) (hm:X.mg x=some u) (h:Q u s)
  (hd:(x == ("__debug__" : Str))=false:=by decide):wpAny (model X.prog X.w) X.A (eval (.Name x pos) X.env) Q E s :=
 Calls.Name_function_global I.ok.kind hg (Calls.loadGlobal_global (by rw[I.ok.glob];exact I.mod.glob.keeps I.bk) hm h) hd
theorem ld_blt {E:Value→Shared→Prop}{pins:List (Addr×Obj)}{s:Shared}{σ:St}{H:Hp}{x:Str}{u:Value}{pos:Pos}{Q:Value→Shared→Prop}(I:Inv X pins σ H s) (hg:Gl X x) (hm:X.mg x=none) (hv:bootBuiltins x=some u) (h:Q u s)
  (hn:x ≠ "__name__" := by decide) (hd:(x == ("__debug__" : Str))=false:=by decide):wpAny (model X.prog X.w) X.A (eval (.Name x pos) X.env) Q E s:=by
 obtain⟨mb,h1,h2⟩:=I.mod.blt
 exact Calls.Name_function_global I.ok.kind hg (Calls.loadGlobal_builtin (by rw[I.ok.glob];exact I.mod.glob.keeps I.bk) hm (by rw[I.ok.blt];exact h1.keeps I.bk) ((h2 x hn).trans hv) h) hd
theorem wB {x:Str}{v:V}{u:Value}{pos:Pos}(hg:Gl X x) (hm:X.mg x=some u) (r:RelV v u) (hd:(x == ("__debug__" : Str))=false:=by decide):PE X (.Name x pos) (tC v) :=
 fun _ _ _ H _ I h=>ld_glob I hg hm ⟨v,H,I,r,h⟩ hd
theorem VG {x:Str}{v:V}{u:Value}{pos:Pos}(hg:Gl X x) (hm:X.mg x=none) (hv:bootBuiltins x=some u) (r:RelV v u) (hn:x ≠ "__name__" := by decide) (hd:(x == ("__debug__" : Str))=false:=by decide):PE X (.Name x pos) (tC v) :=
 fun _ _ _ H _ I h=>ld_blt I hg hm hv ⟨v,H,I,r,h⟩ hn hd
variable {a b:Expr}{ta tb:TE}{pos:Pos}
def PC (X:Cx) (op:CmpOp) (a b:Expr) (t:TE):Prop :=
 ∀ (pins:List (Addr×Obj)) (s:Shared) (σ:St) (H:Hp) (Q:VK),Inv X pins σ H s→t σ H Q →
  wpAny (model X.prog X.w) X.A (eval a X.env) (fun v s₁=>wpAny (model X.prog X.w) X.A (eval b X.env) (fun u s₂=>wpAny (model X.prog X.w) X.A (compareOp op v u) (EP X pins σ Q) X.xe s₂) X.xe s₁) X.xe s
def tB (t:TE):TT:=fun σ H Q=>t σ H fun x H1=>∃ c,x=.bl c∧Q c H1
theorem zfR {op:CmpOp}{t:TE}(h:PC X op a b t) (h1:behindInMarks op b=false:=by first | exact nobehind _ (by decide) (by decide) | rfl):PE X (.Compare a [op] [b] pos) t:=fun pins s σ H Q I hw=>wpAny_Compare1 (h pins s σ H Q I hw) h1
theorem zfI {op:CmpOp}{t:TE}(h:PC X op a b t) (h1:behindInMarks op b=false:=by first | exact nobehind _ (by decide) (by decide) | rfl):PT X (.Compare a [op] [b] pos) (tB t):=by
 intro pins s σ H Q I hw
 refine wpAny_isTrue_Compare1 (thn (h pins s σ H _ I hw) fun v s1 h1=>thn h1 fun u s2 h2=>thn h2 fun c s3 hq0=>?_) h1
 obtain⟨x,H1,I1,r1,q1⟩:=hq0
 obtain⟨d,rfl,q⟩:=q1
 cases r1
 exact wpAny_truthy_bool ⟨H1,I1,q⟩
theorem yF {e:Expr}{t:TE}(h:PE X e t) (he:∀ whole,isTrue e X.env whole=(do let v ← whole;standAt e.pos;holding [v] (truthy v)):=by intro _;rfl):PT X e (tB t):=by
 intro pins s σ H Q I hw
 refine isTrue_plain (thn (h pins s σ H _ I hw) fun v s1 hq0=>?_) (he _)
 obtain⟨x,H1,I1,r1,q1⟩:=hq0
 obtain⟨d,rfl,q⟩:=q1
 cases r1
 exact wpAny_truthy_bool ⟨H1,I1,q⟩
variable {tA tB':TT}{rest:List Expr}
def zn0 (t u:TT):TT:=fun σ H Q=>t σ H fun c H1=>if c=true then u σ H1 Q else Q false H1
def tOr (t u:TT):TT:=fun σ H Q=>t σ H fun c H1=>if c=true then Q true H1 else u σ H1 Q
def znT (t:TT):TT:=fun σ H Q=>t σ H fun c H1=>Q (!c) H1
theorem Vn (ha:PT X a tA):PW X (.BoolOp .And [a] pos) tA:=by
 intro wh pins s σ H Q I h
 refine isTrue_and (thn (ha pins s σ H Q I h) fun c s1 e=>?_)
 cases c with
 |true=>exact isTrue_and_nil e
 |false=>exact e
theorem wb (ha:PT X a tA):PW X (.BoolOp .Or [a] pos) tA:=by
 intro wh pins s σ H Q I h
 refine isTrue_or (thn (ha pins s σ H Q I h) fun c s1 e=>?_)
 cases c with
 |false=>exact isTrue_or_nil e
 |true=>exact e
theorem zfH (ha:PT X a tA) (hb:PW X (.BoolOp .And (b::rest) pos) tB'):PW X (.BoolOp .And (a::b::rest) pos) (zn0 tA tB'):=by
 intro wh pins s σ H Q I h
 refine isTrue_and (thn (ha pins s σ H _ I h) fun c s1 hq0=>?_)
 obtain⟨H1,I1,q1⟩:=hq0
 cases c with
 |true=>exact hb wh pins s1 σ H1 Q I1 q1
 |false=>exact⟨H1,I1,q1⟩
theorem vf (ha:PT X a tA) (hb:PW X (.BoolOp .Or (b::rest) pos) tB'):PW X (.BoolOp .Or (a::b::rest) pos) (tOr tA tB'):=by
 intro wh pins s σ H Q I h
 refine isTrue_or (thn (ha pins s σ H _ I h) fun c s1 hq0=>?_)
 obtain⟨H1,I1,q1⟩:=hq0
 cases c with
 |true=>exact⟨H1,I1,q1⟩
 |false=>exact hb wh pins s1 σ H1 Q I1 q1
theorem yG (ha:PT X a tA):PT X (.UnaryOp .Not a pos) (znT tA):=by
 intro pins s σ H Q I h
 exact isTrue_not (ha pins s σ H (fun c H1=>Q (!c) H1) I h)
def tAndV (ta tb:TE):TE:=fun σ H Q=>ta σ H fun x H1=>∃ c,x=.bl c∧if c=true then tb σ H1 Q else Q (.bl false) H1
def zhl (ta tb:TE):TE:=fun σ H Q=>ta σ H fun x H1=>∃ c,x=.bl c∧if c=true then Q (.bl true) H1 else tb σ H1 Q
def zan (ta:TE):TE:=fun σ H Q=>ta σ H fun x H1=>∃ c,x=.bl c∧Q (.bl (!c)) H1
theorem YC {op}{t:TE}(h:PE X a t):PE X (.BoolOp op [a] pos) t:=fun pins s σ H Q I hw=>BoolOp_one (h pins s σ H Q I hw)
theorem uy (ha:PE X a ta) (hb:PE X (.BoolOp .And (b::rest) pos) tb):PE X (.BoolOp .And (a::b::rest) pos) (tAndV ta tb):=by
 intro pins s σ H Q I h
 refine BoolOp_and (thn (ha pins s σ H _ I h) fun v s1 hq0=>?_)
 obtain⟨x,H1,I1,r1,q1⟩:=hq0
 obtain⟨c,rfl,q1⟩:=q1
 cases r1
 refine wpAny_truthy_bool ?_
 cases c with
 |true=>exact hb pins s1 σ H1 Q I1 q1
 |false=>exact⟨.bl false,H1,I1,rfl,q1⟩
theorem zjV (ha:PE X a ta) (hb:PE X (.BoolOp .Or (b::rest) pos) tb):PE X (.BoolOp .Or (a::b::rest) pos) (zhl ta tb):=by
 intro pins s σ H Q I h
 refine BoolOp_or (thn (ha pins s σ H _ I h) fun v s1 hq0=>?_)
 obtain⟨x,H1,I1,r1,q1⟩:=hq0
 obtain⟨c,rfl,q1⟩:=q1
 cases r1
 refine wpAny_truthy_bool ?_
 cases c with
 |false=>exact hb pins s1 σ H1 Q I1 q1
 |true=>exact⟨.bl true,H1,I1,rfl,q1⟩
theorem WY (ha:PE X a ta):PE X (.UnaryOp .Not a pos) (zan ta):=by
 intro pins s σ H Q I h
 refine UnaryOp_ (thn (ha pins s σ H _ I h) fun v s1 hq0=>?_)
 obtain⟨x,H1,I1,r1,q1⟩:=hq0
 obtain⟨c,rfl,q1⟩:=q1
 cases r1
 exact not_of (wpAny_truthy_bool ⟨.bl (!c),H1,I1,rfl,q1⟩)
end
def SqL (K:PySem.W.Frag) (H:Hp) (a:Addr) (xs:List V):Prop :=
 Rd H a (.lst xs) ∨
  ∃ (o:Obj) (its:Array Value) (n:Nat),K.lookup a=some o∧o.cls=.type "list" ∧ o.dict=none∧o.data=.seq its n∧its.size≤sizeLine∧Vals xs its.toList
def SqT (K:PySem.W.Frag) (H:Hp) (a:Addr) (xs:List V):Prop :=
 Rd H a (.tup xs) ∨
  ∃ (o:Obj) (its:Array Value) (n:Nat),K.lookup a=some o∧o.cls=.type "tuple" ∧ o.data=.seq its n∧its.size≤sizeLine∧Vals xs its.toList
noncomputable def zxq:Value→Option V
 |.none=>some .non
 |.bool b=>some (.bl b)
 |.int i _=>some (.int i)
 |.str x _=>some (.str x)
 |.bytes b _=>some (.byt b)
 |.float b _=>some (.flt b)
 |.ref a=>some (.ref a)
 |.type n=>some (.ty n)
 |_=>none
theorem RelV.abs {x:V}{u:Value}(r:RelV x u):zxq u=some x:=by
 cases x with
 |non=>cases r;rfl
 |bl _=>cases r;rfl
 |int _=>obtain⟨t,rfl⟩:=r;rfl
 |str _=>obtain⟨t,rfl⟩:=r;rfl
 |byt _=>obtain⟨t,rfl⟩:=r;rfl
 |flt _=>obtain⟨t,rfl⟩:=r;rfl
 |ref _=>cases r;rfl
 |ty _=>cases r;rfl
theorem RelV.inj {x y:V}{u:Value}(r:RelV x u) (q:RelV y u):x=y:=Option.some.inj (r.abs.symm.trans q.abs)
theorem Vals.inj:∀ {xs ys:List V}{us:List Value},Vals xs us→Vals ys us→xs=ys
 |_,_,_,.nil,.nil=>rfl
 |_,_,_,.cons r t,.cons r' t'=>by rw[r.inj r',Vals.inj t t']
section
variable {X:Cx}{pins:List (Addr×Obj)}{σ:St}{H:Hp}{s:Shared}{a:Addr}{xs ys:List V}
theorem SqL.of {K:PySem.W.Frag}(h:H a=some (.lst xs)):SqL K H a xs:=.inl (.inl h)
theorem SqT.of {K:PySem.W.Frag}(h:H a=some (.tup xs)):SqT K H a xs:=.inl (.inl h)
theorem Inv.list (I:Inv X pins σ H s) (h:SqL X.K H a xs):∃ its:List Value,Vals xs its∧PlainL s.heap a its.toArray∧xs.length≤sizeLine:=by
 rcases h with h | ⟨o,its,n,hk,hc,hd,hs,hz,r⟩
 ·obtain⟨z,its,n,r,e⟩:=h.ok I.hok
  exact⟨its,r,⟨_,n,e,rfl,rfl,rfl⟩,z⟩
 ·refine⟨its.toList,r,⟨o,n,I.kIn a o hk,hc,hd,by simpa using hs⟩,?_⟩
  have e:=r.length
  simp only[Array.length_toList] at e
  omega
theorem Inv.tuple (I:Inv X pins σ H s) (h:SqT X.K H a xs):∃ its:List Value,Vals xs its∧IsTup s.heap a its.toArray∧xs.length≤sizeLine:=by
 rcases h with h | ⟨o,its,n,hk,hc,hs,hz,r⟩
 ·obtain⟨z,its,r,p⟩:=h.ok I.hok
  exact⟨its,r,p,z⟩
 ·refine⟨its.toList,r,⟨o,I.kIn a o hk,hc,n,by simpa using hs⟩,?_⟩
  have e:=r.length
  simp only[Array.length_toList] at e
  omega
theorem Inv.list_inj (I:Inv X pins σ H s) (h:SqL X.K H a xs) (h':SqL X.K H a ys):xs=ys:=by
 obtain⟨its,r,⟨o,n,e,_,_,d⟩,_⟩:=I.list h
 obtain⟨its',r',⟨o',n',e',_,_,d'⟩,_⟩:=I.list h'
 rw[e] at e';cases e'
 rw[d] at d'
 injection d' with d1 _
 have:its=its':=by simpa using congrArg Array.toList d1
 subst this
 exact r.inj r'
end
noncomputable abbrev Cx.wish (X:Cx) (E:Value→Shared→Prop):Cx:={ X with xe:=E }
noncomputable abbrev Cx.nox (X:Cx):Cx:=X.wish fun _ _=>False
theorem Cx.Ok.wish {X:Cx}(ok:X.Ok) (E:Value→Shared→Prop):(X.wish E).Ok :=
 ⟨ok.mod,ok.kind,ok.glob,ok.blt,ok.above,ok.inj,ok.has,ok.cab,ok.hd,ok.frames,ok.stk,ok.exf,ok.bs,ok.bsz,ok.noex,ok.exfs,ok.funs,ok.frf⟩
theorem Cx.Ok.unwish {X:Cx}{E:Value→Shared→Prop}(ok:(X.wish E).Ok):X.Ok :=
 ⟨ok.mod,ok.kind,ok.glob,ok.blt,ok.above,ok.inj,ok.has,ok.cab,ok.hd,ok.frames,ok.stk,ok.exf,ok.bs,ok.bsz,ok.noex,ok.exfs,ok.funs,ok.frf⟩
section
variable {X:Cx}{pins:List (Addr×Obj)}{σ:St}{H:Hp}{s:Shared}{E:Value→Shared→Prop}
theorem Inv.wish (I:Inv X pins σ H s) (E:Value→Shared→Prop):Inv (X.wish E) pins σ H s:=⟨I.ok.wish E,I.os,I.bare,I.base,I.loc,I.cell,I.free,I.freeC,I.pin,I.hok,I.len⟩
theorem Inv.unwish (I:Inv (X.wish E) pins σ H s):Inv X pins σ H s:=⟨I.ok.unwish,I.os,I.bare,I.base,I.loc,I.cell,I.free,I.freeC,I.pin,I.hok,I.len⟩
theorem SP.unwish {D:Ends}{f:Flow}{s':Shared}(h:SP (X.wish E) pins D f s'):SP X pins D f s':=by
 cases f with
 |next=>obtain⟨σ',H',I,q⟩:=h;exact⟨σ',H',I.unwish,q⟩
 |brk=>obtain⟨σ',H',I,q⟩:=h;exact⟨σ',H',I.unwish,q⟩
 |cont=>obtain⟨σ',H',I,q⟩:=h;exact⟨σ',H',I.unwish,q⟩
 |ret u=>obtain⟨v,σ',H',I,r,q⟩:=h;exact⟨v,σ',H',I.unwish,r,q⟩
theorem PSs.nox {st:List Stmt}{t:TS}(h:PSs X.nox st t):PSs X st t:=fun pins s σ H D I hw =>
 wpAny_mono (h pins s σ H D (I.wish _) hw) (fun _ _ q=>q.unwish) fun _ _ z=>False.elim z
end
section
variable {X:Cx}{st:Stmt}{rest:List Stmt}{t u:TS}{e:Expr}{te:TE}{pos:Pos}
def zao:TS:=fun D σ H=>D.nx σ H
def znR (t u:TS):TS:=fun D σ H=>t { D with nx:=u D } σ H
theorem yp:PSs X [] zao:=fun _ _ σ H _ I h=>wpAny_execs_nil ⟨σ,H,I,h⟩
theorem zA (h1:PS X st t) (h2:PSs X rest u):PSs X (st::rest) (znR t u):=by
 intro pins s σ H D I h
 refine wpAny_execs_cons (thn (h1 pins s σ H { D with nx:=u D } I h) fun f s1 q=>?_)
 cases f with
 |next =>
  obtain⟨σ',H',I',q⟩:=q
  exact h2 pins s1 σ' H' D I' q
 |ret v=>exact q
 |brk=>exact q
 |cont=>exact q
theorem zM (h1:PS X st t):PSs X [st] t:=by
 intro pins s σ H D I h
 refine wpAny_execs_cons (thn (h1 pins s σ H D I h) fun f s1 q=>?_)
 cases f with
 |next=>exact wpAny_execs_nil q
 |ret v=>exact q
 |brk=>exact q
 |cont=>exact q
theorem Inv.quiet {pins:List (Addr×Obj)}{σ:St}{H:Hp}{s:Shared}(I:Inv X pins σ H s):interactive X.env=false:=by simp[interactive,I.ok.kind]
def zat (te:TE):TS:=fun D σ H=>te σ H fun _ H1=>D.nx σ H1
theorem vP (he:PE X e te) (hs:swapsWith e none pos.line X.env=pure false:=by rfl):PS X (.Expr e pos) (zat te):=by
 intro pins s σ H D I h
 exact wpAny_Expr_any (thn (he pins s σ H _ I h) fun v s1 ⟨x,H1,I1,r1,q1⟩=>⟨σ,H1,I1,q1⟩) I.quiet hs
def znS (te:TE):TS:=fun D σ H=>te σ H D.rt
theorem yt (he:PE X e te):PS X (.Return (some e) pos) (znS te):=by
 intro pins s σ H D I h
 exact wpAny_Return_some (thn (he pins s σ H _ I h) fun v s1 ⟨x,H1,I1,r1,q1⟩=>⟨x,σ,H1,I1,r1,q1⟩)
def znV (c:TT) (t u:TS):TS:=fun D σ H=>c σ H fun b H1=>if b=true then t D σ H1 else u D σ H1
theorem wz {c:Expr}{a b:List Stmt}{tc:TT}(hc:PT X c tc) (ha:PSs X a t) (hb:PSs X b u):PS X (.If c a b pos) (znV tc t u):=by
 intro pins s σ H D I h
 refine wpAny_If (thn (hc pins s σ H _ I h) fun d s1 hq0=>?_)
 obtain⟨H1,I1,q1⟩:=hq0
 cases d with
 |true=>exact ha pins s1 σ H1 D I1 q1
 |false=>exact hb pins s1 σ H1 D I1 q1
def WP:TS:=fun _ _ _=>False
theorem wy:PS X st WP:=fun _ _ _ _ _ _ h=>h.elim
end
abbrev TG:=V→St→Hp→(St→Hp→Prop)→Prop
abbrev TGs:=List V→St→Hp→(St→Hp→Prop)→Prop
def PG (X:Cx) (target:Expr) (t:TG):Prop :=
 ∀ (pins:List (Addr×Obj)) (s:Shared) (σ:St) (H:Hp) (v:V) (u:Value) (Q:St→Hp→Prop),Inv X pins σ H s→RelV v u→t v σ H Q →
  wpAny (model X.prog X.w) X.A (assign target X.env u) (fun _ s'=>∃ σ' H',Inv X pins σ' H' s'∧Q σ' H') X.xe s
def PGs (X:Cx) (ts:List Expr) (t:TGs):Prop :=
 ∀ (pins:List (Addr×Obj)) (s:Shared) (σ:St) (H:Hp) (vs:List V) (us:List Value) (Q:St→Hp→Prop),Inv X pins σ H s→Vals vs us→t vs σ H Q →
  wpAny (model X.prog X.w) X.A (assignInOrder ((assignEach ts X.env).map (·.2)) us) (fun _ s'=>∃ σ' H',Inv X pins σ' H' s'∧Q σ' H') X.xe s
section
variable {X:Cx}{pos:Pos}
def v9 (i:Nat):TG:=fun v σ H Q=>Q (σ.set i (some v)) H
theorem xj {i:Nat}{x:Str}(hN:X.N.Nodup) (hi:X.N[i]?=some x) (hx:Loc X.env.scope x) (hf:X.fn x=true∨X.env.scope.names.lookup x=some .local:=by first | exact .inl rfl | exact .inr rfl | assumption):PG X (.Name x pos) (v9 i):=by
 intro pins s σ H v u Q I r h
 exact wpAny_assign_Name (store_ok I hN hi hx r (fun s' I'=>⟨_,H,I',h⟩) hf)
def gNil:TGs:=fun vs σ H Q=>vs=[]∧Q σ H
def zhb (t:TG) (u:TGs):TGs:=fun vs σ H Q=>∃ v r,vs=v::r∧t v σ H fun σ' H'=>u r σ' H' Q
theorem YB:PGs X [] gNil:=by
 intro pins s σ H vs us Q I r h
 obtain⟨e,h⟩:=h
 subst e
 cases r
 exact assignInOrder_nil ⟨σ,H,I,h⟩
theorem wA {e:Expr}{es:List Expr}{t:TG}{u:TGs}(h1:PG X e t) (h2:PGs X es u)
  (hs:(assignEach (e::es) X.env).map (·.2)=assign e X.env::(assignEach es X.env).map (·.2):=by rfl):PGs X (e::es) (zhb t u):=by
 intro pins s σ H vs us Q I r h
 obtain⟨v,vr,e1,h⟩:=h
 subst e1
 cases r with
 |cons r rr =>
  rw[hs]
  refine assignInOrder_cons (thn (h1 pins s σ H _ _ _ I r h) fun _ s1 hq0=>?_)
  obtain⟨σ1,H1,I1,q1⟩:=hq0
  exact h2 pins s1 σ1 H1 _ _ Q I1 rr q1
def zwj (K:PySem.W.Frag) (n:Nat) (t:TGs):TG:=fun v σ H Q=>∃ a xs,v=.ref a∧SqT K H a xs∧xs.length=n∧t xs σ H Q
theorem WX {es:List Expr}{k:Nat}{t:TGs}{n:Nat}(hc:X.calm=true) (h:PGs X es t)
  (hn:(assignEach es X.env).length=n:=by rfl) (hst:(assignEach es X.env).findIdx? (·.1)=none:=by rfl):PG X (.Tuple es k pos) (zwj X.K n t):=by
 intro pins s σ H v u Q I r hw
 obtain⟨a,xs,e1,hq,hl,hw⟩:=hw
 subst e1
 cases r
 obtain⟨its,rv,ht,hz⟩:=I.tuple hq
 refine assign_Tuple_tuple (I.ok.hd hc) ht (by simp[hn,← hl,rv.length]) hst fun h' hx=>?_
 have I1:Inv X pins σ H { s with heap:=h' }:=I.kept (t':=s.toks) fun b o e=>hx b o (Nat.ne_of_lt (Heap.lt_size e)) e
 exact h pins _ σ H xs _ Q I1 (by simpa using rv) hw
def zhm (te:TE) (g:TG):TS:=fun D σ H=>te σ H fun x H1=>g x σ H1 D.nx
theorem vg {i:Nat}{x:Str}{e:Expr}{te:TE}{pos':Pos}(hN:X.N.Nodup) (hi:X.N[i]?=some x) (hx:Loc X.env.scope x) (he:PE X e te) (hs:swapsWith e (some (.Name x pos')) pos.line X.env=pure false:=by rfl) (hf:X.fn x=true∨X.env.scope.names.lookup x=some .local:=by first | exact .inl rfl | exact .inr rfl | assumption) :
  PS X (.Assign [.Name x pos'] e pos) (zhm te (v9 i)):=by
 intro pins s σ H D I h
 refine wpAny_Assign_Name (thn (he pins s σ H _ I h) fun v s1 hq0=>?_) hs
 obtain⟨y,H1,I1,r1,q1⟩:=hq0
 exact store_ok I1 hN hi hx r1 (fun s2 I2=>⟨_,H1,I2,q1⟩) hf
def WO (c:TT) (tb:TS):TS:=fun D σ H=>∃ W:Nat→St→Hp→Prop,(∃ m,W m σ H)∧∀ m σ H,W m σ H →
 c σ H fun b H1=>if b=true then ∃ N:St→Hp→Prop,(∀ σ' H',N σ' H'→∃ m',m'<m∧W m' σ' H')∧tb { D with nx:=N,ct:=N,bk:=D.nx } σ H1 else D.nx σ H1
theorem XY {c:Expr}{body:List Stmt}{tc:TT}{tb:TS}(hp:PassesOwn (model X.prog X.w) X.A X.env X.xe) (hc:PT X c tc) (hb:PSs X body tb):PS X (.While c body [] pos) (WO tc tb):=by
 intro pins s σ H D I h
 obtain⟨W,⟨m0,w0⟩,turn⟩:=h
 refine wpAny_While (codeAny_whileLoop (fun n s'=>∃ σ' H',Inv X pins σ' H' s'∧W n σ' H') ?_ m0 ⟨σ,H,I,w0⟩)
 rintro n s1 ⟨σ1,H1,I1,w1⟩
 refine wpAny_passesOwn hp (thn (hc pins s1 σ1 H1 _ I1 (turn n σ1 H1 w1)) fun b s2 hq0=>?_)
 obtain⟨H2,I2,q2⟩:=hq0
 cases b with
 |true =>
  obtain⟨N,hN,q2⟩:=q2
  rw[if_pos rfl]
  refine wpAny_passesOwn hp (thn (hb pins s2 σ1 H2 _ I2 q2) fun f s3 q3=>?_)
  cases f with
  |next =>
   obtain⟨σ3,H3,I3,n3⟩:=q3
   obtain⟨m',hm,w3⟩:=hN σ3 H3 n3
   exact⟨m',hm,σ3,H3,I3,w3⟩
  |cont =>
   obtain⟨σ3,H3,I3,n3⟩:=q3
   obtain⟨m',hm,w3⟩:=hN σ3 H3 n3
   exact⟨m',hm,σ3,H3,I3,w3⟩
  |brk=>exact q3
  |ret v=>exact q3
 |false =>
  rw[if_neg Bool.false_ne_true]
  exact wpAny_execs_nil ⟨σ1,H2,I2,q2⟩
end
structure It where
 go:Nat→Hp→Prop
 yld:Nat→Hp→V→Hp→Prop
 stop:Nat→Hp→Prop
def FpOk (X:Cx) (pins:List (Addr×Obj)) (H:Hp) (b:Addr):Prop :=
 H b=none∧b≠X.env.locals∧b∉X.fs∧(b∈X.ex∨X.s₀.heap.objs.size≤b)∧(∀ x c,X.env.cells.lookup x=some c→c≠b)∧∀ p∈X.pn++pins,p.1≠b
theorem Inv.fpOk {X:Cx}{pins:List (Addr×Obj)}{σ:St}{H H':Hp}{s:Shared}{b:Addr}(I:Inv X pins σ H s) (hb:s.heap.objs.size≤b) (hn:H' b=none):FpOk X pins H' b:=by
 refine⟨hn,Nat.ne_of_gt (Nat.lt_of_lt_of_le I.lt hb),I.nofs hb,.inr (Nat.le_trans I.sz hb),fun x c e z=>?_,fun p hp z=>?_⟩
 ·obtain⟨v,q⟩:=I.cell x c e
  exact absurd (Nat.lt_of_lt_of_le q.lt (by rw[z];exact hb)) (Nat.lt_irrefl _)
 ·exact absurd (Nat.lt_of_lt_of_le (Heap.lt_size (I.pin p hp).1) (by rw[z];exact hb)) (Nat.lt_irrefl _)
structure Turn (P:Program) (w:World) (K:PySem.W.Frag) (tg:Expr) (J:It) (fp:List Addr) (it:Addr) (tn:Nat→Heap→Prop):Prop where
 mem:it∈fp
 obj:∀ i h,tn i h→∀ b∈fp,∃ o,h.get? b=some o∧∀ v,o.data≠.cell v
 keep:∀ i h h',tn i h→(∀ b∈fp,∀ o,h.get? b=some o→h'.get? b=some o)→tn i h'
 item:∀ (X:Cx),X.prog=P→X.w=w→X.K=K→X.calm=true→∀ (i:Nat) (pins:List (Addr×Obj)) (s:Shared) (σ:St) (H:Hp) (E:Value→Shared→Prop),Inv X pins σ H s→(∀ b∈fp,FpOk X pins H b)→tn i s.heap→J.go i H →
  wpAny (model P w) X.A (pyNext (.ref it)) (fun r s1=>∃ u,r=some u ∧
   wpAny (model P w) X.A (letOwnedTupleGo tg (.ref it) u) (fun _ s2=>∃ x H',Inv X pins σ H' s2∧RelV x u∧J.yld i H x H'∧tn (i+1) s2.heap∧∀ b∈fp,H' b=none) E s1) E s
 done:∀ (X:Cx),X.prog=P→X.w=w→X.K=K→X.calm=true→∀ (i:Nat) (pins:List (Addr×Obj)) (s:Shared) (σ:St) (H:Hp) (E:Value→Shared→Prop),Inv X pins σ H s→(∀ b∈fp,FpOk X pins H b)→tn i s.heap→J.stop i H →
  wpAny (model P w) X.A (pyNext (.ref it)) (fun r s1=>r=none∧Inv X pins σ H s1) E s
 self:∀ (A:Around) (i:Nat) (s:Shared) (Q:Value→Shared→Prop) (E:Value→Shared→Prop),tn i s.heap→Q (.ref it) s→wpAny (model P w) A (pyIter (.ref it)) Q E s
abbrev TI:=St→Hp→(It→Hp→Prop)→Prop
def PIE (X:Cx) (pins:List (Addr×Obj)) (σ:St) (tg:Expr) (R:It→Hp→Prop) (itv:Value) (s2:Shared):Prop :=
 ∃ (it:Addr) (fp:List Addr) (tn:Nat→Heap→Prop) (J:It) (H':Hp),itv=.ref it∧Inv X pins σ H' s2∧Turn X.prog X.w X.K tg J fp it tn∧tn 0 s2.heap∧(∀ b∈fp,FpOk X pins H' b)∧R J H'
def PI (X:Cx) (tg iter:Expr) (wi:TI):Prop :=
 ∀ (pins:List (Addr×Obj)) (s:Shared) (σ:St) (H:Hp) (R:It→Hp→Prop),Inv X pins σ H s→wi σ H R →
  wpAny (model X.prog X.w) X.A (eval iter X.env) (fun v s1=>wpAny (model X.prog X.w) X.A (pyIter v) (PIE X pins σ tg R) X.xe s1) X.xe s
theorem V4 {M:Model}{A:Around}{E:Value→Shared→Prop}{s:Shared}{tg:Expr}{it:Addr}{u:Value}{o:Obj}{n:String}{vs:Array Value}{Q:Unit→Shared→Prop}(ho:s.heap.get? it=some o) (hc:o.cls=.type n) (hd:o.data=.fields vs)
  (hn:["enumerate", "zip", "dict_itemiterator", "dict_reverseitemiterator", "odict_iterator", "itertools.zip_longest", "itertools.pairwise"].contains n=false) (hQ:Q () s):wpAny M A (letOwnedTupleGo tg (.ref it) u) Q E s:=by
 unfold letOwnedTupleGo
 cases tg<;>first
  |exact wpAny_pure hQ
  |(cases u<;>first
    |exact wpAny_pure hQ
    |(refine wpAny_bind (wpAny_load ho ?_)
      rw[hc,hd]
      show wpAny M A (if (["enumerate", "zip", "dict_itemiterator", "dict_reverseitemiterator", "odict_iterator", "itertools.zip_longest", "itertools.pairwise"].contains n&&vs[0]? == some (rawInt _))=true then _ else _) Q E s
      rw[if_neg (by intro h;rw[hn,Bool.false_and] at h;cases h)]
      exact wpAny_pure hQ))
noncomputable def Itl (K:PySem.W.Frag) (a:Addr):It :=
 ⟨fun i H=>∃ xs x,SqL K H a xs∧xs[i]?=some x,fun i H x H'=>H'=H∧∀ xs,SqL K H a xs→xs[i]?=some x,fun i H=>∃ xs,SqL K H a xs∧xs.length≤i⟩
noncomputable def Itr (lo:Int) (n:Nat):It:=⟨fun i _=>i<n,fun i H x H'=>H'=H∧x=.int (lo+i),fun i _=>n≤i⟩
theorem Zs {P:Program}{w:World}{K:PySem.W.Frag}{tg:Expr} (a it:Addr):Turn P w K tg (Itl K a) [it] it (fun i h=>h.IsListIter it a i) where
 mem:=by simp
 obj:=fun i h st b hb=>by
  have e:b=it:=by simpa using hb
  subst e
  obtain⟨o,e,c,d⟩:=st
  exact⟨o,e,fun v z=>by rw[d] at z;cases z⟩
 keep:=fun i h h' st k=>st.at fun o e=>k it (by simp) o e
 item:=by
  intro X hP hw hK hc i pins s σ H E I hf st hg
  subst hP hw hK
  obtain⟨xs,x,hq,hx⟩:=hg
  obtain⟨its,rv,p,hz⟩:=I.list hq
  obtain⟨u,hu,ru⟩:=rv.get hx
  obtain⟨f0,f1,f2,f3,f4,f5⟩:=hf it (by simp)
  refine wpAny_pyNext_list_item st p.isList (x:=u) (by simpa using hu) fun h' st' sb=>?_
  have I1:Inv X pins σ H { s with heap:=h' }:=I.turned (t':=s.toks) (fun b o hb e=>(sb.2 b hb).trans e) f0 f1 f3 f4 f5
  obtain⟨o,e,c,d⟩:=id st'
  exact⟨u,rfl,V4 (s:={ s with heap:=h' }) e c d (by decide) ⟨x,H,I1,ru,⟨rfl,fun ys hy=>by rw[I.list_inj hy hq];exact hx⟩,st',fun b hb=>(hf b hb).1⟩⟩
 done:=by
  intro X hP hw hK hc i pins s σ H E I hf st hg
  subst hP hw hK
  obtain⟨xs,hq,hx⟩:=hg
  obtain⟨its,rv,p,hz⟩:=I.list hq
  obtain⟨f0,f1,f2,f3,f4,f5⟩:=hf it (by simp)
  have hl:=rv.length
  exact wpAny_pyNext_list_end (I.ok.hd hc) st p.isList (by simp;omega) fun h' eb=>⟨rfl,I.turned (t':=s.toks) (fun b o hb e=>eb b o hb e) f0 f1 f3 f4 f5⟩
 self:=fun _ _ _ _ _ st h=>wpAny_pyIter_listiter st h
theorem uP {P:Program}{w:World}{K:PySem.W.Frag}{tg:Expr}(it:Addr) (lo:Int) (n:Nat):Turn P w K tg (Itr lo n) [it] it (fun i h=>IsRangeIter h it (lo+(i:Nat)*1) ((n:Int)-(i:Nat)) 1) where
 mem:=by simp
 obj:=fun i h st b hb=>by
  have e:b=it:=by simpa using hb
  subst e
  exact⟨_,st,fun v z=>by
   have z':Data.fields _=Data.cell v:=z
   cases z'⟩
 keep:=fun i h h' st k=>k it (by simp) _ st
 item:=by
  intro X hP hw hK hc i pins s σ H E I hf st hg
  subst hP hw hK
  obtain⟨f0,f1,f2,f3,f4,f5⟩:=hf it (by simp)
  have W:=Walks.range (prog:=X.prog) (w:=X.w) (I.ok.hd hc) it lo 1 n
  refine W.item i s _ _ hg st fun v h' tk hv st' kk=>?_
  obtain⟨t,rfl⟩:=hv
  have I1:Inv X pins σ H { s with heap:=h',toks:=tk }:=I.turned (fun b o hb e=>kk b o (by simpa using hb) e) f0 f1 f3 f4 f5
  refine⟨_,rfl,V4 (s:={ s with heap:=h',toks:=tk }) (n := "range_iterator") st' rfl rfl (by decide) ⟨.int (lo+i),H,I1,⟨t,?_⟩,⟨rfl,rfl⟩,st',fun b hb=>(hf b hb).1⟩⟩
  rw[Int.mul_one]
 done:=by
  intro X hP hw hK hc i pins s σ H E I hf st hg
  subst hP hw hK
  obtain⟨f0,f1,f2,f3,f4,f5⟩:=hf it (by simp)
  exact wpAny_pyNext_range_end (I.ok.hd hc) st (by have:n≤i:=hg;omega) fun h' eb=>⟨rfl,I.turned (t':=s.toks) (fun b o hb e=>eb b o hb e) f0 f1 f3 f4 f5⟩
 self:=fun _ _ _ _ _ st h=>wpAny_pyIter_rangeiter st h
section
variable {X:Cx}{tg:Expr}
def zg9 (K:PySem.W.Frag) (tl:TE):TI:=fun σ H R=>tl σ H fun x H1=>∃ a,x=.ref a∧(∃ xs,SqL K H1 a xs)∧R (Itl K a) H1
theorem xG {l:Expr}{tl:TE}(hl:PE X l tl):PI X tg l (zg9 X.K tl):=by
 intro pins s σ H R I h
 refine thn (hl pins s σ H _ I h) fun v s1 hq0=>?_
 obtain⟨x,H1,I1,r1,q1⟩:=hq0
 obtain⟨a,e,⟨xs,hq⟩,q⟩:=q1
 subst e
 cases r1
 obtain⟨its,rv,p,hz⟩:=I1.list hq
 refine wpAny_pyIter_list p.isList ?_
 refine⟨s1.heap.objs.size,[s1.heap.objs.size],_,_,H1,rfl,I1.kept (t':=s1.toks) fun b o e=>Heap.get?_push_of_some _ e,Zs a _,⟨_,Heap.get?_push_size _ rfl,rfl,rfl⟩,fun b hb=>?_,q⟩
 have e:b=s1.heap.objs.size:=by simpa using hb
 subst e
 exact I1.fpOk (Nat.le_refl _) (I1.hok.fresh (Nat.le_refl _))
theorem ut {pins:List (Addr×Obj)}{σ:St}{H:Hp}{s:Shared}{R:It→Hp→Prop}{E:Value→Shared→Prop}{lo hi:Int}{t u v:Tok}{tk:Nat}(I:Inv X pins σ H s) (h1 : -(2 ^ 62)≤lo) (h2:lo<2 ^ 62) (h3 : -(2 ^ 62)≤hi) (h4:hi<2 ^ 62)
  (q:R (Itr lo (hi-lo).toNat) H):wpAny (model X.prog X.w) X.A (pyIter (.ref s.heap.objs.size)) (PIE X pins σ tg R) E { s with heap:=s.heap.push { cls:=.type "range",data:=.fields #[.int lo t,.int hi u,.int 1 v] },toks:=tk }:=by
 refine wpAny_pyIter_range (IsRange.new ..) (small_one h1 h2 h3 h4) ?_
 have I1:Inv X pins σ H { s with heap:=s.heap.push { cls:=.type "range",data:=.fields #[.int lo t,.int hi u,.int 1 v] },toks:=tk }:=I.kept fun b o e=>Heap.get?_push_of_some _ e
 refine⟨(s.heap.push { cls:=.type "range",data:=.fields #[.int lo t,.int hi u,.int 1 v] }).objs.size,[(s.heap.push { cls:=.type "range",data:=.fields #[.int lo t,.int hi u,.int 1 v] }).objs.size],_,_,H,rfl,
  I1.kept (t':=tk) fun b o e=>Heap.get?_push_of_some _ e,uP _ lo (hi-lo).toNat,?_,fun b hb=>?_,q⟩
 ·have e1:lo+((0:Nat):Int)*1=lo:=by simp
  have e2:(((hi-lo).toNat:Nat):Int)-((0:Nat):Int)=Builtin.Range.rangeSize lo hi 1:=by rw[rangeSize_one];split<;>omega
  show IsRangeIter _ _ (lo+((0:Nat):Int)*1) ((((hi-lo).toNat:Nat):Int)-((0:Nat):Int)) 1
  rw[e1,e2]
  exact Heap.get?_push_size _ rfl
 ·have e:b=(s.heap.push { cls:=.type "range",data:=.fields #[.int lo t,.int hi u,.int 1 v] }).objs.size:=by simpa using hb
  subst e
  exact I1.fpOk (Nat.le_refl _) (I1.hok.fresh (Nat.le_refl _))
def zg8 (ta:TA):TI:=fun σ H R=>ta σ H fun vs H1=>∃ j:Int,vs=[.int j]∧-(2 ^ 62)≤j∧j<2 ^ 62∧R (Itr 0 j.toNat) H1
def zg7 (ta:TA):TI:=fun σ H R=>ta σ H fun vs H1=>∃ i j:Int,vs=[.int i,.int j]∧(-(2 ^ 62)≤i∧i<2 ^ 62∧-(2 ^ 62)≤j∧j<2 ^ 62)∧R (Itr i (j-i).toNat) H1
theorem Yz {a:Expr}{ta:TA}{p pos:Pos}(hg:Gl X "range") (hm:X.mg "range" = none) (ha:PA X [a] ta) (hs:starEach [a] X.env=[(false,eval a X.env)]:=by rfl):PI X tg (.Call (.Name "range" p) [a] [] pos) (zg8 ta):=by
 intro pins s σ H R I h
 refine Call_ (ld_blt I hg hm boot_range (PyProof.Rows.callWith_type1 (thn (ha pos pins s σ H _ I h) fun us s1 hq0=>?_) hs rfl))
 obtain⟨vs,H1,I1,r1,q1⟩:=hq0
 obtain⟨j,e,q1,q2,q⟩:=q1
 subst e
 cases r1 with
 |cons r rr =>
  cases rr
  obtain⟨t,rfl⟩:=r
  exact call_range_1 (ut I1 (by omega) (by omega) q1 q2 (by simpa using q))
theorem Yy {a b:Expr}{ta:TA}{p pos:Pos}(hg:Gl X "range") (hm:X.mg "range" = none) (ha:PA X [a,b] ta) (hs:starEach [a,b] X.env=[(false,eval a X.env),(false,eval b X.env)]:=by rfl) (hs2:starEach [b] X.env=[(false,eval b X.env)]:=by rfl) :
  PI X tg (.Call (.Name "range" p) [a,b] [] pos) (zg7 ta):=by
 intro pins s σ H R I h
 refine Call_ (ld_blt I hg hm boot_range (PyProof.Rows.callWith_type1 (thn (ha pos pins s σ H _ I h) fun us s1 hq0=>?_) (by rw[hs,hs2]) (by rw[hs2];rfl)))
 obtain⟨vs,H1,I1,r1,q1⟩:=hq0
 obtain⟨i,j,e,⟨q1,q2,q3,q4⟩,q⟩:=q1
 subst e
 cases r1 with
 |cons r rr =>
  cases rr with
  |cons r' rr =>
   cases rr
   obtain⟨t,rfl⟩:=r
   obtain⟨t',rfl⟩:=r'
   exact call_range_2 (ut I1 q1 q2 q3 q4 q)
def znW (wi:TI) (g:TG) (tb:TS):TS:=fun D σ H=>wi σ H fun J H1=>∃ W:Nat→Nat→St→Hp→Prop,(∃ m,W 0 m σ H1)∧∀ i m σ H,W i m σ H →
 (J.stop i H∧D.nx σ H)∨(J.go i H∧∃ N:St→Hp→Prop,(∀ σ' H',N σ' H'→∃ m',m'<m∧W (i+1) m' σ' H')∧∀ x H',J.yld i H x H'→g x σ H' fun σ2 H2=>tb { D with nx:=N,ct:=N,bk:=D.nx } σ2 H2)
def xF (fp:List Addr) (h:Heap):List (Addr×Obj):=fp.filterMap fun b=>(h.get? b).map fun o=>(b,o)
theorem yn {fp:List Addr}{h:Heap}{b:Addr}{o:Obj}(hb:b∈fp) (e:h.get? b=some o):(b,o)∈xF fp h:=List.mem_filterMap.mpr ⟨b,hb,by rw[e];rfl⟩
theorem vp {fp:List Addr}{h:Heap}{p:Addr×Obj}(hp:p∈xF fp h):p.1∈fp∧h.get? p.1=some p.2:=by
 obtain⟨b,hb,e⟩:=List.mem_filterMap.mp hp
 cases q:h.get? b with
 |none=>rw[q] at e;cases e
 |some o =>
  rw[q] at e
  have e':(b,o)=p:=Option.some.inj e
  subst e'
  exact⟨hb,q⟩
theorem Inv.pinned {pins:List (Addr×Obj)}{σ:St}{H:Hp}{s:Shared}{fp:List Addr}(I:Inv X pins σ H s) (hf:∀ b∈fp,FpOk X pins H b) (ho:∀ b∈fp,∃ o,s.heap.get? b=some o∧∀ v,o.data≠.cell v):Inv X (pins++xF fp s.heap) σ H s :=
 I.pins_of fun p hp=>(List.mem_append.mp hp).elim (fun z=>I.pin p (List.mem_append_right _ z)) fun z=>by
  obtain⟨hb,e⟩:=vp z
  obtain⟨f0,f1,f2,_⟩:=hf p.1 hb
  obtain⟨o,e',d⟩:=ho p.1 hb
  rw[e] at e';cases e'
  exact⟨e,f0,f1,f2,d⟩
theorem Inv.unpinned {pins pl:List (Addr×Obj)}{σ:St}{H:Hp}{s:Shared}(I:Inv X (pins++pl) σ H s):Inv X pins σ H s:=I.pins_of fun p hp=>I.pin p (List.mem_append_right _ (List.mem_append_left _ hp))
theorem vh {iter:Expr}{body:List Stmt}{wi:TI}{g:TG}{tb:TS}{pos:Pos}(hp:PassesOwn (model X.prog X.w) X.A X.env X.xe) (hc:X.calm=true) (hi:PI X tg iter wi) (hg:PG X tg g) (hb:PSs X body tb)
  (hs:∀ x,foldedSetIterable iter X.env x=pure x:=by intro _;rfl):PS X (.For tg iter body [] pos) (znW wi g tb):=by
 intro pins s σ H D I h
 refine wpAny_For (thn (hi pins s σ H _ I h) fun v s1 h1=>thn h1 fun itv s2 h2=>?_) hs
 obtain⟨it,fp,tn,J,H2,e,I2,T,st2,f2,W,⟨m0,w0⟩,turn⟩:=h2
 subst e
 -- what stays true of the iterator's objects through the loop
 have stat:∀ {H':Hp},(∀ b∈fp,H' b=none)→∀ b∈fp,FpOk X pins H' b:=fun hn b hb=>⟨hn b hb,(f2 b hb).2⟩
 refine codeAny_forLoop_any (fun n s'=>∃ i σ' H',Inv X pins σ' H' s'∧tn i s'.heap∧(∀ b∈fp,H' b=none)∧W i n σ' H') ?_ m0 ⟨0,σ,H2,I2,st2,fun b hb=>(f2 b hb).1,w0⟩
 rintro n s3 ⟨i,σ3,H3,I3,st3,fr3,w3⟩
 rcases turn i n σ3 H3 w3 with⟨stop,qn⟩ | ⟨go,N,hN,step⟩
 ·refine wpAny_passesOwn hp (thn (T.done X rfl rfl rfl hc i pins s3 σ3 H3 X.xe I3 (stat fr3) st3 stop) fun r s4 ⟨hr,I4⟩=>?_)
  subst hr
  exact wpAny_execs_nil ⟨σ3,H3,I4,qn⟩
 ·refine wpAny_passesOwn hp (thn (T.item X rfl rfl rfl hc i pins s3 σ3 H3 X.xe I3 (stat fr3) st3 go) fun r s4 ⟨u,hr,h4⟩=>?_)
  subst hr
  refine wpAny_passesOwn hp (thn h4 fun _ s5 hq0=>?_)
  obtain⟨x,H5,I5,r5,y5,st5,fr5⟩:=hq0
  have I5':=I5.pinned (stat fr5) (T.obj _ _ st5)
  refine wpAny_passesOwn hp (thn (hg _ s5 σ3 H5 x u _ I5' r5 (step x H5 y5)) fun _ s6 hq0=>?_)
  obtain⟨σ6,H6,I6,q6⟩:=hq0
  refine wpAny_passesOwn hp (thn (hb _ s6 σ6 H6 _ I6 q6) fun f s7 q7=>?_)
  have again:∀ {σ7:St}{H7:Hp},Inv X (pins++xF fp s5.heap) σ7 H7 s7→N σ7 H7→∃ m,m<n∧∃ i σ' H',Inv X pins σ' H' s7∧tn i s7.heap∧(∀ b∈fp,H' b=none)∧W i m σ' H':=fun {σ7 H7} I7 n7=>by
   obtain⟨m',hm,w7⟩:=hN σ7 H7 n7
   refine⟨m',hm,i+1,σ7,H7,I7.unpinned,T.keep _ _ _ st5 fun b hb o e=>(I7.pin (b,o) (List.mem_append_right _ (List.mem_append_right _ (yn hb e)))).1,fun b hb=>?_,w7⟩
   obtain⟨o,e,d⟩:=T.obj _ _ st5 b hb
   exact(I7.pin (b,o) (List.mem_append_right _ (List.mem_append_right _ (yn hb e)))).2.1
  cases f with
  |next=>obtain⟨σ7,H7,I7,n7⟩:=q7;exact again I7 n7
  |cont=>obtain⟨σ7,H7,I7,n7⟩:=q7;exact again I7 n7
  |brk=>obtain⟨σ7,H7,I7,q7⟩:=q7;exact⟨σ7,H7,I7.unpinned,q7⟩
  |ret v=>obtain⟨x7,σ7,H7,I7,r7,q7⟩:=q7;exact⟨x7,σ7,H7,I7.unpinned,r7,q7⟩
end
theorem zR {K:PySem.W.Frag}{a:Addr}{xs:List V}{g:TG}{tb:TS}{D:Ends}{σ:St}{H:Hp}(Pv:Nat→St→Hp→Prop) (h0:Pv 0 σ H) (hl:∀ i σ H,i≤xs.length→Pv i σ H→SqL K H a xs)
  (hs:∀ i x σ H,xs[i]?=some x→Pv i σ H→g x σ H fun σ2 H2=>tb { D with nx:=Pv (i+1),ct:=Pv (i+1),bk:=D.nx } σ2 H2) (hd:∀ σ H,Pv xs.length σ H→D.nx σ H) :
  ∃ W:Nat→Nat→St→Hp→Prop,(∃ m,W 0 m σ H)∧∀ i m σ H,W i m σ H →
   ((Itl K a).stop i H∧D.nx σ H)∨((Itl K a).go i H∧∃ N:St→Hp→Prop,(∀ σ' H',N σ' H'→∃ m',m'<m∧W (i+1) m' σ' H')∧∀ x H',(Itl K a).yld i H x H'→g x σ H' fun σ2 H2=>tb { D with nx:=N,ct:=N,bk:=D.nx } σ2 H2):=by
 refine⟨fun i m σ H=>m=xs.length-i∧i≤xs.length∧Pv i σ H,⟨xs.length,by simp,Nat.zero_le _,h0⟩,?_⟩
 rintro i m σ H ⟨rfl,hi,p⟩
 have q:=hl i σ H hi p
 by_cases hlt:i<xs.length
 ·refine .inr ⟨⟨xs,xs[i],q,by simp[hlt]⟩,Pv (i+1),fun σ' H' p'=>⟨xs.length-(i+1),by omega,rfl,hlt,p'⟩,fun x H' y=>?_⟩
  obtain⟨e,y⟩:=y
  subst e
  exact hs i x σ _ (y xs q) p
 ·have e:i=xs.length:=by omega
  subst e
  exact .inl ⟨⟨xs,q,Nat.le_refl _⟩,hd σ H p⟩
theorem for_range {lo:Int}{n:Nat}{g:TG}{tb:TS}{D:Ends}{σ:St}{H:Hp}(Pv:Nat→St→Hp→Prop) (h0:Pv 0 σ H)
  (hs:∀ i σ H,i<n→Pv i σ H→g (.int (lo+i)) σ H fun σ2 H2=>tb { D with nx:=Pv (i+1),ct:=Pv (i+1),bk:=D.nx } σ2 H2) (hd:∀ σ H,Pv n σ H→D.nx σ H) :
  ∃ W:Nat→Nat→St→Hp→Prop,(∃ m,W 0 m σ H)∧∀ i m σ H,W i m σ H →
   ((Itr lo n).stop i H∧D.nx σ H)∨((Itr lo n).go i H∧∃ N:St→Hp→Prop,(∀ σ' H',N σ' H'→∃ m',m'<m∧W (i+1) m' σ' H')∧∀ x H',(Itr lo n).yld i H x H'→g x σ H' fun σ2 H2=>tb { D with nx:=N,ct:=N,bk:=D.nx } σ2 H2):=by
 refine⟨fun i m σ H=>m=n-i∧i≤n∧Pv i σ H,⟨n,by simp,Nat.zero_le _,h0⟩,?_⟩
 rintro i m σ H ⟨rfl,hi,p⟩
 by_cases hlt:i<n
 ·refine .inr ⟨hlt,Pv (i+1),fun σ' H' p'=>⟨n-(i+1),by omega,rfl,hlt,p'⟩,fun x H' y=>?_⟩
  obtain⟨e,y⟩:=y
  subst e y
  exact hs i σ _ hlt p
 ·have e:i=n:=by omega
  subst e
  exact .inl ⟨Nat.le_refl _,hd σ H p⟩
abbrev R2:=V→V→Hp→VK→Prop
def OpR (X:Cx) (f:Value→Value→Sem Value) (r:R2):Prop :=
 ∀ (pins:List (Addr×Obj)) (s:Shared) (σ:St) (H:Hp) (x y:V) (v u:Value) (Q:VK),Inv X pins σ H s→RelV x v→RelV y u→r x y H Q →
  wpAny (model X.prog X.w) X.A (f v u) (EP X pins σ Q) X.xe s
def UnR (X:Cx) (f:Value→Sem Value) (r:V→Hp→VK→Prop):Prop :=
 ∀ (pins:List (Addr×Obj)) (s:Shared) (σ:St) (H:Hp) (x:V) (v:Value) (Q:VK),Inv X pins σ H s→RelV x v→r x H Q →
  wpAny (model X.prog X.w) X.A (f v) (EP X pins σ Q) X.xe s
def yu (X:Cx) (f:Value) (r:List V→Hp→VK→Prop):Prop :=
 ∀ (pins:List (Addr×Obj)) (s:Shared) (σ:St) (H:Hp) (xs:List V) (us:List Value) (Q:VK),Inv X pins σ H s→Vals xs us→r xs H Q →
  wpAny (model X.prog X.w) X.A (call f us) (EP X pins σ Q) X.xe s
def tOp (r:R2) (ta tb:TE):TE:=fun σ H Q=>ta σ H fun x H1=>tb σ H1 fun y H2=>r x y H2 Q
def tUn (r:V→Hp→VK→Prop) (ta:TE):TE:=fun σ H Q=>ta σ H fun x H1=>r x H1 Q
def rI (C:Int→Int→Prop) (g:Int→Int→V):R2:=fun x y H Q=>∃ i j,x=.int i∧y=.int j∧C i j∧Q (g i j) H
def rI0 (g:Int→Int→V):R2:=fun x y H Q=>∃ i j,x=.int i∧y=.int j∧Q (g i j) H
def rU (g:Int→V):V→Hp→VK→Prop:=fun x H Q=>∃ i,x=.int i∧Q (g i) H
section
variable {X:Cx}{a b c:Expr}{ta tb tc:TE}{pos:Pos}
theorem binT (ha:PE X a ta) (hb:PE X b tb){pins:List (Addr×Obj)}{s:Shared}{σ:St}{H:Hp}{R:V→V→Hp→Prop}(I:Inv X pins σ H s)
  (h:ta σ H fun x H1=>tb σ H1 fun y H2=>R x y H2){Q:Value→Shared→Prop}{f:Value→Value→Sem Value}
  (hf:∀ v u s2 x y H2,Inv X pins σ H2 s2→RelV x v→RelV y u→R x y H2→wpAny (model X.prog X.w) X.A (f v u) Q X.xe s2) :
  wpAny (model X.prog X.w) X.A (eval a X.env) (fun v s₁=>wpAny (model X.prog X.w) X.A (eval b X.env) (fun u s₂=>wpAny (model X.prog X.w) X.A (f v u) Q X.xe s₂) X.xe s₁) X.xe s:=by
 refine thn (ha pins s σ H _ I h) fun v s1 hq0=>?_
 obtain⟨x,H1,I1,r1,q1⟩:=hq0
 refine thn (hb pins s1 σ H1 _ I1 q1) fun u s2 hq0=>?_
 obtain⟨y,H2,I2,r2,q2⟩:=hq0
 exact hf v u s2 x y H2 I2 r1 r2 q2
theorem zjW {op:Operator}{r:R2}(ho:OpR X (binaryOp op) r) (ha:PE X a ta) (hb:PE X b tb):PE X (.BinOp a op b pos) (tOp r ta tb):=by
 intro pins s σ H Q I h
 exact wpAny_BinOp (binT ha hb I h fun v u s2 x y H2 I2 rx ry q=>ho pins s2 σ H2 x y v u Q I2 rx ry q)
theorem zfM {op:UnaryOp}{r:V→Hp→VK→Prop}(ho:UnR X (unaryOp op) r) (ha:PE X a ta):PE X (.UnaryOp op a pos) (tUn r ta):=by
 intro pins s σ H Q I h
 exact UnaryOp_ (thn (ha pins s σ H _ I h) fun v s1 ⟨x,H1,I1,r1,q1⟩=>ho pins s1 σ H1 x v Q I1 r1 q1)
theorem opI {f:Value→Value→Sem Value}{C:Int→Int→Prop}{g:Int→Int→Int}
  (rule:∀ (i j:Int) (t u:Tok) (s:Shared) (Q:Value→Shared→Prop) (E:Value→Shared→Prop),C i j→Q (.int (g i j) s.toks) { s with toks:=s.toks+1 }→wpAny (model X.prog X.w) X.A (f (.int i t) (.int j u)) Q E s) :
  OpR X f (rI C fun i j=>.int (g i j)):=by
 intro pins s σ H x y v u Q I rx ry h
 obtain⟨i,j,rfl,rfl,hc,q⟩:=h
 obtain⟨t,rfl⟩:=rx
 obtain⟨t',rfl⟩:=ry
 exact rule i j t t' s _ _ hc ⟨.int (g i j),H,I.tok _,⟨_,rfl⟩,q⟩
theorem zuK {f:Value→Value→Sem Value}{g:Int→Int→Int}
  (rule:∀ (i j:Int) (t u:Tok) (s:Shared) (Q:Value→Shared→Prop) (E:Value→Shared→Prop),Q (.int (g i j) s.toks) { s with toks:=s.toks+1 }→wpAny (model X.prog X.w) X.A (f (.int i t) (.int j u)) Q E s) :
  OpR X f (rI0 fun i j=>.int (g i j)):=by
 intro pins s σ H x y v u Q I rx ry h
 obtain⟨i,j,rfl,rfl,q⟩:=h
 obtain⟨t,rfl⟩:=rx
 obtain⟨t',rfl⟩:=ry
 exact rule i j t t' s _ _ ⟨.int (g i j),H,I.tok _,⟨_,rfl⟩,q⟩
theorem zho {f:Value→Value→Sem Value}{g:Int→Int→Bool}
  (rule:∀ (i j:Int) (t u:Tok) (s:Shared) (Q:Value→Shared→Prop) (E:Value→Shared→Prop),Q (.bool (g i j)) s→wpAny (model X.prog X.w) X.A (f (.int i t) (.int j u)) Q E s) :
  OpR X f (rI0 fun i j=>.bl (g i j)):=by
 intro pins s σ H x y v u Q I rx ry h
 obtain⟨i,j,rfl,rfl,q⟩:=h
 obtain⟨t,rfl⟩:=rx
 obtain⟨t',rfl⟩:=ry
 exact rule i j t t' s _ _ ⟨.bl (g i j),H,I,rfl,q⟩
def zxs (i j:Int):Prop:=0≤j∧j≤1000000∧i.natAbs<2 ^ 64
def CMul (i j:Int):Prop:=(-(2 ^ 64)<i∧i<2 ^ 64)∨(-(2 ^ 64)<j∧j<2 ^ 64)
theorem CMul.ok {i j:Int}(h:CMul i j):IntMulOk i j:=by
 rcases h with⟨h1,h2⟩ | ⟨h1,h2⟩
 ·exact .of_left (intBits_le_64 h1 h2)
 ·exact .of_right (intBits_le_64 h1 h2)
theorem ym:OpR X (binaryOp .Add) (rI0 fun i j=>.int (i+j)):=zuK fun _ _ _ _ _ _ _ q=>add_int q
theorem yf:OpR X (binaryOp .Sub) (rI0 fun i j=>.int (i-j)):=zuK fun _ _ _ _ _ _ _ q=>sub_int q
theorem we:OpR X (binaryOp .Mult) (rI CMul fun i j=>.int (i*j)):=opI fun _ _ _ _ _ _ _ hc q=>mul_int q hc.ok
theorem yU:OpR X (binaryOp .Mod) (rI (fun _ j=>0<j) fun i j=>.int (i%j)):=opI fun i j _ _ _ _ _ hc q=>by
 have h1:(0:Int)<j:=hc
 exact mod_int' (by omega) (by rw[Int.fmod_eq_emod_of_nonneg i (by omega)];exact q)
theorem yT:OpR X (binaryOp .Pow) (rI zxs fun i j=>.int (i ^ j.toNat)):=opI fun _ _ _ _ _ _ _ hc q=>pow_int_small hc.1 hc.2.1 hc.2.2 q
theorem unI {f:Value→Sem Value}{g:Int→Int}
  (rule:∀ (i:Int) (t:Tok) (s:Shared) (Q:Value→Shared→Prop) (E:Value→Shared→Prop),Q (.int (g i) s.toks) { s with toks:=s.toks+1 }→wpAny (model X.prog X.w) X.A (f (.int i t)) Q E s) :
  UnR X f (rU fun i=>.int (g i)):=by
 intro pins s σ H x v Q I rx h
 obtain⟨i,rfl,q⟩:=h
 obtain⟨t,rfl⟩:=rx
 exact rule i t s _ _ ⟨.int (g i),H,I.tok _,⟨_,rfl⟩,q⟩
theorem wX:UnR X (unaryOp .USub) (rU fun i=>.int (-i)):=unI fun _ _ _ _ _ q=>neg_int q
end
noncomputable def zuE:V→V→Bool
 |.non,.non=>true | .non,.int _=>true | .int _,.non=>true | .non,.bl _=>true | .bl _,.non=>true | .non,.str _=>true | .str _,.non=>true
 |.int _,.int _=>true | .bl _,.bl _=>true | .str _,.str _=>true | .byt _,.byt _=>true
 |.int _,.str _=>true | .str _,.int _=>true | .bl _,.str _=>true | .str _,.bl _=>true
 |_,_=>false
def rEq:R2:=fun x y H Q=>zuE x y=true∧Q (.bl (decide (x=y))) H
def rNe:R2:=fun x y H Q=>zuE x y=true∧Q (.bl (!decide (x=y))) H
theorem Y7 {i j:Int}:decide (V.int i=V.int j)=(i == j):=by
 rw[Bool.eq_iff_iff]
 simp
theorem W8 {i j:Bool}:decide (V.bl i=V.bl j)=(i == j):=by
 rw[Bool.eq_iff_iff]
 simp
theorem Y6 {i j:Str}:decide (V.str i=V.str j)=(i == j):=by
 rw[Bool.eq_iff_iff]
 simp
theorem Y8 {i j:Array UInt8}:decide (V.byt i=V.byt j)=(i.toList == j.toList):=by
 rw[Bool.eq_iff_iff]
 cases i
 cases j
 simp
section
variable {X:Cx}{a b c:Expr}{ta tb tc:TE}{pos:Pos}
theorem zD {pins:List (Addr×Obj)}{σ:St}{H:Hp}{s:Shared}{Q:VK}{k k':Bool}(I:Inv X pins σ H s) (q:Q (.bl k) H) (e:k=k'):EP X pins σ Q (.bool k') s:=by
 subst e
 exact⟨.bl k,H,I,rfl,q⟩
theorem yr:OpR X (compareOp .Eq) rEq:=by
 intro pins s σ H x y v u Q I rx ry h
 obtain⟨hs,q⟩:=h
 cases x with
 |non =>
  cases rx
  cases y with
  |non=>cases ry;exact PySem.EqNone.eq_none_none (zD I q (by simp))
  |bl j=>cases ry;exact PySem.EqNone.eq_none_bool (zD I q (by simp))
  |int j=>obtain⟨t',rfl⟩:=ry;exact PySem.EqNone.eq_none_int (zD I q (by simp))
  |str j=>obtain⟨t',rfl⟩:=ry;exact PySem.EqNone.eq_none_str (zD I q (by simp))
  |_=>exact absurd (show false=true from hs) Bool.false_ne_true
 |bl i =>
  cases rx
  cases y with
  |non=>cases ry;exact PySem.EqNone.eq_bool_none (zD I q (by simp))
  |bl j=>cases ry;exact eq_bool (zD I q W8)
  |str j=>obtain⟨t',rfl⟩:=ry;exact PySem.EqMixed.eq_bool_str (zD I q (by simp))
  |_=>exact absurd (show false=true from hs) Bool.false_ne_true
 |int i =>
  obtain⟨t,rfl⟩:=rx
  cases y with
  |non=>cases ry;exact PySem.EqNone.eq_int_none (zD I q (by simp))
  |int j=>obtain⟨t',rfl⟩:=ry;exact eq_int (zD I q Y7)
  |str j=>obtain⟨t',rfl⟩:=ry;exact PySem.EqMixed.eq_int_str (zD I q (by simp))
  |_=>exact absurd (show false=true from hs) Bool.false_ne_true
 |str i =>
  obtain⟨t,rfl⟩:=rx
  cases y with
  |non=>cases ry;exact PySem.EqNone.eq_str_none (zD I q (by simp))
  |bl j=>cases ry;exact PySem.EqMixed.eq_str_bool (zD I q (by simp))
  |int j=>obtain⟨t',rfl⟩:=ry;exact PySem.EqMixed.eq_str_int (zD I q (by simp))
  |str j=>obtain⟨t',rfl⟩:=ry;exact eq_str (zD I q Y6)
  |_=>exact absurd (show false=true from hs) Bool.false_ne_true
 |byt i =>
  obtain⟨t,rfl⟩:=rx
  cases y with
  |byt j=>obtain⟨t',rfl⟩:=ry;exact PySem.W.eq_bytes (zD I q Y8)
  |_=>exact absurd (show false=true from hs) Bool.false_ne_true
 |_=>cases y<;>exact absurd (show false=true from hs) Bool.false_ne_true
theorem zjX:OpR X (compareOp .NotEq) rNe:=by
 intro pins s σ H x y v u Q I rx ry h
 obtain⟨hs,q⟩:=h
 cases x with
 |non =>
  cases rx
  cases y with
  |non=>cases ry;exact PySem.EqNone.ne_none_none (zD I q (by simp))
  |bl j=>cases ry;exact PySem.EqNone.ne_none_bool (zD I q (by simp))
  |int j=>obtain⟨t',rfl⟩:=ry;exact PySem.EqNone.ne_none_int (zD I q (by simp))
  |str j=>obtain⟨t',rfl⟩:=ry;exact PySem.EqNone.ne_none_str (zD I q (by simp))
  |_=>exact absurd (show false=true from hs) Bool.false_ne_true
 |bl i =>
  cases rx
  cases y with
  |non=>cases ry;exact PySem.EqNone.ne_bool_none (zD I q (by simp))
  |bl j=>cases ry;exact ne_bool (zD I q (congrArg not W8))
  |str j=>obtain⟨t',rfl⟩:=ry;exact PySem.EqMixed.ne_bool_str (zD I q (by simp))
  |_=>exact absurd (show false=true from hs) Bool.false_ne_true
 |int i =>
  obtain⟨t,rfl⟩:=rx
  cases y with
  |non=>cases ry;exact PySem.EqNone.ne_int_none (zD I q (by simp))
  |int j=>obtain⟨t',rfl⟩:=ry;exact ne_int (zD I q (congrArg not Y7))
  |str j=>obtain⟨t',rfl⟩:=ry;exact PySem.EqMixed.ne_int_str (zD I q (by simp))
  |_=>exact absurd (show false=true from hs) Bool.false_ne_true
 |str i =>
  obtain⟨t,rfl⟩:=rx
  cases y with
  |non=>cases ry;exact PySem.EqNone.ne_str_none (zD I q (by simp))
  |bl j=>cases ry;exact PySem.EqMixed.ne_str_bool (zD I q (by simp))
  |int j=>obtain⟨t',rfl⟩:=ry;exact PySem.EqMixed.ne_str_int (zD I q (by simp))
  |str j=>obtain⟨t',rfl⟩:=ry;exact ne_str (zD I q (congrArg not Y6))
  |_=>exact absurd (show false=true from hs) Bool.false_ne_true
 |byt i =>
  obtain⟨t,rfl⟩:=rx
  cases y with
  |byt j=>obtain⟨t',rfl⟩:=ry;exact PySem.W.ne_bytes (zD I q (congrArg not Y8))
  |_=>exact absurd (show false=true from hs) Bool.false_ne_true
 |_=>cases y<;>exact absurd (show false=true from hs) Bool.false_ne_true
theorem xH:OpR X (compareOp .Lt) (rI0 fun i j=>.bl (decide (i<j))):=zho fun _ _ _ _ _ _ _ q=>lt_int q
theorem zfU:OpR X (compareOp .LtE) (rI0 fun i j=>.bl (decide (i≤j))):=zho fun _ _ _ _ _ _ _ q=>le_int q
theorem op_gt:OpR X (compareOp .Gt) (rI0 fun i j=>.bl (decide (j<i))):=zho fun _ _ _ _ _ _ _ q=>gt_int q
theorem zfV:OpR X (compareOp .GtE) (rI0 fun i j=>.bl (decide (j≤i))):=zho fun _ _ _ _ _ _ _ q=>ge_int q
theorem VH:OpR X (compareOp .IsNot) (fun x y H Q=>y=.non∧Q (.bl (!decide (x=.non))) H):=by
 intro pins s σ H x y v u Q I rx ry h
 obtain⟨rfl,q⟩:=h
 cases ry
 refine isnot_none_gen (zD I q ?_)
 cases x<;>first
  |(cases rx;rfl)
  |(obtain⟨t,rfl⟩:=rx;rfl)
theorem zv (b:Expr){op:CmpOp}(h:op≠.In:=by decide) (h2:op≠.NotIn:=by decide):behindInMarks op b=false:=by
 have e1:(op == CmpOp.In)=false:=by cases op<;>first | rfl | exact absurd rfl h
 have e2:(op == CmpOp.NotIn)=false:=by cases op<;>first | rfl | exact absurd rfl h2
 cases b<;>simp[behindInMarks,e1,e2]
theorem wC {op:CmpOp}{r:R2}(ho:OpR X (compareOp op) r) (ha:PE X a ta) (hb:PE X b tb) (hm:behindInMarks op b=false):PE X (.Compare a [op] [b] pos) (tOp r ta tb):=by
 intro pins s σ H Q I h
 exact wpAny_Compare1 (binT ha hb I h fun v u s2 x y H2 I2 rx ry q=>ho pins s2 σ H2 x y v u Q I2 rx ry q) hm
def zak (t:TE):TT:=fun σ H Q=>t σ H fun x H'=>∃ k,x=.bl k∧Q k H'
theorem xi {op:CmpOp}{r:R2}(ho:OpR X (compareOp op) r) (ha:PE X a ta) (hb:PE X b tb) (hm:behindInMarks op b=false):PT X (.Compare a [op] [b] pos) (zak (tOp r ta tb)):=by
 intro pins s σ H Q I h
 refine wpAny_isTrue_Compare1 (thn (ha pins s σ H _ I h) fun v s1 ⟨x,H1,I1,r1,q1⟩=>thn (hb pins s1 σ H1 _ I1 q1) fun u s2 ⟨y,H2,I2,r2,q2⟩ =>
  thn (ho pins s2 σ H2 x y v u _ I2 r1 r2 q2) fun c s3 ⟨z,H3,I3,r3,k,e,q3⟩=>?_) hm
 subst e
 cases r3
 exact wpAny_truthy_bool ⟨H3,I3,q3⟩
theorem YR:(sizeLine:Nat)<2 ^ 63:=by rw[sizeLine_eq];decide
theorem Zr {x:V}{us:List Value}(r:Vals [x] us):∃ u,us=[u]∧RelV x u:=by
 cases r with
 |cons r1 r2=>cases r2;exact⟨_,rfl,r1⟩
theorem zaf {x y:V}{us:List Value}(r:Vals [x,y] us):∃ u w',us=[u,w']∧RelV x u∧RelV y w':=by
 cases r with
 |cons r1 r2 =>
  cases r2 with
  |cons r3 r4=>cases r4;exact⟨_,_,rfl,r1,r3⟩
theorem WK:yu X (.builtin "abs") (fun xs H Q=>∃ i,xs=[.int i]∧Q (.int (if i<0 then -i else i)) H):=by
 intro pins s σ H xs us Q I r h
 obtain⟨i,rfl,q⟩:=h
 obtain⟨u,rfl,t,rfl⟩:=Zr r
 exact call_abs_int fun u tk=>⟨.int (if i<0 then -i else i),H,I.tok _,⟨_,rfl⟩,q⟩
theorem Xe (hc:X.calm=true):yu X (.builtin "max") (fun xs H Q=>∃ i j,xs=[.int i,.int j]∧Q (.int (if j>i then j else i)) H):=by
 intro pins s σ H xs us Q I r h
 obtain⟨i,j,rfl,q⟩:=h
 obtain⟨u,w',rfl,⟨t,rfl⟩,⟨t',rfl⟩⟩:=zaf r
 refine max_two_ints (I.ok.hd hc) fun h' tk k=>⟨_,H,I.kept k,?_,q⟩
 by_cases hj:j>i
 ·rw[if_pos hj,if_pos hj];exact⟨_,rfl⟩
 ·rw[if_neg hj,if_neg hj];exact⟨_,rfl⟩
theorem Xd (hc:X.calm=true):yu X (.builtin "min") (fun xs H Q=>∃ i j,xs=[.int i,.int j]∧Q (.int (if j<i then j else i)) H):=by
 intro pins s σ H xs us Q I r h
 obtain⟨i,j,rfl,q⟩:=h
 obtain⟨u,w',rfl,⟨t,rfl⟩,⟨t',rfl⟩⟩:=zaf r
 refine min_two_ints (I.ok.hd hc) fun h' tk k=>⟨_,H,I.kept k,?_,q⟩
 by_cases hj:j<i
 ·rw[if_pos hj,if_pos hj];exact⟨_,rfl⟩
 ·rw[if_neg hj,if_neg hj];exact⟨_,rfl⟩
theorem xo:yu X (.type "str") (fun xs H Q=>∃ i,xs=[.int i]∧i.natAbs.log2<1920∧Q (.str (toString i)) H):=by
 intro pins s σ H xs us Q I r h
 obtain⟨i,rfl,hz,q⟩:=h
 obtain⟨u,rfl,t,rfl⟩:=Zr r
 exact PySem.P.str_of_int hz ⟨.str _,H,I.tok _,⟨_,rfl⟩,q⟩
end
structure ObjM (h:Heap) (x dx C:Addr) (mA:Str→Option Value):Prop where
 obj:h.get? x=some (PySem.W.instObj C dx)
 ns:h.Ns1 dx mA
 ne:dx≠x
theorem YO {h:Heap}{dx:Addr}{mA:Str→Option Value}(n:h.Ns1 dx mA):∃ od,h.get? dx=some od∧∀ name,PySem.W.lookIn name od=some (mA name):=by
 obtain⟨o,es,ep,ho,hd,hk,_,hm⟩:=n
 refine⟨o,ho,fun name=>?_⟩
 have e:=hm name
 unfold nsFind findBy at e
 rw[← Array.find?_toList] at e
 unfold PySem.W.lookIn
 rw[hd]
 dsimp only
 split
 ·rename_i y q
  rw[q] at e
  exact congrArg some e
 ·rename_i q
  rw[q] at e
  have a:es.toList.any (·.refKey)=false:=by
   rw[List.any_eq_false]
   intro y hy
   obtain⟨z,t,hkey⟩:=hk y (Array.mem_toList_iff.mp hy)
   simp[DictEntry.refKey,hkey]
  have a':¬ es.toList.any (·.refKey)=true:=by rw[a];exact Bool.false_ne_true
  rw[if_neg a']
  exact congrArg some e
theorem ObjM.look {h:Heap}{x dx C:Addr}{mA:Str→Option Value}(I:ObjM h x dx C mA):∃ od,PySem.W.InstAt h x (PySem.W.instObj C dx) C (some od)∧∀ name,PySem.W.lookIn name od=some (mA name) :=
 let ⟨od,ho,hl⟩:=YO I.ns
 ⟨od,⟨I.obj,rfl,rfl,ho⟩,hl⟩
section
variable {prog:Program}{w:World}{A:Around}{E:Value→Shared→Prop}{s:Shared}{K:PySem.W.Frag}{x dx C f:Addr}{mA:Str→Option Value}{name:Str}{v:Value}
theorem V5 {expr:Bool}{Q:Value→Shared→Prop}(X:K.In s.heap) (I:ObjM s.heap x dx C mA) (hg:PySem.W.plainGet K C name=true) (hh:PySem.W.hasDictIn K C=true)
  (ha:PySem.W.findIn K (.ref C) name=some none) (hv:mA name=some v) (hv':PySem.W.handedIn v=true) (h:Q v { s with toks:=s.toks+1 }) :
  wpAny (model prog w) A (getAttr (.ref x) name expr) Q E s:=by
 obtain⟨od,J,hl⟩:=I.look
 exact PySem.W.get_value X J (PySem.W.plainGet_of hg).1 (PySem.W.findObj_own hh ha rfl (by rw[hl,hv])) hv' h
theorem WE {pl:Sem Bool}{Q:Value×List Value→Shared→Prop}(X:K.In s.heap) (I:ObjM s.heap x dx C mA) (hg:PySem.W.plainGet K C name=true)
  (hf:PySem.W.findIn K (.ref C) name=some (some (.ref f))) (ht:PySem.W.isFn K (.ref f)=true) (hv:mA name=none) (h:Q (.ref f,[.ref x]) s) :
  wpAny (model prog w) A (getMethod (.ref x) name pl) Q E s:=by
 obtain⟨od,J,hl⟩:=I.look
 exact PySem.W.method_fn X J (PySem.W.plainGet_of hg).1 (PySem.W.plainGet_of hg).2 hf (beq_iff_eq.mp ht) (by show(PySem.W.lookIn name od).map (·.isSome)=some false;rw[hl,hv];rfl) h
theorem Vj {ns:List Str}{Q:Unit→Shared→Prop}(X:K.In s.heap) (I:ObjM s.heap x dx C mA)
  (hs:PySem.W.findIn K (.ref C) "__setattr__" = some (some (.builtin "object.__setattr__"))) (hp:PySem.W.plainOver K C=true) (ht:PySem.W.takerIn K C name=some none) (hh:PySem.W.hasDictIn K C=true)
  (hw:PySem.Within mA ns) (hsz:ns.length≤sizeLine)
  (h:∀ h',ObjM h' x dx C (fun y=>if y=name then some v else mA y)→Heap.SameBut dx s.heap h'→Q () { s with heap:=h',toks:=s.toks+2 }) :
  wpAny (model prog w) A (setAttr (.ref x) name v) Q E s:=by
 obtain⟨od,J,hl⟩:=I.look
 refine PySem.W.set_plain X J hs (PySem.W.osa_open (s:={ s with toks:=s.toks+1 }) (r:=none) X J hp ht fun b=>?_)
 obtain⟨cd,hc,hd'⟩:=PySem.W.any_some hh
 have hx:s.heap.get? x=some ⟨.ref C,some dx,.plain,#[]⟩:=I.obj
 refine wpAny_bind (wpAny_pure (wpAny_bind (wpAny_bind (wpAny_loadPart hx (wpAny_bind (PySem.W.Looks.here (s:={ s with toks:=s.toks+1 }) (PySem.W.looks_clsIn X hc) ?_))))))
 rw[hd']
 refine wpAny_pure (a:=some dx) (wpAny_bind (wpAny_pure (wpAny_bind ?_)))
 refine wpAny_nsSet1 (s:={ s with toks:=s.toks+1 }) I.ns fun h' hn2 hs2=>?_
 obtain⟨oD,esD,epD,hoD,hdD,hcD⟩:=hn2.count (PySem.Within.cons name v hw)
 refine wpAny_bind (wpAny_lookBehind hoD (by rw[hdD];exact pastItsLine_dict (Nat.le_trans hcD (by rw[List.length_cons];omega))) ?_)
 exact wpAny_pure (h _ ⟨(hs2.2 _ (Ne.symm I.ne)).trans I.obj,hn2,I.ne⟩ hs2)
theorem Ws {R:Result→Shared→Prop}{vs:List Value}{kw:List (Str×Value)}(X:K.In s.heap) (hm:PySem.W.makesIn K C=true)
  (hi:PySem.W.findIn K (.ref C) "__init__" = some (some (.ref f))) (hf:PySem.W.typeIn K (.ref f)=some (.type "function"))
  (h:codeAny (model prog w) (A.under (.builtin "type.__call__" ⟨.ref C::vs,kw⟩)) (.call (.ref f) ⟨.ref (s.heap.objs.size+1)::vs,kw⟩) (PySem.W.InitBack (s.heap.objs.size+1) R)
   { s with heap:=(s.heap.push PySem.W.emptyDict).push (PySem.W.instObj C s.heap.objs.size) }) :
  codeAny (model prog w) A (.call (.ref C) ⟨vs,kw⟩) R s:=by
 obtain⟨hh,g,d,t,os⟩:=s
 exact PySem.W.make_core (PySem.W.makes_of X hm) (PySem.W.looks_findIn X hi) (fun self=>PySem.W.bind_fn X self hf) (.inl rfl) h
end
noncomputable def vF (f:Str) (v:V):List (Str×V)→List (Str×V)
 |[]=>[(f,v)]
 |(g,x)::r=>if g=f then(g,v)::r else(g,x)::vF f v r
theorem xM (f g:Str) (v:V):∀ fs:List (Str×V),(vF f v fs).lookup g=if g=f then some v else fs.lookup g
 |[]=>by
  show List.lookup g [(f,v)]=_
  by_cases h:g=f
  ·have hb:(g == f)=true:=beq_iff_eq.mpr h
   simp only[List.lookup,hb,if_pos h]
  ·have hb:(g == f)=false:=beq_eq_false_iff_ne.mpr h
   simp only[List.lookup,hb,if_neg h]
 |(k,x)::r=>by
  have ih:=xM f g v r
  rw[show vF f v ((k,x)::r)=(if k=f then(k,v)::r else(k,x)::vF f v r) from rfl]
  by_cases hk:k=f
  ·rw[if_pos hk]
   by_cases h:g=k
   ·have hb:(g == k)=true:=beq_iff_eq.mpr h
    simp only[List.lookup,hb,if_pos (h.trans hk)]
   ·have hb:(g == k)=false:=beq_eq_false_iff_ne.mpr h
    simp only[List.lookup,hb,if_neg (fun e:g=f=>h (e.trans hk.symm))]
  ·rw[if_neg hk]
   by_cases h:g=k
   ·have hb:(g == k)=true:=beq_iff_eq.mpr h
    simp only[List.lookup,hb,if_neg (fun e:g=f=>hk (h.symm.trans e))]
   ·have hb:(g == k)=false:=beq_eq_false_iff_ne.mpr h
    simp only[List.lookup,hb]
    exact ih
theorem xO (f:Str) (v:V):∀ fs:List (Str×V),f∈(vF f v fs).map (·.1)∧∀ g,g∈fs.map (·.1)→g∈(vF f v fs).map (·.1)
 |[]=>⟨by simp[vF],fun g h=>by simp at h⟩
 |(k,x)::r=>by
  obtain⟨i1,i2⟩:=xO f v r
  rw[show vF f v ((k,x)::r)=(if k=f then(k,v)::r else(k,x)::vF f v r) from rfl]
  by_cases hk:k=f
  ·rw[if_pos hk]
   subst hk
   exact⟨by simp,fun g h=>by simpa using h⟩
  ·rw[if_neg hk]
   refine⟨?_,fun g h=>?_⟩
   ·rw[List.map_cons]
    exact List.mem_cons_of_mem _ i1
   ·rw[List.map_cons] at h ⊢
    rcases List.mem_cons.mp h with e | e
    ·exact List.mem_cons.mpr (.inl e)
    ·exact List.mem_cons_of_mem _ (i2 g e)
theorem xN (f:Str) (v:V):∀ fs:List (Str×V),(vF f v fs).length≤fs.length+1
 |[]=>by simp[vF]
 |(k,x)::r=>by
  have ih:=xN f v r
  rw[show vF f v ((k,x)::r)=(if k=f then(k,v)::r else(k,x)::vF f v r) from rfl]
  by_cases hk:k=f
  ·rw[if_pos hk,List.length_cons,List.length_cons];omega
  ·rw[if_neg hk,List.length_cons,List.length_cons];omega
theorem RelO.some_of {v:V}{o:Option Value}(r:RelO (some v) o):∃ u,o=some u∧RelV v u:=by
 cases o with
 |none=>exact(show False from r).elim
 |some u=>exact⟨u,rfl,r⟩
theorem RelO.none_of {o:Option Value}(r:RelO none o):o=none:=by
 cases o with
 |none=>rfl
 |some u=>exact(show False from r).elim
theorem Y4 {v:V}{u:Value}(r:RelV v u):PySem.W.handedIn u=true:=by
 cases v with
 |non=>cases (show u=Value.none from r);rfl
 |bl b=>cases (show u=Value.bool b from r);rfl
 |int i=>obtain⟨t,e⟩:=(show ∃ t,u=Value.int i t from r);cases e;rfl
 |str x=>obtain⟨t,e⟩:=(show ∃ t,u=Value.str x t from r);cases e;rfl
 |byt b=>obtain⟨t,e⟩:=(show ∃ t,u=Value.bytes b t from r);cases e;rfl
 |flt b=>obtain⟨t,e⟩:=(show ∃ t,u=Value.float b t from r);cases e;rfl
 |ref a=>cases (show u=Value.ref a from r);rfl
 |ty n=>cases (show u=Value.type n from r);rfl
section
variable {P:Program}{w:World}{H H':Hp}{h h':Heap}{a C dx:Addr}{fs fs':List (Str×V)}
theorem wM (hok:HOk P w H h) (e:H a=some (.ins C dx fs)):∃ mA,ObjM h a dx C mA∧(∀ f,RelO (fs.lookup f) (mA f))∧PySem.Within mA (fs.map (·.1))∧fs.length≤1000∧H dx=some (.own a):=by
 obtain⟨d,z,ne,ob,mA,n,r,q⟩:=(show ObjOk P w H h a (.ins C dx fs) from hok a _ e)
 exact⟨mA,⟨ob,n,ne⟩,r,q,z,d⟩
end
structure Cls (K:PySem.W.Frag) (C:Addr):Prop where
 pg:PySem.W.plainGet K C Str.empty=true
 hd:PySem.W.hasDictIn K C=true
 po:PySem.W.plainOver K C=true
 sa:PySem.W.findIn K (.ref C) "__setattr__" = some (some (.builtin "object.__setattr__"))
theorem Cls.get {K:PySem.W.Frag}{C:Addr}(c:Cls K C) (f:Str):PySem.W.plainGet K C f=true:=c.pg
def NoAttr (K:PySem.W.Frag) (C:Addr) (f:Str):Prop:=PySem.W.findIn K (.ref C) f=some none
theorem NoAttr.taker {K:PySem.W.Frag}{C:Addr}{f:Str}(n:NoAttr K C f):PySem.W.takerIn K C f=some none:=by
 unfold PySem.W.takerIn
 rw[show PySem.W.findIn K (.ref C) f=some none from n]
 rfl
structure Meth (K:PySem.W.Frag) (C:Addr) (m:Str) (f:Addr):Prop where
 at_:PySem.W.findIn K (.ref C) m=some (some (.ref f))
 fn:PySem.W.isFn K (.ref f)=true
 kp:PySem.W.keepIn K (.ref f)=true
section
variable {X:Cx}{pins:List (Addr×Obj)}{σ:St}{H:Hp}{s:Shared}{a C dx:Addr}{fs:List (Str×V)}{f:Str}{v:V}{A:Around}{E:Value→Shared→Prop}
theorem Zc {b:Bool}{Q:Value→Shared→Prop}(I:Inv X pins σ H s) (e:H a=some (.ins C dx fs)) (c:Cls X.K C) (n:NoAttr X.K C f) (l:fs.lookup f=some v)
  (h:∀ u s',Inv X pins σ H s'→RelV v u→Q u s'):wpAny (model X.prog X.w) A (getAttr (.ref a) f b) Q E s:=by
 obtain⟨mA,O,r,_,_,_⟩:=wM I.hok e
 obtain⟨u,hu,ru⟩:=RelO.some_of (v:=v) (o:=mA f) (by rw[← l];exact r f)
 exact V5 I.kIn O (c.get f) c.hd n hu (Y4 ru) (h u _ (I.tok _) ru)
theorem yD {m:Str}{g:Addr}{pl:Sem Bool}{Q:Value×List Value→Shared→Prop}(I:Inv X pins σ H s) (e:H a=some (.ins C dx fs)) (c:Cls X.K C) (k:Meth X.K C m g) (l:fs.lookup m=none)
  (h:Q (.ref g,[.ref a]) s):wpAny (model X.prog X.w) A (getMethod (.ref a) m pl) Q E s:=by
 obtain⟨mA,O,r,_,_,_⟩:=wM I.hok e
 have hn:mA m=none:=RelO.none_of (by rw[← l];exact r m)
 exact WE I.kIn O (c.get m) k.at_ k.fn hn h
theorem uW {y:V}{u:Value}{Q:Unit→Shared→Prop}(I:Inv X pins σ H s) (e:H a=some (.ins C dx fs)) (c:Cls X.K C) (n:NoAttr X.K C f) (hl:fs.length<1000) (ry:RelV y u)
  (h:∀ s',Inv X pins σ (upd H a (.ins C dx (vF f y fs))) s'→Q () s'):wpAny (model X.prog X.w) A (setAttr (.ref a) f u) Q E s:=by
 obtain⟨mA,O,r,wi,_,ho⟩:=wM I.hok e
 have hz:(fs.map (·.1)).length≤sizeLine:=by rw[List.length_map,sizeLine_eq];omega
 refine Vj I.kIn O c.sa c.po n.taker c.hd wi hz fun h' O' sb=>h _ ?_
 have hd:∃ o,h'.get? dx=some o:=let ⟨o,_,_,e',_⟩:=O'.ns;⟨o,e'⟩
 refine I.write (x:=a) (e:=dx) (by rw[e];exact True.intro) (.inr ho) (fun b q hb z=>(sb.2 b hb).trans z) hd ?_
 refine⟨by rw[upd_ne O.ne];exact ho,?_,O.ne,O'.obj,_,O'.ns,fun g=>?_,fun g hg=>?_⟩
 ·have:=xN f y fs;omega
 ·show RelO ((vF f y fs).lookup g) (if g=f then some u else mA g)
  rw[xM]
  by_cases q:g=f
  ·rw[if_pos q,if_pos q];exact ry
  ·rw[if_neg q,if_neg q];exact r g
 ·by_cases q:g=f
  ·rw[q];exact(xO f y fs).1
  ·refine(xO f y fs).2 g (wi g fun z=>hg ?_)
   show(if g=f then some u else mA g)=none
   rw[if_neg q];exact z
theorem Inv.made (I:Inv X pins σ H s):Inv X pins σ (upd (upd H s.heap.objs.size (.own (s.heap.objs.size+1))) (s.heap.objs.size+1) (.ins C s.heap.objs.size []))
  { s with heap:=(s.heap.push PySem.W.emptyDict).push (PySem.W.instObj C s.heap.objs.size) }:=by
 have e1:(s.heap.push PySem.W.emptyDict).get? s.heap.objs.size=some PySem.W.emptyDict:=Heap.get?_push_size s.heap rfl
 have e2:((s.heap.push PySem.W.emptyDict).push (PySem.W.instObj C s.heap.objs.size)).get? (s.heap.objs.size+1)=some (PySem.W.instObj C s.heap.objs.size):=by
  have:=Heap.get?_push_size (s.heap.push PySem.W.emptyDict) (o:=PySem.W.instObj C s.heap.objs.size) rfl
  rwa [Heap.size_push] at this
 have e3:(s.heap.push PySem.W.emptyDict).Ns s.heap.objs.size (fun _=>none):=⟨PySem.W.emptyDict,#[],_,e1,rfl,(fun e he=>absurd he (by simp)),fun _=>rfl⟩
 have I1:=I.laid (a:=s.heap.objs.size) (o:=.own (s.heap.objs.size+1)) (h':=s.heap.push PySem.W.emptyDict) (t':=s.toks) (fun b u q=>Heap.get?_push_of_some _ q) (Nat.le_refl _) ⟨_,e1⟩
 refine I1.laid (a:=s.heap.objs.size+1) (o:=.ins C s.heap.objs.size []) (t':=s.toks) (fun b u q=>Heap.get?_push_of_some _ q) (Nat.le_of_eq (Heap.size_push _ _)) ?_
 have ne:s.heap.objs.size≠s.heap.objs.size+1:=Nat.ne_of_lt (Nat.lt_succ_self _)
 refine⟨by rw[upd_ne ne,upd_same],Nat.zero_le _,ne,e2,fun _=>none,(Heap.Ns1.of_empty e3).at fun o q=>Heap.get?_push_of_some _ q,fun _=>True.intro,fun y hy=>absurd rfl hy⟩
theorem attr_of {prog:Program}{w:World}{env:Env}{e:Expr}{f:Str}{pos:Pos}{s:Shared}{Q:Value→Shared→Prop}(hb:attributeBase e f env (eval e env)=eval e env)
  (h:wpAny (model prog w) A (eval e env) (fun o s₁=>wpAny (model prog w) A (getAttr o f true) Q E s₁) E s):wpAny (model prog w) A (eval (.Attribute e f pos) env) Q E s :=
 Attribute_any_ h (by rw[arm_eval_Attribute,hb])
end
def znX (K:PySem.W.Frag) (ta:TE) (f:Str):TE:=fun σ H Q=>ta σ H fun x H1=>∃ a C dx fs v,x=.ref a∧H1 a=some (.ins C dx fs)∧Cls K C∧NoAttr K C f∧fs.lookup f=some v∧Q v H1
def zuH (K:PySem.W.Frag) (ta tv:TE) (f:Str):TS:=fun D σ H=>tv σ H fun y H1=>ta σ H1 fun x H2=>∃ a C dx fs,x=.ref a∧H2 a=some (.ins C dx fs)∧Cls K C∧NoAttr K C f∧fs.length<1000 ∧
 D.nx σ (upd H2 a (.ins C dx (vF f y fs)))
section
variable {X:Cx}{o e value:Expr}{f:Str}{pos pos' tpos:Pos}{ta tv:TE}
theorem zfQ (he:PE X e ta) (hb:attributeBase e f X.env (eval e X.env)=eval e X.env):PE X (.Attribute e f pos) (znX X.K ta f):=by
 intro pins s σ H Q I h
 refine attr_of hb (thn (he pins s σ H _ I h) fun u s1 hq0=>?_)
 obtain⟨x,H1,I1,rx,a,C,dx,fs,v,ex,ea,c,n,l,q⟩:=hq0
 subst ex
 obtain rfl:u=Value.ref a:=rx
 exact Zc I1 ea c n l fun u' s2 I2 ru=>⟨v,H1,I2,ru,q⟩
theorem uu (ha:PE X o ta) (hv:PE X value tv) (hs:swapsWith value (some (.Attribute o f pos')) pos.line X.env=pure false):PS X (.Assign [.Attribute o f pos'] value pos) (zuH X.K ta tv f):=by
 intro pins s σ H D I h
 refine plainObj_wpAny_Assign_Attribute (thn (hv pins s σ H _ I h) fun u s1 ⟨y,H1,I1,ry,q⟩=>thn (ha pins s1 σ H1 _ I1 q) fun ov s2 hq0=>?_) hs
 obtain⟨x,H2,I2,rx,a,C,dx,fs,ex,ea,c,n,l,q2⟩:=hq0
 subst ex
 obtain rfl:ov=Value.ref a:=rx
 exact uW I2 ea c n l ry fun s3 I3=>⟨σ,_,I3,q2⟩
theorem VY {pl:Sem Bool}{m:Str}{apos:Pos}{args:List Expr}{pins:List (Addr×Obj)}{s:Shared}{σ:St}{H:Hp}{Q:Value→Shared→Prop}{te:TE}(he:PE X e te) (I:Inv X pins σ H s)
  (h:te σ H fun x H1=>∃ a C dx fs g,x=.ref a∧H1 a=some (.ins C dx fs)∧Cls X.K C∧Meth X.K C m g∧fs.lookup m=none ∧
   ∀ s1,Inv X pins σ H1 s1→wpAny (model X.prog X.w) X.A (callWith pos (.ref g) [.ref a] (backTo pos (starEach args X.env)) (backToKw pos (keywordEach [] X.env))) Q X.xe s1)
  (ht:eval (.Call (.Attribute e m apos) args [] pos) X.env=(do
   let ov ← eval e X.env
   standAt apos.atName
   let (f,first) ← holding [ov] (getMethod ov m pl)
   callWith pos f first (backTo pos (starEach args X.env)) (backToKw pos (keywordEach [] X.env)))) :
  wpAny (model X.prog X.w) X.A (eval (.Call (.Attribute e m apos) args [] pos) X.env) Q X.xe s:=by
 refine PySem.W.methodCall_KW (pl:=pl) (thn (he pins s σ H _ I h) fun u s1 hq0=>?_) ht
 obtain⟨x,H1,I1,rx,a,C,dx,fs,g,ex,ea,c,k,l,q⟩:=hq0
 subst ex
 obtain rfl:u=Value.ref a:=rx
 exact yD I1 ea c k l (q s1 I1)
end
section
variable {X:Cx}{pins:List (Addr×Obj)}{σ:St}{H:Hp}{s:Shared}{A:Around}{E:Value→Shared→Prop}{Q:Value→Shared→Prop}{c:Value}{b:Bool}
inductive TyOf (K:PySem.W.Frag) (H:Hp):V→Value→Prop where
 |non:TyOf K H .non (.type "NoneType")
 |bl (x:Bool):TyOf K H (.bl x) (.type "bool")
 |int (i:Int):TyOf K H (.int i) (.type "int")
 |str (x:Str):TyOf K H (.str x) (.type "str")
 |flt (x:UInt64):TyOf K H (.flt x) (.type "float")
 |lst {a:Addr}{xs:List V}(e:H a=some (.lst xs)):TyOf K H (.ref a) (.type "list")
 |frz {a:Addr}{o:Obj}{xs:List V}(e:H a=some (.frz o (.lst xs))):TyOf K H (.ref a) (.type "list")
 |tup {a:Addr}{xs:List V}(e:H a=some (.tup xs)):TyOf K H (.ref a) (.type "tuple")
 |dK {a:Addr}{kvs:List (Key×V)}(e:H a=some (.dK kvs)):TyOf K H (.ref a) (.type "dict")
 |dT {a:Addr}{kvs:List (List Key×V)}(e:H a=some (.dT kvs)):TyOf K H (.ref a) (.type "dict")
 |ins {a C dx:Addr}{fs:List (Str×V)}(e:H a=some (.ins C dx fs)) (cl:Cls K C) (ha:PySem.W.findIn K (.ref C) "__class__" = some (some (.builtin "object.__class__")))
   (hn:PySem.W.specialIn K (.builtin "object.__class__") "__get__" = some (some (.builtin "getset_descriptor.__get__"))) (htk:PySem.W.takesIn K (.builtin "object.__class__")=some true)
   (hm:PySem.W.mroIn K C (.type "object")=some true):TyOf K H (.ref a) (.ref C)
theorem YV {x:V}{u t:Value}(I:Inv X pins σ H s) (rx:RelV x u) (ty:TyOf X.K H x t) (e:PySem.W.kitOne X.K t c=some b) (h:∀ tk,Q (.bool b) { s with toks:=tk }) :
  wpAny (model X.prog X.w) A (call (.builtin "isinstance") [u,c]) Q E s:=by
 cases ty with
 |non=>cases (show u=Value.none from rx);exact PySem.W.kia_one PySem.W.kitx_none I.kIn True.intro e (fun z=>nomatch z) h
 |bl y=>cases (show u=Value.bool y from rx);exact PySem.W.kia_one PySem.W.kitx_bool I.kIn True.intro e (fun z=>nomatch z) h
 |int i=>obtain⟨t,q⟩:=(show ∃ t,u=Value.int i t from rx);cases q;exact PySem.W.kia_one PySem.W.kitx_int I.kIn True.intro e (fun z=>nomatch z) h
 |str y=>obtain⟨t,q⟩:=(show ∃ t,u=Value.str y t from rx);cases q;exact PySem.W.kia_one PySem.W.kitx_str I.kIn True.intro e (fun z=>nomatch z) h
 |flt y=>obtain⟨t,q⟩:=(show ∃ t,u=Value.float y t from rx);cases q;exact PySem.W.kia_one PySem.W.kitx_float I.kIn True.intro e (fun z=>nomatch z) h
 | @lst a xs ea =>
  cases (show u=Value.ref a from rx)
  obtain⟨_,_,n,_,h1⟩:=(show ObjOk X.prog X.w H s.heap a (.lst xs) from I.hok a _ ea)
  exact PySem.W.kia_one PySem.W.kitx_list I.kIn ⟨_,h1,rfl⟩ e (fun z=>nomatch z) h
 | @frz a ob xs ea =>
  cases (show u=Value.ref a from rx)
  obtain⟨_,_,_,n,_,h1⟩:=(show ObjOk X.prog X.w H s.heap a (.frz ob (.lst xs)) from I.hok a _ ea)
  exact PySem.W.kia_one PySem.W.kitx_list I.kIn ⟨_,h1,rfl⟩ e (fun z=>nomatch z) h
 | @tup a xs ea =>
  cases (show u=Value.ref a from rx)
  obtain⟨_,_,_,p⟩:=(show ObjOk X.prog X.w H s.heap a (.tup xs) from I.hok a _ ea)
  obtain⟨o,h1,h2,_⟩:=p
  exact PySem.W.kia_one PySem.W.kitx_tuple I.kIn ⟨o,h1,h2⟩ e (fun z=>nomatch z) h
 | @dK a kvs ea =>
  cases (show u=Value.ref a from rx)
  obtain⟨_,_,vs,_,p⟩:=(show ObjOk X.prog X.w H s.heap a (.dK kvs) from I.hok a _ ea)
  obtain⟨o,es,ep,h1,h2,_⟩:=p
  exact PySem.W.kia_one PySem.W.kitx_dict I.kIn ⟨o,h1,h2.1⟩ e (fun z=>nomatch z) h
 | @dT a kvs ea =>
  cases (show u=Value.ref a from rx)
  obtain⟨_,_,xs,_,o,es,ep,h1,h2,_⟩:=(show ObjOk X.prog X.w H s.heap a (.dT kvs) from I.hok a _ ea)
  exact PySem.W.kia_one PySem.W.kitx_dict I.kIn ⟨o,h1,h2.1⟩ e (fun z=>nomatch z) h
 | @ins a C dx fs ea cl ha hn htk hm =>
  cases (show u=Value.ref a from rx)
  obtain⟨mA,O,_⟩:=wM I.hok ea
  obtain⟨od,J,_⟩:=O.look
  exact PySem.W.kia_one (PySem.W.kitx_own (cl.get _) cl.hd ha hn htk hm) I.kIn J e (fun z=>nomatch z) h
end
structure Room (k:Nat) (A:Around):Prop where
 hd:A.handled=none
 dp:A.depth+3*k+5<recursionLimit
 un:A.units+16*k+200<cLine
theorem Room.mono {j k:Nat}{A:Around}(r:Room k A) (h:j≤k):Room j A:=⟨r.hd,by have:=r.dp;omega,by have:=r.un;omega⟩
theorem Room.deeper {k:Nat}{A:Around}(r:Room (k+1) A) (env:Env):Room k (A.deeper env) :=
 ⟨r.hd,by have:=r.dp;show A.depth+1+3*k+5<_;omega,by have:=r.un;show A.units+3+16*k+200<_;omega⟩
theorem Za {A:Around}{C:Addr}{us:List Value}{kw:List (Str×Value)}:(A.under (.builtin "type.__call__" ⟨.ref C::us,kw⟩)).depth=A.depth+1:=by
 first | rfl | simp[Around.under,Code.weight,Code.isCreation,Code.isGuard,Code.isCaller,Code.frames,Code.isFrame,guardIds]
theorem u9 {A:Around}{C:Addr}{us:List Value}{kw:List (Str×Value)}:(A.under (.builtin "type.__call__" ⟨.ref C::us,kw⟩)).units=A.units+1:=by
 first | rfl | simp[Around.under,Code.cUnits,Code.frames,Code.isFrame]
theorem Room.make {k:Nat}{A:Around}(r:Room (k+1) A) (C:Addr) (us:List Value) (kw:List (Str×Value)):Room k (A.under (.builtin "type.__call__" ⟨.ref C::us,kw⟩)) :=
 ⟨r.hd,by have:=r.dp;rw[Za];omega,by have:=r.un;rw[u9];omega⟩
theorem Room.depth {k:Nat}{A:Around}(r:Room k A):A.depth<recursionLimit:=by have:=r.dp;omega
theorem Room.units {k:Nat}{A:Around}(r:Room k A):A.units+64<cLine:=by have:=r.un;omega
def Ub:TA:=fun _ H Q=>Q [] H
def yS (ta:TE) (tr:TA):TA:=fun σ H Q=>ta σ H fun x H1=>tr σ H1 fun xs H2=>Q (x::xs) H2
section
variable {X:Cx}{e:Expr}{es:List Expr}{te:TE}{t:TA}{pos:Pos}
theorem zQ:PA X [] Ub:=fun _ _ _ _ H Q I h=>Calls.spliced_nil ⟨[],H,I,.nil,h⟩
theorem yq (ha:PE X e te) (hr:PA X es t) (hs:starEach (e::es) X.env=(false,eval e X.env)::starEach es X.env:=by rfl):PA X (e::es) (yS te t):=by
 intro pos pins s σ H Q I h
 rw[hs]
 show wpAny _ _ (spliced ((false,eval e X.env)::backTo pos (starEach es X.env))) _ _ s
 refine Calls.spliced_cons (thn (ha pins s σ H _ I h) fun u s1 hq0=>?_)
 obtain⟨x,H1,I1,r1,q1⟩:=hq0
 exact thn (hr pos pins s1 σ H1 _ I1 q1) fun us s2 ⟨xs,H2,I2,r2,q2⟩=>⟨x::xs,H2,I2,.cons r1 r2,q2⟩
def znP (t:TA):TE:=fun σ H Q=>t σ H fun xs H1=>xs.length≤sizeLine∧∀ p,H1 p=none→Q (.ref p) (upd H1 p (.tup xs))
def znU (t:TA):TE:=fun σ H Q=>t σ H fun xs H1=>xs.length≤sizeLine∧∀ p,H1 p=none→Q (.ref p) (upd H1 p (.lst xs))
theorem zfN {x1}(h:PA X es t):PE X (.Tuple es x1 pos) (znP t):=by
 intro pins s σ H Q I hq
 refine wpAny_Tuple_spliced (thn (h pos pins s σ H _ I hq) fun us s1 ⟨xs,H1,I1,r,z,q⟩=>⟨by rw[← r.length];exact z,?_⟩)
 have hf:H1 s1.heap.objs.size=none:=I1.hok.fresh (Nat.le_refl _)
 refine⟨.ref s1.heap.objs.size,upd H1 s1.heap.objs.size (.tup xs),I1.laid (t':=s1.toks) (fun b u e=>Heap.get?_push_of_some _ e) (Nat.le_refl _) ?_,rfl,q _ hf⟩
 exact⟨z,us,r,⟨_,Heap.get?_push_size _ rfl,rfl,_,rfl⟩⟩
theorem WZ (h:PA X es t):PE X (.List es pos) (znU t):=by
 intro pins s σ H Q I hq
 refine wpAny_List_spliced (thn (h pos pins s σ H _ I hq) fun us s1 ⟨xs,H1,I1,r,z,q⟩=>⟨by rw[← r.length];exact z,?_⟩)
 have hf:H1 s1.heap.objs.size=none:=I1.hok.fresh (Nat.le_refl _)
 refine⟨.ref s1.heap.objs.size,upd H1 s1.heap.objs.size (.lst xs),I1.laid (t':=s1.toks) (fun b u e=>Heap.get?_push_of_some _ e) (Nat.le_refl _) ?_,rfl,q _ hf⟩
 exact⟨z,us,0,r,Heap.get?_push_size _ rfl⟩
end
abbrev Sp:=List V→Hp→VK→XK→Prop
abbrev CXT:=List Env→Hp→Shared→XK→Value→Shared→Prop
structure Env0 (P:Program) (w:World) (K:PySem.W.Frag) (mg:Str→Option Value) (base:Heap) (A:Around) (outer:List Env) (s:Shared) (H:Hp):Prop where
 frames:A.frames=some outer
 mod:Mod K mg base
 bs:∀ b o,base.get? b=some o→s.heap.get? b=some o∧H b=none
 bsz:base.objs.size≤s.heap.objs.size
 funs:s.heap.FunFrames base outer
 frf:∀ b∈frs outer,H b=none
 hok:HOk P w H s.heap
 bare:AllBare s.gens
def CE (outer:List Env) (P:Program) (w:World) (H:Hp) (s:Shared) (Q:VK) (u:Value) (s':Shared):Prop :=
 ∃ v H',s'.os=s.os∧AllBare s'.gens∧Un (frs outer) [] H H' s.heap s'.heap∧HOk P w H' s'.heap∧RelV v u∧Q v H'
def CR (CX:CXT) (outer:List Env) (P:Program) (w:World) (H:Hp) (s:Shared) (Q:VK) (E:XK) (r:Result) (s':Shared):Prop :=
 match r with
 |.ok (.ret u)=>CE outer P w H s Q u s'
 |.ok _=>False
 |.error e=>CX outer H s E e s'
structure FnOk (P:Program) (w:World) (K:PySem.W.Frag) (mg:Str→Option Value) (base:Heap) (CX:CXT) (k:Nat) (f:Addr) (fd:FuncData) (ps:List Str) (sp:Sp):Prop where
 len:∀ vs H Q E,sp vs H Q E→vs.length=ps.length
 run:∀ (A:Around) (outer:List Env) (s:Shared) (H:Hp) (args:Args) (us:List Value) (vs:List V) (Q:VK) (E:XK),Room k A→Env0 P w K mg base A outer s H→BindsTo s fd args (ps.zip us)→Vals vs us→sp vs H Q E →
  codeAny (model P w) A (.call (.ref f) args) (CR CX outer P w H s Q E) s
theorem Env0.make {P:Program}{w:World}{K:PySem.W.Frag}{mg:Str→Option Value}{base:Heap}{A:Around}{outer:List Env}{s:Shared}{H:Hp}(e:Env0 P w K mg base A outer s H) (C:Addr) (us:List Value) (kw:List (Str×Value)) :
  Env0 P w K mg base (A.under (.builtin "type.__call__" ⟨.ref C::us,kw⟩)) outer s H:=⟨by first | exact e.frames | (simpa[Around.under,Code.envs,Code.isFrame,pushEnvs] using e.frames),e.mod,e.bs,e.bsz,e.funs,e.frf,e.hok,e.bare⟩
section
variable {X:Cx}{pins:List (Addr×Obj)}{σ:St}{H:Hp}{s s':Shared}
theorem Inv.env0 (I:Inv X pins σ H s):Env0 X.prog X.w X.K X.mg X.base X.A X.stack s H :=
 ⟨I.ok.frames,I.ok.mod,I.bs,Nat.le_trans I.ok.bsz I.sz,I.stack,I.stkFree,I.hok,I.bare⟩
theorem Inv.after {Q:VK}{u:Value}(I:Inv X pins σ H s) (h:CE X.stack X.prog X.w H s Q u s'):EP X pins σ Q u s':=by
 obtain⟨v,H',os,bare,un,hok,r,q⟩:=h
 obtain⟨hh,g,d,t,os'⟩:=s'
 obtain rfl:os'=s.os:=os
 exact⟨v,H',I.call (h':=hh) (g':=g) (d':=d) (t':=t) (ch:=[]) un hok bare (fun b z=>absurd z (by simp)),r,q⟩
end
def ZC (sp:Sp) (dvs:List V) (E:XK) (t:TA):TE:=fun σ H Q=>t σ H fun vs H1=>sp (vs++dvs) H1 Q E
def zaq (C:Addr) (m:Str) (sp:Sp) (dvs:List V) (E:XK) (ta:TE) (t:TA):TE:=fun σ H Q=>ta σ H fun x H1=>∃ a dx fs,x=.ref a∧H1 a=some (.ins C dx fs)∧fs.lookup m=none ∧
 t σ H1 fun vs H2=>sp (x::(vs++dvs)) H2 Q E
def Vf (C:Addr) (sp:Sp) (dvs:List V) (E:XK) (t:TA):TE:=fun σ H Q=>t σ H fun vs H1=>∀ x dx,H1 x=none→H1 dx=none→dx≠x →
 sp (.ref x::(vs++dvs)) (upd (upd H1 dx (.own x)) x (.ins C dx [])) (fun v H2=>v=.non∧Q (.ref x) H2) E
def Binds (K:PySem.W.Frag) (fd:FuncData) (ps:List Str) (ds:List Value):Prop :=
 ∀ (s:Shared) (us:List Value),K.In s.heap→(us++ds).length=ps.length→BindsTo s fd ⟨us,[]⟩ (ps.zip (us++ds))
theorem Binds.all {K:PySem.W.Frag}{fd:FuncData}{ps:List Str}(h:∀ us:List Value,us.length=ps.length→bindArgs fd ⟨us,[]⟩=pure (ps.zip us)):Binds K fd ps []:=fun s us _ hl=>by
 rw[List.append_nil] at hl ⊢
 exact .of_eq (h us hl)
def y8 (CX:CXT) (X:Cx) (E:XK):Prop:=∀ (pins:List (Addr×Obj)) (σ:St) (H:Hp) (s:Shared) (e:Value) (s':Shared),Inv X pins σ H s→CX X.stack H s E e s'→X.xe e s'
section
variable {X:Cx}{CX:CXT}{k:Nat}{f C:Addr}{fd:FuncData}{ps:List Str}{sp:Sp}{dvs:List V}{ds:List Value}{E:XK}{x m:Str}{p pos apos:Pos}{e o:Expr}{es:List Expr}{ta:TE}{t:TA}
theorem run_fn {pins:List (Addr×Obj)}{σ:St}{H:Hp}{s:Shared}{Q:VK}{us:List Value}{vs:List V}(F:FnOk X.prog X.w X.K X.mg X.base CX k f fd ps sp) (hr:Room k X.A) (hb:Binds X.K fd ps ds) (hd:Vals dvs ds) (hx:y8 CX X E)
  (I:Inv X pins σ H s) (r:Vals vs us) (h:sp (vs++dvs) H Q E):wpAny (model X.prog X.w) X.A (call (.ref f) us) (EP X pins σ Q) X.xe s:=by
 have r2:Vals (vs++dvs) (us++ds):=r.append hd
 have hl:(us++ds).length=ps.length:=by rw[← r2.length];exact F.len _ _ _ _ h
 refine wpAny_call (codeAny_mono (F.run X.A X.stack s H ⟨us,[]⟩ (us++ds) (vs++dvs) Q E hr I.env0 (hb s us I.kIn hl) r2 h) fun r s' hq=>?_)
 cases r with
 |error e=>exact hx pins σ H s e s' I hq
 |ok fl =>
  cases fl with
  |ret u=>exact I.after hq
  |next=>exact False.elim hq
  |brk=>exact False.elim hq
  |cont=>exact False.elim hq
theorem VE (F:FnOk X.prog X.w X.K X.mg X.base CX k f fd ps sp) (hr:Room k X.A) (hg:Gl X x) (hm:X.mg x=some (.ref f)) (hk:PySem.W.keepIn X.K (.ref f)=true) (hb:Binds X.K fd ps ds) (hd:Vals dvs ds) (hx:y8 CX X E)
  (ha:PA X (e::es) t) (hdb:(x == ("__debug__" : Str))=false:=by decide) (he:starEach (e::es) X.env=(false,eval e X.env)::starEach es X.env:=by rfl) (hpl:(backTo pos (starEach es X.env)).any (·.1)=false:=by rfl) :
  PE X (.Call (.Name x p) (e::es) [] pos) (ZC sp dvs E t):=by
 intro pins s σ H Q I h
 refine wpAny_Call_Name_kw (ld_glob I hg hm ?_ hdb)
 refine PySem.W.callWith_K (h₀:=X.base) I.ok.mod.kin hk (thn (ha pos pins s σ H _ I h) fun us s1 ⟨vs,H1,I1,r,q⟩=>⟨I1.kIn,?_⟩) he hpl
 exact run_fn F hr hb hd hx I1 r q
theorem X7 (F:FnOk X.prog X.w X.K X.mg X.base CX k f fd ps sp) (hr:Room k X.A) (hg:Gl X x) (hm:X.mg x=some (.ref f)) (hk:PySem.W.keepIn X.K (.ref f)=true) (hb:Binds X.K fd ps ds) (hd:Vals dvs ds) (hx:y8 CX X E)
  (hdb:(x == ("__debug__" : Str))=false:=by decide):PE X (.Call (.Name x p) [] [] pos) (ZC sp dvs E Ub):=by
 intro pins s σ H Q I h
 refine wpAny_Call_Name_kw (ld_glob I hg hm ?_ hdb)
 exact PySem.W.callWith_K0 I.kIn hk (run_fn (us:=[]) F hr hb hd hx I .nil h)
theorem Vx {pl:Sem Bool}(he:PE X o ta) (c:Cls X.K C) (hm:Meth X.K C m f) (F:FnOk X.prog X.w X.K X.mg X.base CX k f fd ps sp) (hr:Room k X.A) (hb:Binds X.K fd ps ds) (hd:Vals dvs ds) (hx:y8 CX X E) (ha:PA X (e::es) t)
  (hst:starEach (e::es) X.env=(false,eval e X.env)::starEach es X.env:=by rfl) (hpl:(backTo pos (starEach es X.env)).any (·.1)=false:=by rfl)
  (ht:eval (.Call (.Attribute o m apos) (e::es) [] pos) X.env=(do
   let ov ← eval o X.env
   standAt apos.atName
   let (f,first) ← holding [ov] (getMethod ov m pl)
   callWith pos f first (backTo pos (starEach (e::es) X.env)) (backToKw pos (keywordEach [] X.env))):=by rfl) :
  PE X (.Call (.Attribute o m apos) (e::es) [] pos) (zaq C m sp dvs E ta t):=by
 intro pins s σ H Q I h
 refine PySem.W.methodCall_KW (pl:=pl) (thn (he pins s σ H _ I h) fun u s1 hq0=>?_) ht
 obtain⟨x,H1,I1,rx,a,dx,fs,ex,ea,l,q⟩:=hq0
 subst ex
 obtain rfl:u=Value.ref a:=rx
 refine yD I1 ea c hm l ?_
 refine PySem.W.callWith_K (first:=[.ref a]) (h₀:=X.base) I.ok.mod.kin hm.kp (thn (ha pos pins s1 σ H1 _ I1 q) fun us s2 ⟨vs,H2,I2,r,q2⟩=>⟨I2.kIn,?_⟩) hst hpl
 exact run_fn (us:=.ref a::us) (vs:=.ref a::vs) F hr hb hd hx I2 (.cons rfl r) q2
structure Mk (K:PySem.W.Frag) (C f:Addr):Prop where
 makes:PySem.W.makesIn K C=true
 init:PySem.W.findIn K (.ref C) "__init__" = some (some (.ref f))
 fn:PySem.W.isFn K (.ref f)=true
 kp:PySem.W.keepIn K (.ref C)=true
theorem XV {pins:List (Addr×Obj)}{σ:St}{H:Hp}{s:Shared}{Q:VK}{us:List Value}{vs:List V}(M:Mk X.K C f) (F:FnOk X.prog X.w X.K X.mg X.base CX k f fd ps sp) (hr:Room (k+1) X.A) (hb:Binds X.K fd ps ds) (hd:Vals dvs ds)
  (hx:y8 CX X E) (I:Inv X pins σ H s) (r:Vals vs us)
  (h:∀ x dx,H x=none→H dx=none→dx≠x→sp (.ref x::(vs++dvs)) (upd (upd H dx (.own x)) x (.ins C dx [])) (fun v H2=>v=.non∧Q (.ref x) H2) E) :
  wpAny (model X.prog X.w) X.A (call (.ref C) us) (EP X pins σ Q) X.xe s:=by
 have hq:=h (s.heap.objs.size+1) s.heap.objs.size (I.hok.fresh (Nat.le_succ _)) (I.hok.fresh (Nat.le_refl _)) (Nat.ne_of_lt (Nat.lt_succ_self _))
 have I2:=Inv.made (C:=C) I
 have r2:Vals (V.ref (s.heap.objs.size+1)::(vs++dvs)) (Value.ref (s.heap.objs.size+1)::(us++ds)):=.cons rfl (r.append hd)
 have hl:(Value.ref (s.heap.objs.size+1)::us++ds).length=ps.length:=by
  have e:=r2.length
  rw[F.len _ _ _ _ hq] at e
  exact e.symm
 refine wpAny_call (Ws (f:=f) I.kIn M.makes M.init (beq_iff_eq.mp M.fn) (codeAny_mono (F.run _ X.stack _ _ ⟨Value.ref (s.heap.objs.size+1)::us,[]⟩ (Value.ref (s.heap.objs.size+1)::(us++ds)) _ _ E (hr.make C us [])
  (I2.env0.make C us []) (hb _ (Value.ref (s.heap.objs.size+1)::us) I2.kIn hl) r2 hq) fun r s' hq'=>?_))
 cases r with
 |error e=>exact hx pins σ _ _ e s' I2 hq'
 |ok fl =>
  cases fl with
  |ret u =>
   obtain⟨v,H',I3,rv,ev,q3⟩:=I2.after hq'
   subst ev
   exact⟨rv,⟨V.ref (s.heap.objs.size+1),H',I3,rfl,q3⟩⟩
  |next=>exact False.elim hq'
  |brk=>exact False.elim hq'
  |cont=>exact False.elim hq'
theorem Vz (M:Mk X.K C f) (F:FnOk X.prog X.w X.K X.mg X.base CX k f fd ps sp) (hr:Room (k+1) X.A) (hg:Gl X x) (hm:X.mg x=some (.ref C)) (hb:Binds X.K fd ps ds) (hd:Vals dvs ds) (hx:y8 CX X E)
  (ha:PA X (e::es) t) (hdb:(x == ("__debug__" : Str))=false:=by decide) (he:starEach (e::es) X.env=(false,eval e X.env)::starEach es X.env:=by rfl) (hpl:(backTo pos (starEach es X.env)).any (·.1)=false:=by rfl) :
  PE X (.Call (.Name x p) (e::es) [] pos) (Vf C sp dvs E t):=by
 intro pins s σ H Q I h
 refine wpAny_Call_Name_kw (ld_glob I hg hm ?_ hdb)
 refine PySem.W.callWith_K (h₀:=X.base) I.ok.mod.kin M.kp (thn (ha pos pins s σ H _ I h) fun us s1 ⟨vs,H1,I1,r,q⟩=>⟨I1.kIn,?_⟩) he hpl
 exact XV M F hr hb hd hx I1 r q
end
structure FnScope (N P:List Str) (sc:Scope):Prop where
 kind:sc.kind=.function
 co:sc.isCoroutine=false
 gen:sc.isGenerator=false
 nd:N.Nodup
 pre:N.take P.length=P
 par:∀ x∈P,sc.names.lookup x=some .local∨sc.names.lookup x=some .cell
 nofree:∀ y∈sc.names,y.2≠.free
theorem vC {kindOf:Str→Option NameKind}{x:Str}:∀ {binds:List (Str×Value)}{m:Str→Option Value},(∀ v,(x,v)∉binds)→bindL kindOf binds m x=m x
 |[],_,_=>rfl
 |(n,v)::r,m,h=>by
  unfold bindL
  rw[vC fun w hw=>h w (List.mem_cons_of_mem _ hw)]
  split
  ·have:x≠n:=by rintro rfl;exact h v List.mem_cons_self
   simp[this]
  ·rfl
theorem bindC_out {kindOf:Str→Option NameKind}{x:Str}:∀ {binds:List (Str×Value)}{m:Str→Option Value},(∀ v,(x,v)∉binds)→bindC kindOf binds m x=m x
 |[],_,_=>rfl
 |(n,v)::r,m,h=>by
  unfold bindC
  rw[bindC_out fun w hw=>h w (List.mem_cons_of_mem _ hw)]
  split
  ·rfl
  ·have:x≠n:=by rintro rfl;exact h v List.mem_cons_self
   simp[this]
theorem bindL_get {kindOf:Str→Option NameKind}{x:Str}{v:Value}:∀ {P:List Str}{vs:List Value}{i:Nat}{m:Str→Option Value},P.Nodup→P[i]?=some x→vs[i]?=some v→kindOf x=some .local →
  bindL kindOf (P.zip vs) m x=some v
 |[],_,_,_,_,h,_,_=>by simp at h
 |_::_,[],_,_,_,_,h,_=>by simp at h
 |p::P,w::vs,0,m,nd,h1,h2,hk=>by
  simp at h1 h2;subst h1;subst h2
  show bindL kindOf ((p,w)::P.zip vs) m p=_
  unfold bindL
  rw[vC fun v hv=>(List.nodup_cons.mp nd).1 (List.of_mem_zip hv).1,if_pos hk]
  simp
 |p::P,w::vs,i+1,m,nd,h1,h2,hk=>by
  show bindL kindOf ((p,w)::P.zip vs) m x=_
  unfold bindL
  exact bindL_get (i:=i) (List.nodup_cons.mp nd).2 (by simpa using h1) (by simpa using h2) hk
theorem vD {kindOf:Str→Option NameKind}{x:Str}{v:Value}:∀ {P:List Str}{vs:List Value}{i:Nat}{m:Str→Option Value},P.Nodup→P[i]?=some x→vs[i]?=some v→kindOf x≠some .local →
  bindC kindOf (P.zip vs) m x=some v
 |[],_,_,_,_,h,_,_=>by simp at h
 |_::_,[],_,_,_,_,h,_=>by simp at h
 |p::P,w::vs,0,m,nd,h1,h2,hk=>by
  simp at h1 h2;subst h1;subst h2
  show bindC kindOf ((p,w)::P.zip vs) m p=_
  unfold bindC
  rw[bindC_out fun v hv=>(List.nodup_cons.mp nd).1 (List.of_mem_zip hv).1,if_neg hk]
  simp
 |p::P,w::vs,i+1,m,nd,h1,h2,hk=>by
  show bindC kindOf ((p,w)::P.zip vs) m x=_
  unfold bindC
  exact vD (i:=i) (List.nodup_cons.mp nd).2 (by simpa using h1) (by simpa using h2) hk
def start (N:List Str) (vs:List V):St:=vs.map some++List.replicate (N.length-vs.length) none
noncomputable def U9 (CX:CXT) (P:Program) (w:World) (K:PySem.W.Frag) (mg:Str→Option Value) (base:Heap) (N:List Str) (qual:Str) (scope:Scope) (f:Addr) (cd:Value) (A:Around) (outer:List Env) (s:Shared) (H:Hp) (E:XK):Cx where
 prog:=P
 w:=w
 K:=K
 mg:=mg
 base:=base
 A:=A.deeper (envOfC qual scope s.heap.objs.size f cd)
 N:=N
 s₀:=s
 H₀:=H
 env:=envOfC qual scope s.heap.objs.size f cd
 outer:=outer
 stack:=envOfC qual scope s.heap.objs.size f cd::outer
 ex:=[]
 calm:=true
 fn:=fun _=>true
 pn:=[]
 xe:=fun e s'=>wpAny (model P w) (A.deeper (envOfC qual scope s.heap.objs.size f cd)) (leaving (envOfC qual scope s.heap.objs.size f cd) e) (fun _ s''=>CX outer H s E e s'') (fun e' s''=>CX outer H s E e' s'') s'
theorem uJ {sc:Scope}{n:Nat}{x:Str}(h:sc.names.lookup x=some .cell):∃ c,(cellsFrom n sc.names []).lookup x=some c:=by
 have q:=PySem.W.cellsFrom_some sc.names n [] (.inl h)
 exact Option.isSome_iff_exists.mp q
theorem YX {CX:CXT}{P:Program}{w:World}{K:PySem.W.Frag}{mg:Str→Option Value}{base:Heap}{N ps:List Str}{qual:Str}{scope:Scope}{f:Addr}{cd:Value}{A:Around}{outer:List Env}{s s1:Shared}{H:Hp}{E:XK}{us:List Value}{vs:List V}
  (S:FnScope N ps scope) (hd:A.handled=none) (e0:Env0 P w K mg base A outer s H) (hl:vs.length=ps.length) (r:Vals vs us)
  (x:InCallC s s.heap.objs.size (bindL (envOfC qual scope s.heap.objs.size f cd).kindOf (ps.zip us) fun _=>none) (cellsFrom (s.heap.objs.size+1) scope.names []) (bindC (envOfC qual scope s.heap.objs.size f cd).kindOf (ps.zip us) fun _=>none) s1) :
  Inv (U9 CX P w K mg base N qual scope f cd A outer s H E) [] (start N vs) H s1:=by
 have hpl:ps.length≤N.length:=by have:=congrArg List.length S.pre;rw[List.length_take] at this;omega
 obtain⟨h1,tk,rfl,hk⟩:=x.done
 have noA:∀ b:Addr,b∉(U9 CX P w K mg base N qual scope f cd A outer s H E).ex:=fun b z=>absurd (show b∈([]:List Addr) from z) (by simp)
 refine⟨⟨e0.mod,S.kind,rfl,rfl,Nat.le_refl _,fun y z c h1 h2=>?_,fun y hy=>?_,fun y c _ h=>?_,fun _=>hd,Around.frames_deeper e0.frames,.inr ⟨rfl,rfl⟩,fun b z=>absurd z (noA b),e0.bs,e0.bsz,fun b _ _=>noA b,fun b z=>absurd z (noA b),e0.funs,e0.frf⟩,
  rfl,e0.bare,Un.kept hk,⟨_,x.toInCall.ns,fun i y v h1 h2 h3=>?_⟩,fun y c h=>⟨_,x.cell y c h⟩,e0.hok.fresh (Nat.le_refl _),fun y c h=>?_,fun p hp=>absurd (show p∈([]:List (Addr×Obj)) from hp) (by simp),e0.hok.kept hk,?_⟩
 ·exact name_of_addr x.apart (PySem.mem_of_lookup h1) (PySem.mem_of_lookup h2)
 ·have hy:scope.names.lookup y=some .cell∨scope.names.lookup y=some .free:=hy
  rcases hy with hy | hy
  ·exact uJ hy
  ·exact absurd rfl (S.nofree _ (PySem.mem_of_lookup hy))
 ·exact Nat.le_of_lt (x.above y c (PySem.mem_of_lookup h))
 ·have hi:i<vs.length:=by
   unfold start at h2
   by_cases hi:i<vs.length
   ·exact hi
   ·rw[List.getElem?_append_right (by simpa using hi)] at h2
    rw[List.getElem?_replicate] at h2
    split at h2<;>cases h2
  have ha:vs[i]?=some v:=by
   unfold start at h2
   rw[List.getElem?_append_left (by simpa using hi),List.getElem?_map] at h2
   cases e:vs[i]? with
   |none=>rw[e] at h2;cases h2
   |some a=>rw[e] at h2;cases h2;rfl
  obtain⟨u,hu,rv⟩:=r.get ha
  have hp:ps[i]?=some y:=by
   rw[← S.pre,List.getElem?_take_of_lt (by omega)];exact h1
  have ndP:ps.Nodup:=by rw[← S.pre];exact S.nd.sublist (List.take_sublist _ _)
  refine⟨u,rv,?_⟩
  rcases S.par y (List.mem_of_getElem? hp) with k | k
  ·exact .inl ⟨k,bindL_get ndP hp hu k⟩
  ·obtain⟨c,e⟩:=uJ (n:=s.heap.objs.size+1) k
   refine .inr ⟨.inl k,c,e,?_⟩
   have q:=x.cell y c e
   rw[vD ndP hp hu (by show scope.names.lookup y≠_;rw[k];decide)] at q
   exact q
 ·exact e0.hok.fresh (Nat.le_of_lt (x.above y c (PySem.mem_of_lookup h)))
 ·unfold start
  show _=N.length
  rw[List.length_append,List.length_map,List.length_replicate]
  omega
theorem znG {CX:CXT}{P:Program}{w:World}{K:PySem.W.Frag}{mg:Str→Option Value}{base:Heap}{k:Nat}{f:Addr}{name qual:Str}{params:Arguments}{body:List Stmt}{scope:Scope}{dV kV doc pm cdv ct oc:Value}{an od:Option Addr}
  {osl:Array (Option Value)}{N ps:List Str}{sp:Sp}(lk:K.lookup f=some ⟨oc,od,.func (PySem.W.fnOf name qual params body scope dV kV doc pm an cdv ct),osl⟩) (hcd:PySem.W.codeIn K cdv qual=true) (S:FnScope N ps scope)
  (len:∀ vs H Q E,sp vs H Q E→vs.length=ps.length)
  (hbody:∀ (A:Around) (outer:List Env) (s:Shared) (H:Hp) (vs:List V) (Q:VK) (E:XK),Room k (A.deeper (envOfC qual scope s.heap.objs.size f cdv))→sp vs H Q E →
   ∃ t,PSs (U9 CX P w K mg base N qual scope f cdv A outer s H E) body t∧t { nx:=fun _ H'=>Q .non H',rt:=Q } (start N vs) H) :
  FnOk P w K mg base CX (k+1) f (PySem.W.fnOf name qual params body scope dV kV doc pm an cdv ct) ps sp:=by
 refine⟨len,fun A outer s H args us vs Q E hr e0 hb r hsp=>?_⟩
 have hl:=len _ _ _ _ hsp
 have KX:K.In s.heap:=e0.mod.kin.keeps fun b o e=>(e0.bs b o e).1
 have lim:s.heap.NoLimit:=e0.mod.nolimit.keeps fun b o e=>(e0.bs b o e).1
 have hkind:∀ y∈ps.zip us,scope.names.lookup y.1=some .local∨(scope.names.lookup y.1=some .cell∧((cellsFrom (s.heap.objs.size+1) scope.names []).lookup y.1).isSome=true):=fun⟨n,v⟩ hy=>by
  rcases S.par n (List.of_mem_zip hy).1 with q | q
  ·exact .inl q
  ·exact .inr ⟨q,PySem.W.cellsFrom_some _ _ _ (.inl q)⟩
 refine codeAny_call_function hr.depth (KX _ _ lk) rfl S.co S.gen rfl (PySem.W.codeRec_of KX hcd) (hb _ _ _ _ ?_)
 refine wpAny_newFunctionEnv_cells S.kind hkind fun env he s1 x=>?_
 subst he
 refine⟨lim.keeps x.toInCall.keep,codeAny_func ?_⟩
 obtain⟨t,ht,hq⟩:=hbody A outer s H vs Q E (hr.deeper _) hsp
 have I:Inv (U9 CX P w K mg base N qual scope f cdv A outer s H E) [] (start N vs) H s1:=YX S hr.hd e0 hl r x
 refine wpAny_mono (ht [] s1 (start N vs) H _ I hq) (fun fl s' hs=>?_) fun e s' hs=>hs
 have fin:∀ {σ':St}{H':Hp}{v:V}{u:Value},Inv (U9 CX P w K mg base N qual scope f cdv A outer s H E) [] σ' H' s'→RelV v u→Q v H'→CE outer P w H s Q u s' :=
  fun {σ' H' v u} J rv q=>⟨v,H',J.os,J.bare,J.base,J.hok,rv,q⟩
 cases fl with
 |ret u =>
  obtain⟨v,σ',H',J,rv,q⟩:=hs
  exact fin J rv q
 |next =>
  obtain⟨σ',H',J,q⟩:=hs
  exact fin (v:=V.non) (u:=Value.none) J rfl q
 |brk =>
  obtain⟨_,_,_,q⟩:=hs
  exact False.elim q
 |cont =>
  obtain⟨_,_,_,q⟩:=hs
  exact False.elim q
section
variable {X:Cx}{x:Str}{p pos:Pos}{e:Expr}{es:List Expr}{t:TA}{id T:String}{r:List V→Hp→VK→Prop}
def tCB (r:List V→Hp→VK→Prop) (t:TA):TE:=fun σ H Q=>t σ H fun vs H1=>r vs H1 Q
theorem zY (hc:yu X (.builtin id) r) (hg:Gl X x) (hm:X.mg x=none) (hv:bootBuiltins x=some (.builtin id)) (ha:PA X (e::es) t) (hn:x ≠ "__name__" := by decide) (hdb:(x == ("__debug__" : Str))=false:=by decide)
  (he:starEach (e::es) X.env=(false,eval e X.env)::starEach es X.env:=by rfl) (hpl:(backTo pos (starEach es X.env)).any (·.1)=false:=by rfl):PE X (.Call (.Name x p) (e::es) [] pos) (tCB r t):=by
 intro pins s σ H Q I h
 refine wpAny_Call_Name_kw (ld_blt I hg hm hv ?_ hn hdb)
 exact PyProof.Rows.callWith_builtin1 (thn (ha pos pins s σ H _ I h) fun us s1 ⟨vs,H1,I1,r1,q1⟩=>hc pins s1 σ H1 vs us Q I1 r1 q1) he hpl
theorem vi (hc:yu X (.type T) r) (hg:Gl X x) (hm:X.mg x=none) (hv:bootBuiltins x=some (.type T)) (ha:PA X (e::es) t) (hn:x ≠ "__name__" := by decide) (hdb:(x == ("__debug__" : Str))=false:=by decide)
  (he:starEach (e::es) X.env=(false,eval e X.env)::starEach es X.env:=by rfl) (hpl:(backTo pos (starEach es X.env)).any (·.1)=false:=by rfl):PE X (.Call (.Name x p) (e::es) [] pos) (tCB r t):=by
 intro pins s σ H Q I h
 refine wpAny_Call_Name_kw (ld_blt I hg hm hv ?_ hn hdb)
 exact PyProof.Rows.callWith_type1 (thn (ha pos pins s σ H _ I h) fun us s1 ⟨vs,H1,I1,r1,q1⟩=>hc pins s1 σ H1 vs us Q I1 r1 q1) he hpl
end
end L2
namespace HT
open PySem PyProof.Rows
section
variable {prog:Program}{w:World}{A:Around}{E:Value→Shared→Prop}{s:Shared}
theorem cat_tup {t b:Addr}{vs ws:List Value}{Q:Value→Shared→Prop}(ht:IsTup s.heap t vs.toArray) (hb:IsTup s.heap b ws.toArray) (hv:vs≠[])
  (h1:ws=[]→Q (.ref t) s) (h2:ws≠[]→Q (.ref s.heap.objs.size) { s with heap:=s.heap.push { cls:=.type "tuple",data:=.seq (vs++ws).toArray } })
  (hsz:vs.length+ws.length≤sizeLine):wpAny (model prog w) A (binaryOp .Add (.ref t) (.ref b)) Q E s:=by
 obtain⟨⟨cls,dd,data,sl⟩,ho,hc,n,hd⟩:=id ht
 obtain⟨⟨cls2,dd2,data2,sl2⟩,ho2,hc2,n2,hd2⟩:=id hb
 simp only at hc hd hc2 hd2
 subst hc hd hc2 hd2
 have e:vs.toArray++ws.toArray=(vs++ws).toArray:=by simp
 by_cases hw:ws=[]
 ·exact concat_meets ⟨_,ho,rfl⟩ ⟨_,ho2,rfl⟩ noFill_tuple_add seq_tuple_add PySem.F.slot_tuple_add PySem.F.entry_tuple_add (PySem.F.args_tuple_add_2 _ _)
   (tuple_addW1 t b vs.toArray ws.toArray n n2 dd dd2 sl sl2 (by simpa using hv) (by simp[hw])) ⟨ho,ho2,h1 hw⟩
 ·refine concat_meets ⟨_,ho,rfl⟩ ⟨_,ho2,rfl⟩ noFill_tuple_add seq_tuple_add PySem.F.slot_tuple_add PySem.F.entry_tuple_add (PySem.F.args_tuple_add_2 _ _)
   (tuple_addW2 t b vs.toArray ws.toArray n n2 dd dd2 sl sl2 (by simpa using hv) (by simpa using hw) (by rw[List.size_toArray,List.size_toArray];exact hsz)) ⟨ho,ho2,?_⟩
  rw[e]
  exact h2 hw
noncomputable def sIx (n d:Nat):Option Int→Nat
 |none=>d
 |some v=>if v<0 then(v+(n:Int)).toNat else min v.toNat n
end
end HT
namespace L2
open PySem PySem.Spec PyProof.Rows
abbrev TO:=St→Hp→(Option Int→Hp→Prop)→Prop
def PO (X:Cx) (e:Option Expr) (t:TO):Prop :=
 ∀ (pins:List (Addr×Obj)) (s:Shared) (σ:St) (H:Hp) (Q:Option Int→Hp→Prop),Inv X pins σ H s→t σ H Q →
  wpAny (model X.prog X.w) X.A (evalPart e X.env) (fun u s'=>∃ o H',Inv X pins σ H' s'∧IsPart u o∧Q o H') X.xe s
def ZB:TO:=fun _ H Q=>Q none H
def zam (t:TE):TO:=fun σ H Q=>t σ H fun x H1=>∃ i,x=.int i∧Q (some i) H1
section
variable {X:Cx}{e:Expr}{te:TE}{lo hi:Option Expr}{tl th:TO}{pos p2:Pos}
theorem Vu:PO X none ZB:=by
 intro pins s σ H Q I h
 rw[evalPart_none]
 exact wpAny_pure ⟨none,H,I,.none,h⟩
theorem po_some (h:PE X e te):PO X (some e) (zam te):=by
 intro pins s σ H Q I hw
 rw[evalPart_some]
 refine thn (h pins s σ H _ I hw) fun u s1 hq0=>?_
 obtain⟨x,H1,I1,r1,q1⟩:=hq0
 obtain⟨i,rfl,q⟩:=q1
 obtain⟨t,rfl⟩:=r1
 exact⟨some i,H1,I1,.int i t,q⟩
def SlR (X:Cx) (r:V→Option Int→Option Int→Hp→VK→Prop):Prop :=
 ∀ (pins:List (Addr×Obj)) (s:Shared) (σ:St) (H:Hp) (x:V) (v vl vu:Value) (lo hi:Option Int) (sl:Addr) (Q:VK),Inv X pins σ H s→RelV x v→s.heap.IsSliceOf sl vl vu .none→IsPart vl lo→IsPart vu hi→r x lo hi H Q →
  ∃ T id,typeLookup (.type T) "__getitem__" = pure (some (.builtin id))∧s.TypeIs v T∧wpAny (model X.prog X.w) X.A (getItem v (.ref sl)) (EP X pins σ Q) X.xe s
def tSl (r:V→Option Int→Option Int→Hp→VK→Prop) (te:TE) (tl th:TO):TE:=fun σ H Q=>te σ H fun x H1=>tl σ H1 fun l H2=>th σ H2 fun u H3=>r x l u H3 Q
theorem X0 {r:V→Option Int→Option Int→Hp→VK→Prop}(hr:SlR X r) (he:PE X e te) (hl:PO X lo tl) (hu:PO X hi th):PE X (.Subscript e (.Slice lo hi none p2) pos) (tSl r te tl th):=by
 intro pins s σ H Q I h
 refine Subscript_ (thn (he pins s σ H _ I h) fun v s1 hq0=>?_)
 obtain⟨x,H1,I1,r1,q1⟩:=hq0
 refine wpAny_Slice (thn (hl pins s1 σ H1 _ I1 q1) fun vl s2 ⟨l,H2,I2,pl,q2⟩=>thn (hu pins s2 σ H2 _ I2 q2) fun vu s3 hq0=>?_)
 obtain⟨u,H3,I3,pu,q3⟩:=hq0
 rw[evalPart_none]
 refine wpAny_pure ?_
 have I4:Inv X pins σ H3 { s3 with heap:=s3.heap.push { cls:=.type "slice",data:=.fields #[vl,vu,.none] } }:=I3.kept (t':=s3.toks) fun b ob q=>Heap.get?_push_of_some _ q
 obtain⟨T,id,hT,ht,hg⟩:=hr pins { s3 with heap:=s3.heap.push { cls:=.type "slice",data:=.fields #[vl,vu,.none] } } σ H3 x v vl vu l u s3.heap.objs.size Q I4 r1 (Heap.IsSliceOf.new ..) pl pu q3
 show wpAny (model X.prog X.w) X.A (subscriptTail e (.Slice lo hi none p2) v (.ref s3.heap.objs.size)) (EP X pins σ Q) X.xe { s3 with heap:=s3.heap.push { cls:=.type "slice",data:=.fields #[vl,vu,.none] } }
 exact tail_any (ops:=[.ref s3.heap.objs.size,v]) ht hT hg (by with_unfolding_all rfl)
def Zf (xs:List V) (lo hi:Option Int):List V:=(xs.drop (HT.sIx xs.length 0 lo)).take (HT.sIx xs.length xs.length hi-HT.sIx xs.length 0 lo)
theorem yO (xs:List V) (lo hi:Option Int):(Zf xs lo hi).length≤xs.length:=by
 unfold Zf
 rw[List.length_take,List.length_drop]
 omega
def zjQ (K:PySem.W.Frag):R2:=fun x y H Q=>∃ a b xs ys,x=.ref a∧y=.ref b∧SqT K H a xs∧SqT K H b ys∧xs≠[]∧xs.length+ys.length≤sizeLine ∧
 (ys=[]→Q (.ref a) H)∧(ys≠[]→∀ p,H p=none→Q (.ref p) (upd H p (.tup (xs++ys))))
theorem Vals.nil_iff {xs:List V}{us:List Value}(r:Vals xs us):us=[]↔xs=[]:=by
 cases r with
 |nil=>simp
 |cons _ _=>simp
theorem VI:OpR X (binaryOp .Add) (zjQ X.K):=by
 intro pins s σ H x y v u Q I rx ry h
 obtain⟨a,b,xs,ys,rfl,rfl,ha,hb,hx,hz,q1,q2⟩:=h
 cases rx
 cases ry
 obtain⟨its,r1,p1,_⟩:=I.tuple ha
 obtain⟨its2,r2,p2,_⟩:=I.tuple hb
 refine HT.cat_tup p1 p2 (fun z=>hx (r1.nil_iff.mp z)) (fun z=>⟨.ref a,H,I,rfl,q1 (r2.nil_iff.mp z)⟩) (fun z=>?_) (by rw[← r1.length,← r2.length];exact hz)
 refine⟨.ref s.heap.objs.size,_,I.laid (t':=s.toks) (o:=.tup (xs++ys)) (fun b ob q=>Heap.get?_push_of_some _ q) (Nat.le_refl _) ?_,rfl,q2 (fun w=>z (r2.nil_iff.mpr w)) _ (I.hok.fresh (Nat.le_refl _))⟩
 exact⟨by rw[List.length_append];exact hz,_,r1.append r2,IsTup.new _ _⟩
end
noncomputable def ixN (n:Nat) (i:Int):Option Nat:=if 0≤i then(if i<n then some i.toNat else none) else if -(n:Int)≤i then some (i+n).toNat else none
def atI {α:Type}(xs:List α) (i:Int):Option α:=(ixN xs.length i).bind fun j=>xs[j]?
theorem V3 {n:Nat}{i:Int}{j:Nat}(h:ixN n i=some j):seqIndex? i n=some j∧j<n∧-(n:Int)≤i∧i<n:=by
 unfold ixN at h
 by_cases h0:0≤i
 ·rw[if_pos h0] at h
  by_cases h1:i<n
  ·rw[if_pos h1] at h
   have e:i.toNat=j:=Option.some.inj h
   exact⟨by rw[seqIndex_of h0 h1,e],by omega,by omega,h1⟩
  ·rw[if_neg h1] at h;cases h
 ·rw[if_neg h0] at h
  by_cases h1 : -(n:Int)≤i
  ·rw[if_pos h1] at h
   have e:(i+n).toNat=j:=Option.some.inj h
   exact⟨by rw[seqIndex_neg (by omega) h1,e],by omega,h1,by omega⟩
  ·rw[if_neg h1] at h;cases h
theorem Xk {α:Type}{xs:List α}{i:Int}{v:α}(h:atI xs i=some v):∃ j,seqIndex? i xs.length=some j∧xs[j]?=some v∧j<xs.length∧-(xs.length:Int)≤i∧i<xs.length:=by
 unfold atI at h
 cases e:ixN xs.length i with
 |none=>rw[e] at h;cases h
 |some j =>
  rw[e] at h
  obtain⟨h1,h2,h3,h4⟩:=V3 e
  exact⟨j,h1,h,h2,h3,h4⟩
theorem xU {α:Type}{xs:List α}{j:Nat}{v:α}(h:xs[j]?=some v):atI xs (j:Int)=some v:=by
 have hj:j<xs.length:=(List.getElem?_eq_some_iff.mp h).1
 have e:ixN xs.length (j:Int)=some j:=by
  unfold ixN
  rw[if_pos (by omega),if_pos (by omega)];simp
 unfold atI;rw[e];exact h
def Xo (b:Expr):Prop:=∀ o i,subscripted b false o i=operate [o,i] (getItem o i)
def IxR (X:Cx) (r:R2):Prop :=
 ∀ (value slice:Expr) (pins:List (Addr×Obj)) (s:Shared) (σ:St) (H:Hp) (x y:V) (v u:Value) (Q:VK),Inv X pins σ H s→RelV x v→RelV y u→r x y H Q →
  subscripted slice false v u=operate [v,u] (getItem v u)→wpAny (model X.prog X.w) X.A (subscriptTail value slice v u) (EP X pins σ Q) X.xe s
def MtR (X:Cx) (id:String) (r:V→List V→Hp→VK→Prop):Prop :=
 ∀ (pins:List (Addr×Obj)) (s:Shared) (σ:St) (H:Hp) (x:V) (xs:List V) (v:Value) (us:List Value) (Q:VK),Inv X pins σ H s→RelV x v→Vals xs us→r x xs H Q →
  wpAny (model X.prog X.w) X.A (call (.builtin id) (v::us)) (EP X pins σ Q) X.xe s
section
variable {X:Cx}{a b:Expr}{ta tb:TE}{pos:Pos}
theorem vR {r:R2}(hr:IxR X r) (ha:PE X a ta) (hb:PE X b tb) (hs:Xo b):PE X (.Subscript a b pos) (tOp r ta tb):=by
 intro pins s σ H Q I h
 exact Subscript_ (binT ha hb I h fun v u s2 x y H2 I2 rx ry q=>hr a b pins s2 σ H2 x y v u Q I2 rx ry q (hs _ _))
def zwO (K:PySem.W.Frag):R2:=fun x y H Q=>∃ p xs i v,x=.ref p∧y=.int i∧SqL K H p xs∧atI xs i=some v∧Q v H
def zwN (K:PySem.W.Frag):R2:=fun x y H Q=>∃ p xs i v,x=.ref p∧y=.int i∧SqT K H p xs∧atI xs i=some v∧Q v H
theorem zN:IxR X (zwO X.K):=by
 intro value slice pins s σ H x y v u Q I rx ry h hs
 obtain⟨p,xs,i,z,rfl,rfl,hq,he,q⟩:=h
 cases rx
 obtain⟨t,rfl⟩:=ry
 obtain⟨its,r,pl,hz⟩:=I.list hq
 obtain⟨j,h1,h2,h3,h4,h5⟩:=Xk he
 obtain⟨w,ew,rw'⟩:=r.get h2
 have hl:=r.length
 have hn:=YR
 have fin:EP X pins σ Q w s:=⟨z,H,I,rw',q⟩
 by_cases h0:0≤i
 ·have hj:i.toNat=j:=by
   rw[seqIndex_of h0 h5] at h1
   exact Option.some.inj h1
  exact item_listR pl.isList h0 (by omega) (by rw[hj];simpa using ew) fin hs
 ·have hj:(i+(its.toArray.size:Int)).toNat=j:=by
   rw[seqIndex_neg (by omega) h4] at h1
   rw[List.size_toArray,← hl]
   exact Option.some.inj h1
  exact subscriptTail_builtinR (x:=w) pl.isList.typeIs slot_list_getitem.lookup
   (wpAny_getItem_list_neg (Q:=fun r s'=>r=w∧EP X pins σ Q r s') pl.isList (by omega) (by rw[List.size_toArray]<;>omega) (by omega) (by rw[hj];simpa using ew) ⟨rfl,fin⟩) hs
theorem zH:IxR X (zwN X.K):=by
 intro value slice pins s σ H x y v u Q I rx ry h hs
 obtain⟨p,xs,i,z,rfl,rfl,hq,he,q⟩:=h
 cases rx
 obtain⟨t,rfl⟩:=ry
 obtain⟨its,r,pl,hz⟩:=I.tuple hq
 obtain⟨j,h1,h2,h3,h4,h5⟩:=Xk he
 obtain⟨w,ew,rw'⟩:=r.get h2
 have hl:=r.length
 have hn:=YR
 have fin:EP X pins σ Q w s:=⟨z,H,I,rw',q⟩
 exact subscriptTail_builtinR (x:=w) pl.typeIs slot_tuple_getitem.lookup
  (getItem_tuple (j:=j) (Q:=fun r s'=>r=w∧EP X pins σ Q r s') pl (by omega) (by omega) (by rw[List.size_toArray,← hl];exact h1) (by simpa using ew) ⟨rfl,fin⟩) hs
theorem vd (lo hi:Option Int) (n:Nat):(sliceBounds lo hi none n).1=((HT.sIx n 0 lo:Nat):Int)∧(sliceBounds lo hi none n).2.1=((HT.sIx n n hi:Nat):Int)∧(sliceBounds lo hi none n).2.2=1:=by
 refine⟨?_,?_,rfl⟩
 ·cases lo with
  |none=>simp[sliceBounds,HT.sIx]
  |some i =>
   simp only[sliceBounds,HT.sIx,Option.getD_none,show(1:Int)>0 by decide,if_true]
   by_cases h:i<0
   ·simp only[h,if_true]<;>omega
   ·simp only[h,if_false]<;>omega
 ·cases hi with
  |none=>simp[sliceBounds,HT.sIx]
  |some i =>
   simp only[sliceBounds,HT.sIx,Option.getD_none,show(1:Int)>0 by decide,if_true]
   by_cases h:i<0
   ·simp only[h,if_true]<;>omega
   ·simp only[h,if_false]<;>omega
theorem ww (its:List Value) (lo hi:Option Int):slicePick its.toArray lo hi none=((its.drop (HT.sIx its.length 0 lo)).take (HT.sIx its.length its.length hi-HT.sIx its.length 0 lo)).toArray:=by
 obtain⟨h1,h2,h3⟩:=vd lo hi its.toArray.size
 unfold slicePick
 rw[h1,h2,h3]
 simp only[sliceRange_one,pick_run,List.size_toArray]<;>rfl
def zwL (K:PySem.W.Frag):V→Option Int→Option Int→Hp→VK→Prop:=fun x lo hi H Q=>∃ a xs,x=.ref a∧SqL K H a xs∧∀ p,H p=none→Q (.ref p) (upd H p (.lst (Zf xs lo hi)))
theorem vN:SlR X (zwL X.K):=by
 intro pins s σ H x v vl vu lo hi sl Q I rx hs pl pu h
 obtain⟨a,xs,rfl,hx,q⟩:=h
 cases rx
 obtain⟨its,r,ht,hz⟩:=I.list hx
 have hlen:=r.length
 refine⟨"list",_,slot_list_getitem.lookup,ht.isList.typeIs,?_⟩
 refine wpAny_getItem_list_slice ht.isList hs pl pu .none (by simp) ?_ (by rw[List.size_toArray]<;>omega)
 rw[ww,← hlen]
 refine⟨.ref s.heap.objs.size,_,I.laid (t':=s.toks) (o:=.lst (Zf xs lo hi)) (fun b ob q=>Heap.get?_push_of_some _ q) (Nat.le_refl _) ?_,rfl,q _ (I.hok.fresh (Nat.le_refl _))⟩
 exact⟨Nat.le_trans (yO xs lo hi) hz,_,0,(r.drop (HT.sIx xs.length 0 lo)).take (HT.sIx xs.length xs.length hi-HT.sIx xs.length 0 lo),Heap.get?_push_size _ rfl⟩
noncomputable def yM:V→Bool
 |.non=>true
 |.bl _=>true
 |.int _=>true
 |.str _=>true
 |_=>false
noncomputable def eqV:V→V→Bool
 |.non,.non=>true
 |.bl a,.bl b=>a == b
 |.bl a,.int b=>(if a then 1 else 0) == b
 |.int a,.bl b=>a == (if b then 1 else 0)
 |.int a,.int b=>a == b
 |.str a,.str b=>a == b
 |_,_=>false
theorem eqAt_V {A:Around}{s:Shared}{y x:V}{u v:Value}(ry:RelV y u) (rx:RelV x v) (fy:yM y=true) (fx:yM x=true):SeqAt.EqAt A s u v (eqV y x):=by
 cases y with
 |non =>
  cases ry
  cases x with
  |non=>cases rx;exact SeqAt.EqAt.same _
  |bl b=>cases rx;exact SeqAt.EqAt.none_bool b
  |int b=>obtain⟨t,rfl⟩:=rx;exact SeqAt.EqAt.none_int b t
  |str b=>obtain⟨t,rfl⟩:=rx;exact SeqAt.EqAt.none_str b t
  |_=>exact absurd (show false=true from fx) Bool.false_ne_true
 |bl a =>
  cases ry
  cases x with
  |non=>cases rx;exact SeqAt.EqAt.bool_none a
  |bl b=>cases rx;exact SeqAt.EqAt.bool_bool a b
  |int b=>obtain⟨t,rfl⟩:=rx;exact SeqAt.EqAt.bool_int a b t
  |str b=>obtain⟨t,rfl⟩:=rx;exact SeqAt.EqAt.bool_str a b t
  |_=>exact absurd (show false=true from fx) Bool.false_ne_true
 |int a =>
  obtain⟨t',rfl⟩:=ry
  cases x with
  |non=>cases rx;exact SeqAt.EqAt.int_none a t'
  |bl b=>cases rx;exact SeqAt.EqAt.int_bool a t' b
  |int b=>obtain⟨t,rfl⟩:=rx;exact SeqAt.EqAt.int_int a t' b t
  |str b=>obtain⟨t,rfl⟩:=rx;exact SeqAt.EqAt.int_str a t' b t
  |_=>exact absurd (show false=true from fx) Bool.false_ne_true
 |str a =>
  obtain⟨t',rfl⟩:=ry
  cases x with
  |non=>cases rx;exact SeqAt.EqAt.str_none a t'
  |bl b=>cases rx;exact SeqAt.EqAt.str_bool a t' b
  |int b=>obtain⟨t,rfl⟩:=rx;exact SeqAt.EqAt.str_int a t' b t
  |str b=>obtain⟨t,rfl⟩:=rx;exact SeqAt.EqAt.str_str a t' b t
  |_=>exact absurd (show false=true from fx) Bool.false_ne_true
 |_=>exact absurd (show false=true from fy) Bool.false_ne_true
def eqU (x:V) (u:Value):Bool:=match u with
 |.none=>eqV .non x
 |.bool b=>eqV (.bl b) x
 |.int i _=>eqV (.int i) x
 |.str z _=>eqV (.str z) x
 |_=>false
theorem W7 {x y:V}{u:Value}(r:RelV y u) (f:yM y=true):eqU x u=eqV y x:=by
 cases y with
 |non=>cases r;rfl
 |bl b=>cases r;rfl
 |int i=>obtain⟨t,rfl⟩:=r;rfl
 |str z=>obtain⟨t,rfl⟩:=r;rfl
 |_=>exact absurd (show false=true from f) Bool.false_ne_true
theorem ue {x:V}:∀ {xs:List V}{us:List Value},Vals xs us→xs.all yM=true→us.any (eqU x)=xs.any fun y=>eqV y x
 |_,_,.nil,_=>rfl
 |y::xs,u::us,.cons r t,f=>by
  rw[List.all_cons,Bool.and_eq_true] at f
  rw[List.any_cons,List.any_cons,W7 r f.1,ue t f.2]
theorem wL {A:Around}{s:Shared}{x:V}{v:Value}(rx:RelV x v) (fx:yM x=true):∀ {xs:List V}{us:List Value},Vals xs us→xs.all yM=true→∀ u∈us,SeqAt.EqAt A s u v (eqU x u)
 |_,_,.nil,_=>fun u hu=>by cases hu
 |y::xs,u::us,.cons r t,f=>fun u' hu=>by
  rw[List.all_cons,Bool.and_eq_true] at f
  rcases List.mem_cons.mp hu with rfl | hu
  ·rw[W7 r f.1];exact eqAt_V r rx f.1 fx
  ·exact wL rx fx t f.2 u' hu
def inV (x:V) (xs:List V):Bool:=xs.any fun y=>eqV y x
def rIn (K:PySem.W.Frag) (neg:Bool):R2:=fun x y H Q=>∃ p xs,y=.ref p∧(SqL K H p xs∨SqT K H p xs)∧yM x=true∧xs.all yM=true∧Q (.bl (if neg then !inV x xs else inV x xs)) H
theorem xI:OpR X (compareOp .In) (rIn X.K false):=by
 intro pins s σ H x y v u Q I rx ry h
 obtain⟨p,xs,rfl,hq,fx,fs,q⟩:=h
 cases ry
 rcases hq with hq | hq
 ·obtain⟨its,r,pl,hz⟩:=I.list hq
  refine SeqAt.in_listAt (eqU x) pl.isList (fun w hw=>wL rx fx r fs w (by simpa using hw)) ⟨.bl _,H,I,rfl,?_⟩
  rw[show its.toArray.any (eqU x)=its.any (eqU x) by simp,ue r fs]
  exact q
 ·obtain⟨its,r,pl,hz⟩:=I.tuple hq
  refine SeqAt.in_tupleAt (eqU x) pl (fun w hw=>wL rx fx r fs w (by simpa using hw)) ⟨.bl _,H,I,rfl,?_⟩
  rw[show its.toArray.any (eqU x)=its.any (eqU x) by simp,ue r fs]
  exact q
theorem zn:yu X (.builtin "len") (fun xs H Q=>∃ p ys,xs=[.ref p]∧(SqL X.K H p ys∨SqT X.K H p ys)∧Q (.int ys.length) H):=by
 intro pins s σ H xs us Q I r h
 obtain⟨p,ys,rfl,hq,q⟩:=h
 obtain⟨u,rfl,rx⟩:=Zr r
 cases rx
 have hn:=YR
 rcases hq with hq | hq
 ·obtain⟨its,r',pl,hz⟩:=I.list hq
  have hlen:=r'.length
  exact Calls.call_len_list pl.isList (by simp only[List.size_toArray]<;>omega) ⟨.int ys.length,H,I.tok _,⟨s.toks+1,by rw[List.size_toArray,hlen]⟩,q⟩
 ·obtain⟨its,r',pl,hz⟩:=I.tuple hq
  have hlen:=r'.length
  exact len_tuple pl (by simp only[List.size_toArray]<;>omega) ⟨.int ys.length,H,I.tok _,⟨s.toks+1,by rw[List.size_toArray,hlen]⟩,q⟩
theorem yy:yu X (.type "list") (fun xs H Q=>∃ p ys,xs=[.ref p]∧(SqL X.K H p ys∨SqT X.K H p ys)∧∀ l,H l=none→Q (.ref l) (upd H l (.lst ys))):=by
 intro pins s σ H xs us Q I r h
 obtain⟨p,ys,rfl,hq,q⟩:=h
 obtain⟨u,rfl,rx⟩:=Zr r
 cases rx
 have fin:∀ (its:List Value),Vals ys its→ys.length≤sizeLine→∀ (h':Heap) (c':Nat),(∀ b o',s.heap.get? b=some o'→h'.get? b=some o') →
   h'.get? s.heap.objs.size=some { cls:=.type "list",dict:=none,data:=.seq its.toArray c',slots:=#[] }→EP X pins σ Q (.ref s.heap.objs.size) { s with heap:=h' }:=fun its r' hz h' c' kp e =>
  ⟨.ref s.heap.objs.size,_,I.laid (t':=s.toks) kp (Nat.le_refl _) (show ObjOk X.prog X.w _ h' _ (.lst ys) from⟨hz,its,c',r',e⟩),rfl,q _ (I.hok.fresh (Nat.le_refl _))⟩
 rcases hq with hq | hq
 ·obtain⟨its,r',pl,hz⟩:=I.list hq
  have hlen:=r'.length
  obtain⟨o,ho,hc,n,hd⟩:=pl.isList
  exact call_list_seq p (.inl rfl) ho hc hd (fun h' c' kp e=>fin its r' hz h' c' kp e) (by simp only[List.size_toArray]<;>omega)
 ·obtain⟨its,r',pl,hz⟩:=I.tuple hq
  have hlen:=r'.length
  obtain⟨o,ho,hc,n,hd⟩:=pl
  exact call_list_seq p (.inr rfl) ho hc hd (fun h' c' kp e=>fin its r' hz h' c' kp e) (by simp only[List.size_toArray]<;>omega)
theorem wO:yu X (.type "tuple") (fun xs H Q=>∃ p ys,xs=[.ref p]∧((SqL X.K H p ys∧∀ l,H l=none→Q (.ref l) (upd H l (.tup ys)))∨(SqT X.K H p ys∧Q (.ref p) H))):=by
 intro pins s σ H xs us Q I r h
 obtain⟨p,ys,rfl,h⟩:=h
 obtain⟨u,rfl,rx⟩:=Zr r
 cases rx
 rcases h with⟨hq,q⟩ | ⟨hq,q⟩
 ·obtain⟨its,r',pl,hz⟩:=I.list hq
  have hlen:=r'.length
  refine call_tuple_list pl.isList (fun h' kp=>?_) (by simp only[List.size_toArray]<;>omega)
  have I1:Inv X pins σ H { s with heap:=h' }:=I.kept (t':=s.toks) kp
  have I2:Inv X pins σ (upd H h'.objs.size (.tup ys)) { s with heap:=h'.push { cls:=.type "tuple",data:=.seq its.toArray } } :=
   I1.laid (t':=s.toks) (fun b o e=>Heap.get?_push_of_some _ e) (Nat.le_refl _) (show ObjOk X.prog X.w _ _ _ (.tup ys) from⟨hz,its,r',IsTup.new _ _⟩)
  exact⟨.ref h'.objs.size,_,I2,rfl,q _ (I1.hok.fresh (Nat.le_refl _))⟩
 ·obtain⟨its,r',pl,hz⟩:=I.tuple hq
  exact call_tuple_same pl ⟨.ref p,H,I,rfl,q⟩
def tyV (K:PySem.W.Frag) (T:String) (x:V) (H:Hp):Prop:=match x with
 |.str _=>T = "str"
 |.int _=>T = "int"
 |.ref p=>(T = "list" ∧ ∃ xs,SqL K H p xs)∨(T = "tuple" ∧ ∃ o,K.lookup p=some o∧o.cls=.type "tuple" ∧ o.dict=none) ∨
   (T = "dict" ∧ ((∃ kvs,H p=some (.dK kvs))∨∃ kvs,H p=some (.dT kvs)))∨(T = "set" ∧ ∃ S n,H p=some (.set S n))
 |_=>False
theorem WN {pins:List (Addr×Obj)}{σ:St}{H:Hp}{s:Shared}{T:String}{x:V}{v:Value}(I:Inv X pins σ H s) (r:RelV x v) (ty:tyV X.K T x H) :
  s.TypeIs v T∧∀ a,v=.ref a→∃ ob,s.heap.get? a=some ob∧ob.dict=none:=by
 cases x with
 |str z =>
  obtain⟨t,rfl⟩:=r
  cases (show T = "str" from ty)
  exact⟨typeIs_str s z t,fun _ e=>nomatch e⟩
 |int i =>
  obtain⟨t,rfl⟩:=r
  cases (show T = "int" from ty)
  exact⟨typeIs_int s i t,fun _ e=>nomatch e⟩
 |ref p =>
  cases r
  rcases ty with⟨rfl,xs,hq⟩ | ⟨rfl,o,hk,hc,hd⟩ | ⟨rfl,hk⟩ | ⟨rfl,S,n,hk⟩
  ·obtain⟨its,_,pl,_⟩:=I.list hq
   refine⟨pl.isList.typeIs,fun a e=>?_⟩
   cases e
   obtain⟨o,n,e,c,hd,_⟩:=pl
   exact⟨o,e,hd⟩
  ·refine⟨⟨o,I.kIn p o hk,hc⟩,fun a e=>?_⟩
   cases e
   exact⟨o,I.kIn _ o hk,hd⟩
  ·have z:∃ o,s.heap.get? p=some o∧o.ExactDict:=by
    rcases hk with⟨kvs,hk⟩ | ⟨kvs,hk⟩
    ·obtain⟨_,_,_,_,o,_,_,e,ex,_⟩:=I.hok p _ hk
     exact⟨o,e,ex⟩
    ·obtain⟨_,_,_,_,o,_,_,e,ex,_⟩:=I.hok p _ hk
     exact⟨o,e,ex⟩
   obtain⟨o,e,ex⟩:=z
   refine⟨⟨o,e,ex.1⟩,fun a e2=>?_⟩
   cases e2
   exact⟨o,e,ex.2.1⟩
  ·obtain⟨o,_,_,_,e,ex,_⟩:=I.hok p _ hk
   refine⟨⟨o,e,ex.1⟩,fun a e2=>?_⟩
   cases e2
   exact⟨o,e,ex.2.1⟩
 |_=>exact False.elim ty
def znZ (K:PySem.W.Frag) (T:String) (r:V→List V→Hp→VK→Prop) (to:TE):TE:=fun σ H Q=>to σ H fun x H1=>tyV K T x H1∧r x [] H1 Q
def tBM (K:PySem.W.Frag) (T:String) (r:V→List V→Hp→VK→Prop) (to:TE) (t:TA):TE:=fun σ H Q=>to σ H fun x H1=>tyV K T x H1∧t σ H1 fun xs H2=>r x xs H2 Q
variable {o e:Expr}{es:List Expr}{to:TE}{t:TA}{name:Str}{apos cpos:Pos}{T id:String}{r:V→List V→Hp→VK→Prop}
theorem zfT (pa:PlainAttrs T) (slot:Slot T name id) (hty:typeOf (.builtin id)=pure (.type "method_descriptor")) (hm:MtR X id r) (ho:PE X o to)
  (hbase:attributeBase o name X.env (eval o X.env)=eval o X.env:=by rfl) (hline:(apos.endLine == cpos.line)=true:=by rfl):PE X (.Call (.Attribute o name apos) [] [] cpos) (znZ X.K T r to):=by
 intro pins s σ H Q I h
 refine wpAny_Call_method0_late hbase hline (thn (ho pins s σ H _ I h) fun v s1 hq0=>?_)
 obtain⟨x,H1,I1,r1,ty,q1⟩:=hq0
 obtain⟨h1,h2⟩:=WN I1 r1 ty
 exact⟨T,id,pa,slot,hty,h1,h2,Calls.callWith_builtin rfl (PySem.evalArgs_none (hm pins s1 σ H1 x [] v [] Q I1 r1 .nil q1))⟩
theorem VF (pa:PlainAttrs T) (slot:Slot T name id) (hty:typeOf (.builtin id)=pure (.type "method_descriptor")) (hm:MtR X id r) (ho:PE X o to) (ha:PA X (e::es) t)
  (hbase:attributeBase o name X.env (eval o X.env)=eval o X.env:=by rfl)
  (hfew:((backTo cpos (starEach (e::es) X.env)).all (fun x=>!x.1)&&(backToKw cpos (keywordEach [] X.env)).all (fun x=>x.1.isSome)
   && decide ((e::es).length+([]:List Keyword).length+(if ([]:List Keyword).isEmpty then 0 else 1)<30))=true:=by rfl)
  (hline:(apos.endLine == cpos.line)=true:=by rfl) (hs:starEach (e::es) X.env=(false,eval e X.env)::starEach es X.env:=by rfl) (hplain:(backTo cpos (starEach es X.env)).any (·.1)=false:=by rfl) :
  PE X (.Call (.Attribute o name apos) (e::es) [] cpos) (tBM X.K T r to t):=by
 intro pins s σ H Q I h
 refine wpAny_Call_method_late hbase hfew hline rfl (thn (ho pins s σ H _ I h) fun v s1 hq0=>?_)
 obtain⟨x,H1,I1,r1,ty,q1⟩:=hq0
 obtain⟨h1,h2⟩:=WN I1 r1 ty
 refine⟨T,id,pa,slot,hty,h1,h2,?_⟩
 have hA:=ha cpos pins s1 σ H1 _ I1 q1
 rw[hs] at hA ⊢
 refine Calls.callWith_builtin (by show(false||(backTo cpos (starEach es X.env)).any (·.1))=false;rw[hplain]<;>rfl) (Calls.evalArgs_plain ?_)
 exact thn hA fun us s2 ⟨vs,H2,I2,r2,q2⟩=>hm pins s2 σ H2 x vs v us Q I2 r1 r2 q2
end
def MtM (X:Cx) (id:String) (r:V→List V→Hp→VK→Prop):Prop :=
 ∀ (pins:List (Addr×Obj)) (s:Shared) (σ:St) (H:Hp) (x:V) (xs:List V) (v:Value) (us:List Value) (Q:VK),Inv X pins σ H s→RelV x v→Vals xs us→r x xs H Q →
  wpAny (model X.prog X.w) X.A (call (.builtin id) (v::us)) (EP X pins σ Q) X.xe s
theorem Vals.one:∀ {x:V}{us:List Value},Vals [x] us→∃ u,us=[u]∧RelV x u
 |_,_,.cons r .nil=>⟨_,rfl,r⟩
theorem Vals.two:∀ {x y:V}{us:List Value},Vals [x,y] us→∃ u v,us=[u,v]∧RelV x u∧RelV y v
 |_,_,_,.cons r (.cons q .nil)=>⟨_,_,rfl,r,q⟩
theorem Vals.zero:∀ {us:List Value},Vals [] us→us=[]
 |_,.nil=>rfl
theorem Vals.dropLast {xs:List V}{us:List Value}(h:Vals xs us):Vals xs.dropLast us.dropLast:=by
 induction h with
 |nil=>exact .nil
 |cons r t ih =>
  cases t with
  |nil=>exact .nil
  |cons q t'=>exact .cons r ih
theorem Vals.eraseIdx:∀ {xs:List V}{us:List Value}(i:Nat),Vals xs us→Vals (xs.eraseIdx i) (us.eraseIdx i)
 |_,_,_,.nil=>.nil
 |_,_,0,.cons _ t=>t
 |_,_,i+1,.cons r t=>.cons r (Vals.eraseIdx i t)
theorem Zd {α:Type}(l:List α):l.eraseIdx (l.length-1)=l.dropLast:=by
 induction l with
 |nil=>rfl
 |cons a r ih =>
  cases r with
  |nil=>rfl
  |cons b r =>
   have e:(a::b::r).length-1=((b::r).length-1)+1:=by
    have h1:(a::b::r).length=r.length+2:=rfl
    have h2:(b::r).length=r.length+1:=rfl
    omega
   rw[e,List.eraseIdx_cons_succ,ih]
   all_goals rfl
theorem vv {α:Type}:∀ (l:List α) (i:Nat),(l.eraseIdx i).length≤l.length
 |[],_=>Nat.le_refl _
 |_::_,0=>Nat.le_succ _
 |_::r,i+1=>Nat.succ_le_succ (vv r i)
section
variable {X:Cx}{pins:List (Addr×Obj)}{σ:St}{H:Hp}{s:Shared}{l b:Addr}{xs ys zs:List V}
theorem Inv.lset {its its':List Value}{n:Nat}{f:Array Value→Array Value}{t':Nat}(I:Inv X pins σ H s) (hH:H l=some (.lst xs))
  (e:s.heap.get? l=some { cls:=.type "list",data:=.seq its.toArray n }) (hf:f its.toArray=its'.toArray) (hv:Vals ys its') (hz:ys.length≤sizeLine) :
  Inv X pins σ (upd H l (.lst ys)) { s with heap:=s.heap.update l (Obj.mapSeq f),toks:=t' }:=by
 have q:=PySem.IsL.update e f
 rw[hf] at q
 refine I.write (x:=l) (e:=l) (by rw[hH];exact trivial) (.inl rfl) (fun b' u hb hu=>(Heap.get?_update_other s.heap (Obj.mapSeq f) (Ne.symm hb)).trans hu) ⟨_,q⟩ ?_
 exact⟨hz,its',_,hv,q⟩
theorem Inv.lnew {its:List Value}{t':Nat}(I:Inv X pins σ H s) (hv:Vals ys its) (hz:ys.length≤sizeLine) :
  Inv X pins σ (upd H s.heap.objs.size (.lst ys)) { s with heap:=s.heap.push { cls:=.type "list",data:=.seq its.toArray },toks:=t' } :=
 I.laid (fun _ _ q=>Heap.get?_push_of_some _ q) (Nat.le_refl _) ⟨hz,its,0,hv,Heap.get?_push_size _ rfl⟩
theorem Inv.fresh (I:Inv X pins σ H s):H s.heap.objs.size=none:=I.hok.fresh (Nat.le_refl _)
theorem Inv.lstM (I:Inv X pins σ H s) (hH:H l=some (.lst xs)):xs.length≤sizeLine∧∃ (its:List Value) (n:Nat),Vals xs its∧xs.length=its.length∧s.heap.get? l=some { cls:=.type "list",data:=.seq its.toArray n }:=by
 obtain⟨z,its,n,r,e⟩:=I.hok l _ hH
 exact⟨z,its,n,r,r.length,e⟩
theorem Wj {n:Nat}(h:n≤sizeLine):Builtin.List.listTooLong n=false:=by
 unfold Builtin.List.listTooLong
 exact decide_eq_false (by omega)
end
section
variable {X:Cx}
def Vm:V→List V→Hp→VK→Prop:=fun x vs H Q=>∃ l xs y,x=.ref l∧vs=[y]∧H l=some (.lst xs)∧xs.length<sizeLine∧Q .non (upd H l (.lst (xs++[y])))
theorem zC:MtM X "list.append" Vm:=by
 intro pins s σ H x vs v us Q I rx rv h
 obtain⟨l,xs,y,rfl,rfl,hH,hz,q⟩:=h
 cases rx
 obtain⟨u,rfl,ru⟩:=rv.one
 obtain⟨z,its,n,r,hl,e⟩:=I.lstM hH
 refine call_meets F.slot_list_append ⟨_,e,rfl⟩ F.entry_list_append (F.args_list_append_2 _ _) (PySem.list_append l its.toArray n u (by rw[List.size_toArray];omega)) ⟨e,?_⟩
 refine⟨.non,_,I.lset (its':=its++[u]) hH e (by simp) (r.append (.cons ru .nil)) ?_,rfl,q⟩
 rw[List.length_append,List.length_singleton]
 omega
def Vl:V→List V→Hp→VK→Prop:=fun x vs H Q=>∃ l b xs zs,x=.ref l∧vs=[.ref b]∧H l=some (.lst xs)∧H b=some (.lst zs)∧xs.length+zs.length≤sizeLine∧Q .non (upd H l (.lst (xs++zs)))
theorem zg1:MtM X "list.extend" Vl:=by
 intro pins s σ H x vs v us Q I rx rv h
 obtain⟨l,b,xs,zs,rfl,rfl,hH,hB,hz,q⟩:=h
 cases rx
 obtain⟨u,rfl,ru⟩:=rv.one
 cases ru
 obtain⟨z,its,n,r,hl,e⟩:=I.lstM hH
 obtain⟨z2,its2,n2,r2,hl2,e2⟩:=I.lstM hB
 have hsz:its.toArray.size+its2.toArray.size≤sizeLine:=by rw[List.size_toArray,List.size_toArray];omega
 have hlong:¬ (!its.toArray.isEmpty&&Builtin.List.listTooLong (its.toArray.size+its2.toArray.size))=true:=by
  rw[Wj hsz,Bool.and_false]
  exact Bool.false_ne_true
 refine call_meets F.slot_list_extend ⟨_,e,rfl⟩ F.entry_list_extend (F.args_list_extend_2 _ _)
  (AutoSeq1.list_extend_list_list_0 l its.toArray n b its2.toArray n2 hlong (by rw[List.size_toArray];omega) (by omega)) ⟨e,e2,?_⟩
 refine⟨.non,_,I.lset (its':=its++its2) hH e (by simp) (r.append r2) ?_,rfl,q⟩
 rw[List.length_append]
 omega
def zwM:V→List V→Hp→VK→Prop:=fun x vs H Q=>∃ l xs y,x=.ref l∧vs=[]∧H l=some (.lst xs)∧xs[xs.length-1]?=some y∧Q y (upd H l (.lst xs.dropLast))
theorem zwd:MtM X "list.pop" zwM:=by
 intro pins s σ H x vs v us Q I rx rv h
 obtain⟨l,xs,y,rfl,rfl,hH,hy,q⟩:=h
 cases rx
 have hus:=rv.zero
 subst hus
 obtain⟨z,its,n,r,hl,e⟩:=I.lstM hH
 obtain⟨u,hu,ru⟩:=r.get hy
 have hy':its.toArray[its.toArray.size-1]?=some u:=by
  show its.toArray[its.length-1]?=some u
  rw[← Array.getElem?_toList,← hl]
  exact hu
 refine call_meets F.slot_list_pop ⟨_,e,rfl⟩ F.entry_list_pop (F.args_list_pop_1 _) (MeetsSeq.list_pop_last l its.toArray n u hy' (by rw[List.size_toArray];omega)) ⟨e,?_⟩
 refine⟨y,_,I.lset (its':=its.dropLast) hH e ?_ r.dropLast ?_,ru,q⟩
 ·show its.toArray.eraseIdxIfInBounds (its.toArray.size-1)=its.dropLast.toArray
  rw[List.size_toArray,List.eraseIdxIfInBounds_toArray,Zd]
 ·rw[List.length_dropLast]
  omega
def zfE:V→List V→Hp→VK→Prop:=fun x vs H Q=>∃ l xs i k y,x=.ref l∧vs=[.int i]∧H l=some (.lst xs)∧-(2 ^ 63)≤i∧i<2 ^ 63∧seqIndex? i xs.length=some k∧xs[k]?=some y∧Q y (upd H l (.lst (xs.eraseIdx k)))
theorem Wm:MtM X "list.pop" zfE:=by
 intro pins s σ H x vs v us Q I rx rv h
 obtain⟨l,xs,i,k,y,rfl,rfl,hH,h1,h2,hk,hy,q⟩:=h
 cases rx
 obtain⟨u,rfl,ru⟩:=rv.one
 obtain⟨t,rfl⟩:=ru
 obtain⟨z,its,n,r,hl,e⟩:=I.lstM hH
 obtain⟨w,hw,rw'⟩:=r.get hy
 refine call_meets F.slot_list_pop ⟨_,e,rfl⟩ F.entry_list_pop (F.args_list_pop_2 _ _)
  (MeetsSeq.list_pop_at l its.toArray n i t k w (fitsIndex_both h1 h2) (by rw[List.size_toArray,← hl];exact hk) (by rw[← Array.getElem?_toList];exact hw) (by rw[List.size_toArray];omega)) ⟨e,?_⟩
 refine⟨y,_,I.lset (its':=its.eraseIdx k) hH e ?_ (r.eraseIdx k) ?_,rw',q⟩
 ·show its.toArray.eraseIdxIfInBounds k=(its.eraseIdx k).toArray
  rw[List.eraseIdxIfInBounds_toArray]
 ·have:=vv xs k
  omega
def zfG:V→List V→Hp→VK→Prop:=fun x vs H Q=>∃ l xs,x=.ref l∧vs=[]∧H l=some (.lst xs)∧Q .non (upd H l (.lst []))
theorem Wn:MtM X "list.clear" zfG:=by
 intro pins s σ H x vs v us Q I rx rv h
 obtain⟨l,xs,rfl,rfl,hH,q⟩:=h
 cases rx
 have hus:=rv.zero
 subst hus
 obtain⟨z,its,n,r,hl,e⟩:=I.lstM hH
 refine call_meets F.slot_list_clear ⟨_,e,rfl⟩ F.entry_list_clear (F.args_list_clear_1 _) (AutoSeq1.list_clear_list_0 l its.toArray n (by rw[List.size_toArray];omega)) ⟨e,?_⟩
 exact⟨.non,_,I.lset (its':=[]) (ys:=[]) hH e rfl .nil (Nat.zero_le _),rfl,q⟩
def zwS:R2:=fun x y H Q=>∃ l b xs zs,x=.ref l∧y=.ref b∧H l=some (.lst xs)∧H b=some (.lst zs)∧xs.length+zs.length≤sizeLine∧∀ p,H p=none→Q (.ref p) (upd H p (.lst (xs++zs)))
theorem yV:OpR X (binaryOp .Add) zwS:=by
 intro pins s σ H x y v u Q I rx ry h
 obtain⟨l,b,xs,zs,rfl,rfl,hH,hB,hz,q⟩:=h
 cases rx
 cases ry
 obtain⟨z,its,n,r,hl,e⟩:=I.lstM hH
 obtain⟨z2,its2,n2,r2,hl2,e2⟩:=I.lstM hB
 refine PySem.P.add_list e e2 ?_ (by rw[List.size_toArray,List.size_toArray];omega)
 have ea:its.toArray++its2.toArray=(its++its2).toArray:=by simp
 rw[ea]
 exact⟨.ref _,_,I.lnew (t':=s.toks) (r.append r2) (by rw[List.length_append];omega),rfl,q _ I.fresh⟩
end
section
variable {κ:Type} [DecidableEq κ]
noncomputable def xu (kvs:List (κ×V)) (k:κ):Option V:=(kvs.find? fun kv=>decide (kv.1=k)).map (·.2)
def putK (kvs:List (κ×V)) (k:κ) (v:V):List (κ×V) :=
 if (kvs.any fun kv=>decide (kv.1=k))=true then kvs.map (fun kv=>if kv.1=k then(kv.1,v) else kv) else kvs++[(k,v)]
theorem xq {p:κ×V}{r:List (κ×V)}{k:κ}(e:p.1=k):xu (p::r) k=some p.2:=by simp[xu,List.find?_cons,e]
theorem xr {p:κ×V}{r:List (κ×V)}{k:κ}(e:¬ p.1=k):xu (p::r) k=xu r k:=by simp[xu,List.find?_cons,e]
theorem xt (k:κ):∀ kvs:List (κ×V),(kvs.any fun kv=>decide (kv.1=k))=(xu kvs k).isSome
 |[]=>rfl
 |p::r=>by
  rw[List.any_cons]
  by_cases e:p.1=k
  ·simp only[xq e,decide_eq_true e,Bool.true_or,Option.isSome_some]
  ·rw[xr e,decide_eq_false e,Bool.false_or];exact xt k r
theorem yL (kvs:List (κ×V)) (k:κ) (v:V):(putK kvs k v).length≤kvs.length+1:=by
 unfold putK
 split
 ·rw[List.length_map];omega
 ·rw[List.length_append,List.length_cons,List.length_nil];omega
theorem RelO.isSome_eq {o:Option V}{u:Option Value}(r:RelO o u):o.isSome=u.isSome:=by
 cases o with
 |none=>cases u with
  |none=>rfl
  |some _=>exact(show False from r).elim
 |some _=>cases u with
  |none=>exact(show False from r).elim
  |some _=>rfl
theorem KV.val {kvs:List (κ×V)}{vs:List (κ×Value)}(r:KV kvs vs) (k:κ):RelO (xu kvs k) (valueAt vs k):=by
 unfold KV at r
 induction r with
 |nil=>exact True.intro
 | @cons p q ps qs h t ih =>
  obtain⟨h1,h2⟩:=h
  by_cases e:p.1=k
  ·have e':q.1=k:=h1.symm.trans e
   have b:valueAt (q::qs) k=some q.2:=by simp[valueAt,List.find?_cons,e']
   rw[xq e,b];exact h2
  ·have e':¬ q.1=k:=fun z=>e (h1.trans z)
   have b:valueAt (q::qs) k=valueAt qs k:=by simp[valueAt,List.find?_cons,e']
   rw[xr e,b];exact ih
theorem KV.any {kvs:List (κ×V)}{vs:List (κ×Value)}(r:KV kvs vs) (k:κ):(kvs.any fun kv=>decide (kv.1=k))=vs.any fun kv=>decide (kv.1=k):=by
 unfold KV at r
 induction r with
 |nil=>rfl
 |cons h t ih=>rw[List.any_cons,List.any_cons,ih,h.1]
theorem KV.repl {kvs:List (κ×V)}{vs:List (κ×Value)}(r:KV kvs vs) (k:κ){y:V}{u:Value}(ry:RelV y u) :
  KV (kvs.map fun kv=>if kv.1=k then(kv.1,y) else kv) (vs.map fun kv=>if kv.1=k then(kv.1,u) else kv):=by
 unfold KV at r ⊢
 induction r with
 |nil=>exact .nil
 | @cons p q ps qs h t ih =>
  rw[List.map_cons,List.map_cons]
  refine .cons ?_ ih
  obtain⟨h1,h2⟩:=h
  by_cases e:p.1=k
  ·rw[if_pos e,if_pos (h1.symm.trans e)];exact⟨h1,ry⟩
  ·rw[if_neg e,if_neg (fun z=>e (h1.trans z))];exact⟨h1,h2⟩
theorem KV.put {kvs:List (κ×V)}{vs:List (κ×Value)}(r:KV kvs vs) (k:κ){y:V}{u:Value}(ry:RelV y u):KV (putK kvs k y) (stored vs k u):=by
 unfold putK stored
 rw[r.any k]
 by_cases e:(vs.any fun kv=>decide (kv.1=k))=true
 ·rw[if_pos e,if_pos e];exact r.repl k ry
 ·rw[if_neg e,if_neg e];exact Paired.snoc r ⟨rfl,ry⟩
theorem KV.length {kvs:List (κ×V)}{vs:List (κ×Value)}(r:KV kvs vs):kvs.length=vs.length:=Paired.length r
end
theorem Zb {P:Program}{w:World}{k:Key}{u:Value}(r:RelV (kV k) u):(zu P w).is k u=true:=by
 cases k with
 |inl i=>obtain⟨t,e⟩:=(show ∃ t,u=Value.int i t from r);subst e;exact v0 P w i t
 |inr x=>obtain⟨t,e⟩:=(show ∃ t,u=Value.str x t from r);subst e;exact vZ P w x t
theorem vw {P:Program}{w:World}:∀ {ks:List Key}{us:List Value},Vals (ks.map kV) us→ItemsAre (zu P w) ks us
 |[],_,r=>by rw[List.map_nil] at r;cases r;exact .nil
 |k::ks,_,r=>by
  rw[List.map_cons] at r
  cases r with
  |cons h t=>exact .cons (Zb h) (vw t)
abbrev KT (H:Hp):List (List Key×V)→List (List Key×Addr×Value)→Prop:=Paired fun p q=>p.1=q.1∧H q.2.1=some (.tup (p.1.map kV))∧RelV p.2 q.2.2
theorem KT.val {H:Hp}{kvs:List (List Key×V)}{xs:List (List Key×Addr×Value)}(r:KT H kvs xs) (k:List Key):RelO (xu kvs k) ((atKey xs k).map (·.2)):=by
 induction r with
 |nil=>exact True.intro
 | @cons p q ps qs h t ih =>
  obtain⟨h1,_,h2⟩:=h
  by_cases e:p.1=k
  ·have e':q.1=k:=h1.symm.trans e
   have b:atKey (q::qs) k=some q.2:=by simp[atKey,List.find?_cons,e']
   rw[xq e,b];exact h2
  ·have e':¬ q.1=k:=fun z=>e (h1.trans z)
   have b:atKey (q::qs) k=atKey qs k:=by simp[atKey,List.find?_cons,e']
   rw[xr e,b];exact ih
theorem KT.repl {H:Hp}{kvs:List (List Key×V)}{xs:List (List Key×Addr×Value)}(r:KT H kvs xs) (k:List Key){y:V}{u:Value}(ry:RelV y u) :
  KT H (kvs.map fun kv=>if kv.1=k then(kv.1,y) else kv) (xs.map (putAt k u)):=by
 induction r with
 |nil=>exact .nil
 | @cons p q ps qs h t ih =>
  rw[List.map_cons,List.map_cons]
  refine .cons ?_ ih
  obtain⟨h1,h2,h3⟩:=h
  unfold putAt
  by_cases e:p.1=k
  ·rw[if_pos e,if_pos (h1.symm.trans e)];exact⟨h1,h2,ry⟩
  ·rw[if_neg e,if_neg (fun z=>e (h1.trans z))];exact⟨h1,h2,h3⟩
theorem KT.put {H:Hp}{kvs:List (List Key×V)}{xs:List (List Key×Addr×Value)}(r:KT H kvs xs) (k:List Key){b:Addr}{y:V}{u:Value}(hb:H b=some (.tup (k.map kV))) (ry:RelV y u) :
  KT H (putK kvs k y) (storedH xs k b u):=by
 have e:(kvs.any fun kv=>decide (kv.1=k))=(atKey xs k).isSome:=by
  rw[xt,(r.val k).isSome_eq,Option.isSome_map]
 unfold putK storedH
 rw[e]
 by_cases q:(atKey xs k).isSome=true
 ·rw[if_pos q,if_pos q];exact r.repl k ry
 ·rw[if_neg q,if_neg q];exact Paired.snoc r ⟨rfl,hb,ry⟩
theorem KT.keeps {H H':Hp}{kvs:List (List Key×V)}{xs:List (List Key×Addr×Value)}(r:KT H kvs xs) (ht:∀ b ys,H b=some (.tup ys)→H' b=some (.tup ys)):KT H' kvs xs :=
 Paired.mapP r fun _ _ z=>⟨z.1,ht _ _ z.2.1,z.2.2⟩
section
variable {P:Program}{w:World}{H:Hp}{h:Heap}{a:Addr}
theorem zfB {u:HO}(ok:HOk P w H h) (e:Rd H a u):ObjOk P w H h a u:=e.ok ok
theorem Ze {kvs:List (Key×V)}(ok:HOk P w H h) (e:Rd H a (.dK kvs)):kvs.length≤sizeLine∧(a == sysModules)=false∧∃ vs,KV kvs vs∧h.DictOf (zu P w) a vs :=
 show ObjOk P w H h a (.dK kvs) from zfB ok e
theorem vz {kvs:List (Key×V)}(ok:HOk P w H h) (e:H a=some (.dK kvs)):kvs.length≤sizeLine∧(a == sysModules)=false∧∃ vs,KV kvs vs∧h.DictOf (zu P w) a vs:=Ze ok (.inl e)
theorem uB {ks:List Key}(ok:HOk P w H h) (e:H a=some (.tup (ks.map kV))):(tupleKind (zu P w)).is h ks a:=by
 obtain⟨_,its,r,o,h1,h2,n,h3⟩:=(show ObjOk P w H h a (.tup (ks.map kV)) from ok a _ e)
 exact⟨o,its.toArray,n,h1,h2,h3,by simpa using vw r⟩
theorem Y5 {kvs:List (List Key×V)}(ok:HOk P w H h) (e:Rd H a (.dT kvs)):kvs.length≤sizeLine∧(a == sysModules)=false ∧
  ∃ xs,KT H kvs xs∧h.DictOfH (tupleKind (zu P w)) a xs:=by
 obtain⟨z,y,xs,r,o,es,ep,h1,h2,h3,h4,h5⟩:=(show ObjOk P w H h a (.dT kvs) from zfB ok e)
 refine⟨z,y,xs,r,o,es,ep,h1,h2,h3,h4,fun x hx=>?_,h5⟩
 have all:∀ {l:List (List Key×V)}{m:List (List Key×Addr×Value)},KT H l m→∀ x∈m,(tupleKind (zu P w)).is h x.1 x.2.1:=by
  intro l m q
  induction q with
  |nil=>intro x hx;exact nomatch hx
  | @cons p q ps qs hq t ih =>
   intro x hx
   rcases List.mem_cons.mp hx with e | hx
   ·subst e
    exact uB ok (by rw[← hq.1];exact hq.2.1)
   ·exact ih x hx
 exact all r x hx
theorem znI {kvs:List (List Key×V)}(ok:HOk P w H h) (e:H a=some (.dT kvs)):kvs.length≤sizeLine∧(a == sysModules)=false ∧
  ∃ xs,KT H kvs xs∧h.DictOfH (tupleKind (zu P w)) a xs:=Y5 ok (.inl e)
end
def DGet (H:Hp) (a:Addr) (y:V) (r:Option V):Prop :=
 (∃ kvs k,Rd H a (.dK kvs)∧y=kV k∧r=xu kvs k)∨∃ kvs k b,Rd H a (.dT kvs)∧y=.ref b∧H b=some (.tup (k.map kV))∧r=xu kvs k
def DPut (H:Hp) (a:Addr) (y v:V) (H':Hp):Prop :=
 (∃ kvs k,H a=some (.dK kvs)∧y=kV k∧kvs.length<sizeLine∧H'=upd H a (.dK (putK kvs k v))) ∨
 ∃ kvs k b,H a=some (.dT kvs)∧y=.ref b∧H b=some (.tup (k.map kV))∧kvs.length<sizeLine∧H'=upd H a (.dT (putK kvs k v))
theorem DGet.k {H:Hp}{a:Addr}{kvs:List (Key×V)}{k:Key}(e:H a=some (.dK kvs)):DGet H a (kV k) (xu kvs k):=.inl ⟨kvs,k,.inl e,rfl,rfl⟩
theorem DGet.t {H:Hp}{a b:Addr}{kvs:List (List Key×V)}{k:List Key}(e:H a=some (.dT kvs)) (eb:H b=some (.tup (k.map kV))):DGet H a (.ref b) (xu kvs k):=.inr ⟨kvs,k,b,.inl e,rfl,eb,rfl⟩
theorem DPut.k {H:Hp}{a:Addr}{kvs:List (Key×V)}{k:Key}{v:V}(e:H a=some (.dK kvs)) (hl:kvs.length<sizeLine):DPut H a (kV k) v (upd H a (.dK (putK kvs k v))):=.inl ⟨kvs,k,e,rfl,hl,rfl⟩
theorem DPut.t {H:Hp}{a b:Addr}{kvs:List (List Key×V)}{k:List Key}{v:V}(e:H a=some (.dT kvs)) (eb:H b=some (.tup (k.map kV))) (hl:kvs.length<sizeLine) :
  DPut H a (.ref b) v (upd H a (.dT (putK kvs k v))):=.inr ⟨kvs,k,b,e,rfl,eb,hl,rfl⟩
section
variable {X:Cx}{pins:List (Addr×Obj)}{σ:St}{H:Hp}{s:Shared}{a:Addr}{y v:V}{u r:Value}{o:Option V}{A:Around}{E:Value→Shared→Prop}
theorem Inv.big (I:Inv X pins σ H s):sysModules<s.heap.objs.size:=by
 have h:mainGlobals<s.heap.objs.size:=(I.mod.glob.keeps I.bk).lt
 exact Nat.lt_trans (by decide) h
theorem Xa {Q:Value→Shared→Prop}(hu:A.units+1<cLine) (I:Inv X pins σ H s) (g:DGet H a y (some v)) (ry:RelV y u) (h:∀ w' s',Inv X pins σ H s'→RelV v w'→Q w' s') :
  wpAny (model X.prog X.w) A (getItem (.ref a) u) Q E s:=by
 rcases g with⟨kvs,k,e,ey,l⟩ | ⟨kvs,k,b,e,ey,eb,l⟩
 ·subst ey
  obtain⟨z,hd,vs,rel,dd⟩:=Ze I.hok e
  obtain⟨w',hw,rw'⟩:=RelO.some_of (v:=v) (o:=valueAt vs k) (by rw[l];exact rel.val k)
  exact wpAny_getItem_of (Zb ry) dd.mapOf hw (h w' _ (I.tok _) rw')
 ·subst ey
  cases (show u=Value.ref b from ry)
  obtain⟨z,hd,xs,rel,dd⟩:=Y5 I.hok e
  obtain⟨w',hw,rw'⟩:=RelO.some_of (v:=v) (o:=(atKey xs k).map (·.2)) (by rw[l];exact rel.val k)
  obtain⟨p,hp,hp2⟩:=Option.map_eq_some_iff.mp hw
  refine wpAny_getItem_heap (tupleKind_room_in1 hu) (uB I.hok eb) dd hp ?_
  rw[hp2]
  exact h w' _ (I.tok _) rw'
theorem zxp {Q:Value→Shared→Prop}(hu:A.units+1<cLine) (I:Inv X pins σ H s) (g:DGet H a y o) (ry:RelV y u) (h:∀ s',Inv X pins σ H s'→Q (.bool o.isSome) s') :
  wpAny (model X.prog X.w) A (compareOp .In u (.ref a)) Q E s:=by
 rcases g with⟨kvs,k,e,ey,l⟩ | ⟨kvs,k,b,e,ey,eb,l⟩
 ·subst ey
  obtain⟨z,hd,vs,rel,dd⟩:=Ze I.hok e
  refine wpAny_in_of (Zb ry) hd dd.mapOf ?_
  rw[← (rel.val k).isSome_eq,← l]
  exact h _ (I.tok _)
 ·subst ey
  cases (show u=Value.ref b from ry)
  obtain⟨z,hd,xs,rel,dd⟩:=Y5 I.hok e
  refine wpAny_in_heap (tupleKind_room_in1 hu) (uB I.hok eb) hd dd ?_
  have q:=(rel.val k).isSome_eq
  rw[Option.isSome_map] at q
  rw[← q,← l]
  exact h _ (I.tok _)
theorem xR {h':Heap}{t':Nat}{ob:HO}(I:Inv X pins σ H s) (mu:Mut (H a)) (hs:Heap.SameBut a s.heap h') (he:∃ q,h'.get? a=some q) (new:ObjOk X.prog X.w (upd H a ob) h' a ob) :
  Inv X pins σ (upd H a ob) { s with heap:=h',toks:=t' } :=
 I.write (x:=a) (e:=a) mu (.inl rfl) (fun b q hb z=>(hs.2 b hb).trans z) he new
theorem wf {P:Program}{w:World}{H':Hp}{h':Heap}{kvs:List (Key×V)}{vs:List (Key×Value)}(z:kvs.length≤sizeLine) (hd:(a == sysModules)=false) (rel:KV kvs vs) (dd:h'.DictOf (zu P w) a vs) :
  ObjOk P w H' h' a (.dK kvs):=⟨z,hd,vs,rel,dd⟩
theorem Y9 {H':Hp}{Q:Unit→Shared→Prop}(hu:A.units+1<cLine) (I:Inv X pins σ H s) (g:DPut H a y v H') (ry:RelV y u) (rv:RelV v r) (h:∀ s',Inv X pins σ H' s'→Q () s') :
  wpAny (model X.prog X.w) A (setItem (.ref a) u r) Q E s:=by
 rcases g with⟨kvs,k,e,ey,l,eH⟩ | ⟨kvs,k,b,e,ey,eb,l,eH⟩
 ·subst ey eH
  obtain⟨z,hd,vs,rel,dd⟩:=vz I.hok e
  have hz:vs.length≤sizeLine:=by rw[← rel.length];exact z
  have hl:(putK kvs k v).length≤sizeLine:=by have:=yL kvs k v;omega
  refine wpAny_setItem_pairs (hsz:=hz) (Zb ry) dd fun h' dd' hs=>h _ ?_
  have he:∃ q,h'.get? a=some q:=let ⟨q,_,_,hq,_⟩:=dd';⟨q,hq⟩
  exact xR I (by rw[e];exact True.intro) hs he (wf hl hd (rel.put k rv) dd')
 ·subst ey eH
  cases (show u=Value.ref b from ry)
  obtain⟨z,hd,xs,rel,dd⟩:=znI I.hok e
  have hz:xs.length≤sizeLine:=by rw[← Paired.length rel];exact z
  have hl:(putK kvs k v).length≤sizeLine:=by have:=yL kvs k v;omega
  refine wpAny_setItem_heap (hsz:=hz) (tupleKind_room_in1 hu) (uB I.hok eb) dd fun h' dd' hs=>h _ ?_
  obtain⟨q,es,ep,hq,h2,h3,h4,_,h5⟩:=dd'
  refine xR I (by rw[e];exact True.intro) hs ⟨q,hq⟩ ⟨hl,hd,_,(rel.put k eb rv).keeps fun c ys ec=>?_,q,es,ep,hq,h2,h3,h4,h5⟩
  rw[upd_ne (ne_of ec e (fun z=>nomatch z))]
  exact ec
end
section
variable {X:Cx}{pins:List (Addr×Obj)}{σ:St}{H:Hp}{s:Shared}{a:Addr}{kvs:List (Key×V)}{k:Key}{u:Value}{A:Around}{E:Value→Shared→Prop}
theorem V8 {Q:Value→Shared→Prop}(I:Inv X pins σ H s) (e:H a=some (.dK kvs)) (h:∀ s',Inv X pins σ (upd H a (.dK [])) s'→Q .none s'):wpAny (model X.prog X.w) A (call (.builtin "dict.clear") [.ref a]) Q E s:=by
 obtain⟨z,hd,vs,rel,dd⟩:=vz I.hok e
 refine call_meetsIn PySem.F.slot_dict_clear dd.typeIs PySem.F.entry_dict_clear (PySem.F.args_dict_clear_1 _) (meets_dict_clear (zu X.prog X.w) a) ⟨vs,dd,by rw[← rel.length];exact z,fun h' dd' hs=>h _ ?_⟩
 have he:∃ q,h'.get? a=some q:=let ⟨q,_,_,hq,_⟩:=dd';⟨q,hq⟩
 exact xR (t':=s.toks) I (by rw[e];exact True.intro) hs he (wf (Nat.zero_le _) hd .nil dd')
end
def znM (i:Expr):Prop:=∀ ov iv,subscripted i false ov iv=operate [ov,iv] (getItem ov iv)
theorem subD_of {prog:Program}{w:World}{A:Around}{E:Value→Shared→Prop}{s:Shared}{env:Env}{value slice:Expr}{pos:Pos}{T id:String}{Q:Value→Shared→Prop}
  (hl:typeLookup (.type T) "__getitem__" = pure (some (.builtin id))) (hs:znM slice)
  (h:wpAny (model prog w) A (eval value env) (fun o s₁=>wpAny (model prog w) A (eval slice env) (fun i s₂=>s₂.TypeIs o T∧wpAny (model prog w) A (getItem o i) Q E s₂) E s₁) E s) :
  wpAny (model prog w) A (eval (.Subscript value slice pos) env) Q E s:=by
 refine Subscript_ (wpAny_mono h (fun o s₁ h₁=>wpAny_mono h₁ (fun i s₂ h₂=>?_) fun _ _ x=>x) fun _ _ x=>x)
 obtain⟨hT,h₂⟩:=h₂
 unfold subscriptTail
 refine wpAny_bind ?_
 rw[getitemInPython_of_ne hT.not_modules]
 refine wpAny_bind (wpAny_specialOf hT hl ?_)
 have fin:wpAny (model prog w) A (subscripted slice false o i) (fun r s₃=>wpAny (model prog w) A (letTemporaryGo value o r >>= fun _=>pure r) Q E s₃) E s₂:=by
  rw[hs o i]
  exact wpAny_operating (wpAny_mono h₂ (fun r s₃ h₃=>wpAny_bind (wpAny_letTemporaryGo (wpAny_pure h₃))) fun _ _ x=>x)
 first
  |exact wpAny_pure (wpAny_bind fin)
  |exact wpAny_bind (wpAny_pure (wpAny_bind fin))
  |exact wpAny_bind fin
theorem ua {X:Cx}{pins:List (Addr×Obj)}{σ:St}{H:Hp}{s:Shared}{a:Addr}{y:V}{o:Option V}(I:Inv X pins σ H s) (g:DGet H a y o):s.TypeIs (.ref a) "dict" := by
 rcases g with⟨kvs,k,e,_,_⟩ | ⟨kvs,k,b,e,_,_,_⟩
 ·obtain⟨_,_,vs,_,dd⟩:=Ze I.hok e
  exact dd.typeIs
 ·obtain⟨_,_,xs,_,dd⟩:=Y5 I.hok e
  exact dd.typeIs
def zax (td ty:TE):TE:=fun σ H Q=>td σ H fun x H1=>ty σ H1 fun y H2=>∃ a v,x=.ref a∧DGet H2 a y (some v)∧Q v H2
def znY (ty td:TE):TE:=fun σ H Q=>ty σ H fun y H1=>td σ H1 fun x H2=>∃ a o,x=.ref a∧DGet H2 a y o∧Q (.bl o.isSome) H2
def zfz (td ty tv:TE):TS:=fun D σ H=>tv σ H fun v H1=>td σ H1 fun x H2=>ty σ H2 fun y H3=>∃ a H4,x=.ref a∧DPut H3 a y v H4∧D.nx σ H4
section
variable {X:Cx}{o i e value:Expr}{pos pos' tpos:Pos}{td ty tv:TE}
theorem vS (hu:X.A.units+1<cLine) (ho:PE X o td) (hi:PE X i ty) (hs:znM i):PE X (.Subscript o i pos) (zax td ty):=by
 intro pins s σ H Q I h
 refine subD_of PySem.F.slot_dict_getitem.lookup hs (thn (ho pins s σ H _ I h) fun u s1 ⟨x,H1,I1,rx,q1⟩=>thn (hi pins s1 σ H1 _ I1 q1) fun iv s2 hq0=>?_)
 obtain⟨y,H2,I2,ry,a,v,ex,g,q2⟩:=hq0
 subst ex
 obtain rfl:u=Value.ref a:=rx
 exact⟨ua I2 g,Xa hu I2 g ry fun w' s3 I3 rw'=>⟨v,H2,I3,rw',q2⟩⟩
theorem W1 (hu:X.A.units+1<cLine) (hi:PE X i ty) (ho:PE X o td):PC X .In i o (znY ty td):=by
 intro pins s σ H Q I h
 refine thn (hi pins s σ H _ I h) fun iv s1 ⟨y,H1,I1,ry,q1⟩=>thn (ho pins s1 σ H1 _ I1 q1) fun u s2 hq0=>?_
 obtain⟨x,H2,I2,rx,a,ov,ex,g,q2⟩:=hq0
 subst ex
 obtain rfl:u=Value.ref a:=rx
 exact zxp hu I2 g ry fun s3 I3=>⟨.bl ov.isSome,H2,I3,rfl,q2⟩
theorem vQ (hu:X.A.units+1<cLine) (ho:PE X o td) (hi:PE X i ty) (hv:PE X value tv) (hs:swapsWith value (some (.Subscript o i pos')) pos.line X.env=pure false) :
  PS X (.Assign [.Subscript o i pos'] value pos) (zfz td ty tv):=by
 intro pins s σ H D I h
 refine wpAny_Assign_Subscript (thn (hv pins s σ H _ I h) fun r s1 ⟨v,H1,I1,rv,q1⟩=>thn (ho pins s1 σ H1 _ I1 q1) fun u s2 ⟨x,H2,I2,rx,q2⟩=>thn (hi pins s2 σ H2 _ I2 q2) fun iv s3 hq0=>?_) hs
 obtain⟨y,H3,I3,ry,a,H4,ex,g,q3⟩:=hq0
 subst ex
 obtain rfl:u=Value.ref a:=rx
 exact Y9 hu I3 g ry rv fun s4 I4=>⟨σ,H4,I4,q3⟩
end
theorem uI {P:Program}{w:World}{H:Hp}(h:Heap) (hb:sysModules<h.objs.size):ObjOk P w H (h.push { cls:=.type "dict",data:=.dict #[] }) h.objs.size (.dK []) :=
 ⟨Nat.zero_le _,beq_eq_false_iff_ne.mpr (Ne.symm (Nat.ne_of_lt hb)),[],.nil,Heap.DictOf.new h⟩
theorem WG {P:Program}{w:World}{H:Hp}(h:Heap) (hb:sysModules<h.objs.size):ObjOk P w H (h.push { cls:=.type "dict",data:=.dict #[] }) h.objs.size (.dT []) :=
 ⟨Nat.zero_le _,beq_eq_false_iff_ne.mpr (Ne.symm (Nat.ne_of_lt hb)),[],.nil,_,#[],0,Heap.get?_push_size _ rfl,⟨rfl,rfl,rfl⟩,rfl,rfl,List.nodup_nil⟩
def WQ:TE:=fun _ H Q=>∀ p,H p=none→Q (.ref p) (upd H p (.dK []))
def zaw:TE:=fun _ H Q=>∀ p,H p=none→Q (.ref p) (upd H p (.dT []))
section
variable {X:Cx}{pos:Pos}
theorem uw:PE X (.Dict [] [] pos) WQ:=fun pins s σ H Q I h =>
 wpAny_Dict_empty ⟨.ref s.heap.objs.size,_,I.laid (a:=s.heap.objs.size) (o:=.dK []) (t':=s.toks) (fun _ _ q=>Heap.get?_push_of_some _ q) (Nat.le_refl _) (uI s.heap I.big),rfl,h _ (I.hok.fresh (Nat.le_refl _))⟩
theorem X6:PE X (.Dict [] [] pos) zaw:=fun pins s σ H Q I h =>
 wpAny_Dict_empty ⟨.ref s.heap.objs.size,_,I.laid (a:=s.heap.objs.size) (o:=.dT []) (t':=s.toks) (fun _ _ q=>Heap.get?_push_of_some _ q) (Nat.le_refl _) (WG s.heap I.big),rfl,h _ (I.hok.fresh (Nat.le_refl _))⟩
end
def ZA:List (TE×TE)→St→Hp→(List (V×V)→Hp→Prop)→Prop
 |[],_,H,Q=>Q [] H
 |(tk,tv)::r,σ,H,Q=>tk σ H fun x H1=>tv σ H1 fun y H2=>ZA r σ H2 fun ps H3=>Q ((x,y)::ps) H3
abbrev VV:List (V×V)→List (Value×Value)→Prop:=Paired fun p q=>RelV p.1 q.1∧RelV p.2 q.2
def PPs (X:Cx) (pos:Pos) (keys:List (Option Expr)) (values:List Expr) (trs:List (TE×TE)):Prop :=
 ∀ (pins:List (Addr×Obj)) (s:Shared) (σ:St) (H:Hp) (Q:List (V×V)→Hp→Prop),Inv X pins σ H s→ZA trs σ H Q →
  wpAny (model X.prog X.w) X.A (evalPairs (pairTrees keys values X.env pos)) (fun vs s'=>∃ ps H',Inv X pins σ H' s'∧VV ps vs∧Q ps H') X.xe s
theorem Vt {X:Cx}{pos:Pos}:PPs X pos [] [] []:=fun pins s σ H Q I h=>pairTrees_nil_walk ⟨[],H,I,.nil,h⟩
theorem XZ {X:Cx}{pos:Pos}{k v:Expr}{ks:List (Option Expr)}{vs:List Expr}{tk tv:TE}{trs:List (TE×TE)}(hk:PE X k tk) (hv:PE X v tv) (hr:PPs X pos ks vs trs) :
  PPs X pos (some k::ks) (v::vs) ((tk,tv)::trs):=fun pins s σ H Q I h =>
 pairTrees_cons_walk (thn (hk pins s σ H _ I h) fun u s1 ⟨x,H1,I1,rx,q1⟩=>thn (hv pins s1 σ H1 _ I1 q1) fun w2 s2 ⟨y,H2,I2,ry,q2⟩ =>
  thn (hr pins s2 σ H2 _ I2 q2) fun ws s3 ⟨ps,H3,I3,rel,q3⟩=>⟨(x,y)::ps,H3,I3,.cons ⟨rx,ry⟩ rel,q3⟩)
def mergeK (kvs more:List (Key×V)):List (Key×V):=more.foldl (fun acc kv=>putK acc kv.1 kv.2) kvs
theorem KV.merge:∀ {more:List (Key×V)}{rs:List (Key×Value)}{kvs:List (Key×V)}{vs:List (Key×Value)},KV more rs→KV kvs vs→KV (mergeK kvs more) (merged vs rs):=by
 intro more rs kvs vs r
 unfold KV at r
 induction r generalizing kvs vs with
 |nil=>intro q;exact q
 | @cons p q ps qs h t ih =>
  intro r0
  have e:KV (putK kvs p.1 p.2) (stored vs q.1 q.2):=by
   have:=r0.put p.1 h.2
   rw[← h.1];exact this
  exact ih e
theorem yX:∀ (more kvs:List (Key×V)),(mergeK kvs more).length≤kvs.length+more.length
 |[],kvs=>by show kvs.length≤kvs.length+0;omega
 |p::r,kvs=>by
  have h1:=yX r (putK kvs p.1 p.2)
  have h2:=yL kvs p.1 p.2
  show(mergeK (putK kvs p.1 p.2) r).length≤_
  rw[List.length_cons];omega
theorem wj {P:Program}{w:World}:∀ {kvs:List (Key×V)}{ws:List (Value×Value)},VV (kvs.map fun kv=>(kV kv.1,kv.2)) ws→∃ rs,Carries (zu P w) ws rs∧KV kvs rs
 |[],_,r=>by rw[List.map_nil] at r;cases r;exact⟨[],True.intro,.nil⟩
 |p::kvs,_,r=>by
  rw[List.map_cons] at r
  cases r with
  | @cons a b as bs h t =>
   obtain⟨rs,c,q⟩:=wj (P:=P) (w:=w) t
   obtain⟨b1,b2⟩:=b
   exact⟨(p.1,b2)::rs,⟨Zb h.1,rfl,c⟩,.cons ⟨rfl,h.2⟩ q⟩
def zau (trs:List (TE×TE)):TE:=fun σ H Q=>∀ p,H p=none→ZA trs σ (upd H p (.dK [])) fun ps H2=>H2 p=some (.dK [])∧∃ kvs:List (Key×V),ps=kvs.map (fun kv=>(kV kv.1,kv.2))∧kvs.length≤15∧Q (.ref p) (upd H2 p (.dK (mergeK [] kvs)))
theorem VB {X:Cx}{pos:Pos}{keys:List (Option Expr)}{values:List Expr}{trs:List (TE×TE)}(h:PPs X pos keys values trs) (hall:keys.all (·.isSome)=true) (hl:keys.length=values.length) (h0:keys≠[])
  (h15:keys.length≤15):PE X (.Dict keys values pos) (zau trs):=by
 intro pins s σ H Q I q
 have hn:=I.hok.fresh (Nat.le_refl s.heap.objs.size)
 have I1:=I.laid (a:=s.heap.objs.size) (o:=.dK []) (h':=s.heap.push { cls:=.type "dict",data:=.dict #[] }) (t':=s.toks) (fun _ _ q=>Heap.get?_push_of_some _ q) (Nat.le_refl _) (uI s.heap I.big)
 refine wpAny_Dict_walk (knd:=zu X.prog X.w) hall hl h0 h15 (thn (h pins _ σ _ _ I1 (q _ hn)) fun ws s2 hq0=>?_)
 obtain⟨ps,H2,I2,rel,e,kvs,ep,lk,q2⟩:=hq0
 subst ep
 obtain⟨rs,c,rk⟩:=wj (P:=X.prog) (w:=X.w) rel
 obtain⟨z,hd,vs0,r0,dd⟩:=vz I2.hok e
 cases r0
 refine⟨rs,c,dd,fun h' dd' hs=>⟨.ref s.heap.objs.size,_,?_,rfl,q2⟩⟩
 have hz:(mergeK [] kvs).length≤sizeLine:=by
  have h1:=yX kvs []
  rw[List.length_nil] at h1
  rw[sizeLine_eq];omega
 have he:∃ q,h'.get? s.heap.objs.size=some q:=let ⟨q,_,_,hq,_⟩:=dd';⟨q,hq⟩
 exact xR I2 (by rw[e];exact True.intro) hs he (wf hz hd (rk.merge .nil) dd')
structure M1 (X:Cx) (o:Expr) (m:Str) (apos:Pos) (e:Expr) (cpos:Pos):Prop where
 base:attributeBase o m X.env (eval o X.env)=eval o X.env
 few:((backTo cpos (starEach [e] X.env)).all (fun x=>!x.1)&&(backToKw cpos (keywordEach [] X.env)).all (fun x=>x.1.isSome)
  && decide (([e]:List Expr).length+([]:List Keyword).length+(if ([]:List Keyword).isEmpty then 0 else 1)<30))=true
 line:(apos.endLine == cpos.line)=true
 trees:backTo cpos (starEach [e] X.env)=[(false,eval e X.env)]
def IsD (H:Hp) (a:Addr):Prop:=(∃ kvs,Rd H a (.dK kvs))∨∃ kvs,Rd H a (.dT kvs)
theorem uF {X:Cx}{pins:List (Addr×Obj)}{σ:St}{H:Hp}{s:Shared}{a:Addr}(I:Inv X pins σ H s) (d:IsD H a) :
  s.TypeIs (.ref a) "dict" ∧ (∀ b,Value.ref a=.ref b→∃ ob,s.heap.get? b=some ob∧ob.dict=none)∧(a == sysModules)=false:=by
 rcases d with⟨kvs,e⟩ | ⟨kvs,e⟩
 ·obtain⟨_,hd,vs,_,dd⟩:=Ze I.hok e
  refine⟨dd.typeIs,fun b q=>?_,hd⟩
  cases q
  obtain⟨ob,_,_,h1,h2,_⟩:=dd
  exact⟨ob,h1,h2.2.1⟩
 ·obtain⟨_,hd,xs,_,dd⟩:=Y5 I.hok e
  refine⟨dd.typeIs,fun b q=>?_,hd⟩
  cases q
  obtain⟨ob,_,_,h1,h2,_⟩:=dd
  exact⟨ob,h1,h2.2.1⟩
section
variable {X:Cx}{pins:List (Addr×Obj)}{σ:St}{H:Hp}{s:Shared}{a:Addr}{kvs:List (Key×V)}{A:Around}{E:Value→Shared→Prop}
theorem WH {Q:Value→Shared→Prop}(I:Inv X pins σ H s) (e:Rd H a (.dK kvs)) (h:∀ p s',H p=none→Inv X pins σ (upd H p (.dK kvs)) s'→Q (.ref p) s'):wpAny (model X.prog X.w) A (call (.type "dict") [.ref a]) Q E s:=by
 obtain⟨z,hd,vs,rel,dd⟩:=Ze I.hok e
 refine kt_call_dict hd dd (by rw[← rel.length];exact z) fun h' dd' hs=>?_
 refine h _ _ (I.hok.fresh (Nat.le_refl _)) (I.laid (a:=s.heap.objs.size) (o:=.dK kvs) (t':=s.toks) (fun b q hq=>?_) (Nat.le_refl _) (wf z (beq_eq_false_iff_ne.mpr (Ne.symm (Nat.ne_of_lt I.big))) rel dd'))
 exact(hs.2 b (Nat.ne_of_lt (Heap.lt_size hq))).trans (Heap.get?_push_of_some _ hq)
end
end L2
namespace Att
open PySem PySem.W PySem.Calls PyProof.Rows
theorem xP {P:Params}{h:Heap}:∀ (ns:List Int) (vs:List Value),WellAll P h vs (ns.map WData.int)→IntsAre vs ns:=by
 intro ns
 induction ns with
 |nil =>
  intro vs w
  rw[List.map_nil] at w
  cases w
  exact .nil
 |cons n ns ih =>
  intro vs w
  rw[List.map_cons] at w
  cases w with
  |cons a b =>
   cases a
   exact .cons _ _ (ih _ b)
theorem Yv {l:OpenLaw}{n:Nat}(hn:l.most=some n){P:Params}{h:Heap}{args:List WData}{vals:List Value}
  (hpre:l.row.toRowW.claim.pre args=true) (hwl:WellAll P h vals args) :
  ∃ a vs ns,vals=[Value.ref a]∧args=[WData.list (ns.map WData.int)]∧h.get? a=some { cls:=.type "list",data:=.seq vs.toArray }∧IntsAre vs ns∧ns.length≤n:=by
 have hsh:WShape.hasAll [] args [.list .int]=true:=(pre_splitW hpre).1
 have hc:l.pre.holds [] { args:=args }=true:=(pre_splitW hpre).2
 obtain⟨d,r,rfl,h1,h2⟩:=hasAllW_cons hsh
 obtain rfl:=hasAllW_nil h2
 obtain⟨xs,rfl,h3⟩:=hasW_list h1
 obtain⟨ns,rfl⟩:=items_int h3
 have hlen:ns.length≤n:=by
  unfold OpenLaw.pre at hc
  have h4:(WTm.not (.lt (.lit (.int (n:Int))) (.len (.arg 0)))).holds [] { args:=[.list (ns.map .int)] }=true:=by
   have h4:=(holds_andW hc).1
   rw[hn] at h4
   exact h4
  have h5:=condW_of h4 (w_not (w_lt w_lit (w_len_list (w_arg rfl))))
  rw[List.length_map] at h5
  refine Nat.le_of_not_lt fun q=>?_
  have q':(n:Int)<((ns.length:Nat):Int):=by omega
  first
   |(rw[decide_eq_true q'] at h5;exact absurd h5 (by decide))
   |(simp at h5;omega)
 cases hwl with
 |cons w1 w2 =>
  cases w2
  cases w1 with
  |list ho hall=>exact⟨_,_,ns,rfl,rfl,ho,xP ns _ hall,hlen⟩
theorem Yx (l:OpenLaw) (args:List WData):l.row.toRowW.claim.post args (.bool true) args=true :=
 postW_of (r:=l.row.toRowW) (X:=(true == true))
  (show WShape.has [] (.bool true) .bool=true by first | rfl | decide | simp[WShape.has,WShape.arms,WShape.armsAll])
  (show(WTm.eq .res (.lit (.bool true))).value [] { args:=args,res:=some (.bool true),after:=args }=some (.bool (true == true)) from w_eq_bool (w_res rfl) w_lit) rfl
theorem attach_call {l:OpenLaw}{n:Nat}{q:Program}{loose:List Str}{XP:(Str→Option Value)→Heap→Prop}{YP:World→Heap→Prop}{d:DefRec}
  (hn:l.most=some n) (hdf:d.params.defaults=[])
  (call:∀ (w:World) (s₀ s₁:Shared) (mg mb:Str→Option Value) (fa:Addr) (o:Obj) (pm cd doc:Value) (a:Addr) (vs:List Value) (ns:List Int),
   Ground q loose [] XP w s₀ mg mb s₁.heap→YP w s₁.heap →
   s₁.heap.get? fa=some o→o.data=.func (docDef d.name d.params d.body d.scope pm cd doc)→s₁.heap.CodeRec cd d.name→mg d.name=some (.ref fa) →
   s₁.heap.get? a=some { cls:=.type "list",data:=.seq vs.toArray }→IntsAre vs ns→ns.length≤n→s₁.gens = #[] →
   codeAny (model l.prog w) callerA (.call (.ref fa) ⟨[.ref a],[]⟩) (fun r s'=>r=.ok (.ret (.bool true))∧OldK s₁.heap s'.heap∧s'.os=s₁.os∧AllBare s'.gens) s₁) :
  WalkO q loose XP YP l.row.toRowW d [] (fun f vs=>PySem.call f vs):=by
 intro w s₀ s₁ mg mb G Y fa o pm cd doc dV kV ho hd hcd hD hmg hg args vals as hpre hlay hrd hwl hlo
 obtain rfl:dV=.none:=Dflts.none hD hdf
 obtain rfl:kV=.none:=Dflts.noKw hD
 obtain⟨a,vs,ns,rfl,rfl,hobj,hints,hlen⟩:=Yv hn hpre hwl
 refine enter_call (codeAny_mono (call w s₀ s₁ mg mb fa o pm cd doc a vs ns G Y ho (fd_plain hd) hcd hmg hobj hints hlen hg) fun r s' hq=>?_)
 obtain⟨rfl,h2,h3,h4⟩:=hq
 exact⟨.inl ⟨.bool true,.bool true,[],rfl,fun _=>rfl,.bool true,Yx l _,fun _=>⟨List.Pairwise.nil,fun _ hm=>(nomatch hm)⟩⟩,h2,h3,h4⟩
end Att
namespace L2
open PySem PySem.Spec PyProof.Rows
theorem wV:∀ {vs:List Value}{ns:List Int},IntsAre vs ns→Vals (ns.map V.int) vs
 |_,_,.nil=>.nil
 |_,_,.cons n t h=>.cons ⟨t,rfl⟩ (wV h)
def zhi (H:Hp):Prop:=∀ b,H b=none∨∃ o xs,H b=some (.frz o (.lst xs))
theorem Wu {P:Program}{w:World}{K:PySem.W.Frag}{mg mb:Str→Option Value}{CX:CXT}{k:Nat}{fa a:Addr}{fd:FuncData}{x:Str}{sp:Sp}{s₁:Shared}{vs:List Value}{ns:List Int}
  (KX:K.In s₁.heap) (hns:s₁.heap.Ns mainGlobals mg) (hb:s₁.heap.Ns builtinsNs mb) (hbb:∀ x:Str,x ≠ "__name__" → mb x=bootBuiltins x) (hlim:s₁.heap.NoLimit) (hg:s₁.gens = #[])
  (ha:s₁.heap.get? a=some { cls:=.type "list",data:=.seq vs.toArray }) (hi:IntsAre vs ns) (hl:ns.length≤sizeLine) (hr:Room k callerA)
  (F:∀ base:Heap,K.In base→base.Ns mainGlobals mg→FnOk P w K mg base CX k fa fd [x] sp) (hbind:∀ (s:Shared) (u:Value),BindsTo s fd ⟨[u],[]⟩ [(x,u)])
  (hsp:∀ H:Hp,zhi H→SqL K H a (ns.map V.int)→sp [.ref a] H (fun v _=>v=.bl true) fun _ _ _=>False)
  (hCX:∀ H e s',CX [] H s₁ (fun _ _ _=>False) e s'→False) :
  codeAny (model P w) callerA (.call (.ref fa) ⟨[.ref a],[]⟩) (fun r s'=>r=.ok (.ret (.bool true))∧OldK s₁.heap s'.heap∧s'.os=s₁.os∧AllBare s'.gens) s₁:=by
 have rv:=wV hi
 have lenV:=hi.length
 -- from an abstract heap in which nothing but the script may be tracked
 have core:∀ H:Hp,zhi H→SqL K H a (ns.map V.int)→HOk P w H s₁.heap→(∀ b,H b≠none→b=a)→(H a≠none→K.lookup a=none) →
   codeAny (model P w) callerA (.call (.ref fa) ⟨[.ref a],[]⟩) (fun r s'=>r=.ok (.ret (.bool true))∧OldK s₁.heap s'.heap∧s'.os=s₁.os∧AllBare s'.gens) s₁:=by
  intro H hO hS hok hA hK
  have base_of:∀ {b:Addr}{o:Obj},s₁.heap.get? b=some o→H b=none→(WC s₁.heap H).get? b=some o:=fun e n=>WB e n
  have noA:∀ {b:Addr}{o:Obj}{es:Array DictEntry}{ep:Nat},s₁.heap.get? b=some o→o.data=.dict es ep→H b=none:=fun {b o es ep} e d=>by
   cases q:H b with
   |none=>rfl
   |some u =>
    have e':b=a:=hA b (by rw[q];simp)
    subst e'
    rw[ha] at e;cases e
    have d':Data.seq vs.toArray _=Data.dict es ep:=d
    cases d'
  have nsK:∀ {b:Addr}{m:Str→Option Value},s₁.heap.Ns b m→(WC s₁.heap H).Ns b m:=fun {b m} ⟨o,es,ep,e,d,r⟩=>⟨o,es,ep,base_of e (noA e d),d,r⟩
  have hKb:K.In (WC s₁.heap H):=fun b o e=>base_of (KX b o e) (by
   cases q:H b with
   |none=>rfl
   |some u =>
    have e':b=a:=hA b (by rw[q];simp)
    subst e'
    rw[hK (by rw[q];simp)] at e;cases e)
  have hM:Mod K mg (WC s₁.heap H):=⟨hKb,nsK hns,⟨mb,nsK hb,hbb⟩,let ⟨mc,h1,h2⟩:=hlim;⟨mc,nsK h1,h2⟩⟩
  have e0:Env0 P w K mg (WC s₁.heap H) callerA [] s₁ H:=⟨rfl,hM,fun b o e=>VQ e,Nat.le_of_eq (Y2 _ _),trivial,fun b hb=>absurd (show b∈([]:List Addr) from hb) (by simp),hok,.of_eq hg⟩
  refine codeAny_mono ((F _ hKb (nsK hns)).run callerA [] s₁ H ⟨[.ref a],[]⟩ [.ref a] [.ref a] _ _ hr e0 (hbind s₁ (.ref a)) (.cons rfl .nil) (hsp H hO hS)) fun r s' h=>?_
  cases r with
  |error e=>exact(hCX H e s' h).elim
  |ok fl =>
   cases fl with
   |next=>exact False.elim h
   |brk=>exact False.elim h
   |cont=>exact False.elim h
   |ret u =>
    obtain⟨v,H',os,bare,un,hok',r',q⟩:=h
    have q':v=.bl true:=q
    subst q'
    obtain rfl:u=Value.bool true:=r'
    refine⟨rfl,OldK.of_keep fun b o e=>?_,os,bare⟩
    cases q:H b with
    |none=>exact un.keep b o e q (by intro z;exact absurd (show b∈([]:List Addr) from z) (by simp)) (by simp)
    |some u =>
     rcases hO b with z | ⟨ob,xs,z⟩
     ·rw[q] at z;cases z
     ·have z2:=un.frzs b ob _ z
      obtain⟨e1,_⟩:=hok b _ z
      obtain⟨e2,_⟩:=hok' b _ z2
      rw[e] at e1;cases e1
      exact e2
 cases hk:K.lookup a with
 |some o =>
  -- the script is one of the module's own objects
  have e:=KX a o hk
  rw[ha] at e
  cases e
  refine core (fun _=>none) (fun _=>.inl rfl) (.inr ⟨_,vs.toArray,_,hk,rfl,rfl,rfl,by rw[List.size_toArray,lenV];exact hl,by simpa using rv⟩) (fun b u z=>by have z':(none:Option HO)=some u:=z;cases z') (fun b z=>absurd rfl z) fun z=>absurd rfl z
 |none =>
  refine core (fun b=>if b=a then some (.frz { cls:=.type "list",data:=.seq vs.toArray } (.lst (ns.map V.int))) else none) (fun b=>?_) (.inl (.inr ⟨{ cls:=.type "list",data:=.seq vs.toArray },if_pos rfl⟩)) (fun b u z=>?_) (fun b z=>?_) fun _=>hk
  ·by_cases hb:b=a
   ·exact .inr ⟨_,_,if_pos hb⟩
   ·exact .inl (if_neg hb)
  ·by_cases hb:b=a
   ·have z':=(if_pos hb).symm.trans z
    cases z'
    subst hb
    exact⟨ha,by rw[List.length_map];exact hl,vs,_,rv,ha⟩
   ·have z':=(if_neg hb).symm.trans z
    cases z'
  ·by_cases hb:b=a
   ·exact hb
   ·exact absurd (if_neg hb) z
noncomputable abbrev KOf {K:PySem.W.Frag}{h:Heap}(_:K.In h):PySem.W.Frag:=K
theorem Vc {l:PySem.W.OpenLaw}{n k:Nat}{q:Program}{loose:List Str}{XP:(Str→Option Value)→Heap→Prop}{YP:World→Heap→Prop}{d:DefRec}{K:Params→PySem.W.Frag}{CX:World→CXT}{sp:World→Sp}{x:Str}
  (hn:l.most=some n) (hn2:n≤sizeLine) (hdf:d.params.defaults=[]) (hr:Room k callerA)
  (hY:∀ (w:World) (h:Heap),YP w h→(K w.params).In h)
  (F:∀ (w:World) (mg:Str→Option Value) (fa:Addr) (h:Heap),(K w.params).In h→h.Ns mainGlobals mg→mg d.name=some (.ref fa) →
   ∃ fd:FuncData,(∀ (s:Shared) (u:Value),BindsTo s fd ⟨[u],[]⟩ [(x,u)]) ∧
    ∀ base:Heap,(K w.params).In base→base.Ns mainGlobals mg→FnOk l.prog w (K w.params) mg base (CX w) k fa fd [x] (sp w))
  (hsp:∀ (w:World) (H:Hp) (a:Addr) (ns:List Int),ns.length≤n→zhi H→SqL (K w.params) H a (ns.map V.int)→sp w [.ref a] H (fun v _=>v=.bl true) fun _ _ _=>False)
  (hCX:∀ (w:World) (H:Hp) (s:Shared) (e:Value) (s':Shared),CX w [] H s (fun _ _ _=>False) e s'→False) :
  PySem.W.WalkO q loose XP YP l.row.toRowW d [] (fun f vs=>PySem.call f vs):=by
 refine Att.attach_call hn hdf fun w s₀ s₁ mg mb fa o pm cd doc a vs ns G Y ho hd hcd hmg hobj hints hlen hg=>?_
 have KX:=hY w _ Y
 obtain⟨fd,hb,hF⟩:=F w mg fa _ KX G.T.g hmg
 exact Wu KX G.T.g G.T.b G.T.builtins G.T.nolimit hg hobj hints (Nat.le_trans hlen hn2) hr hF hb (fun H hO hS=>hsp w H a ns hlen hO hS) fun H e s'=>hCX w H s₁ e s'
theorem walk_ofK {l:PySem.W.OpenLaw}{n k:Nat}{q:Program}{loose:List Str}{XP:(Str→Option Value)→Heap→Prop}{YP:World→Heap→Prop}{d:DefRec}{K:Params→PySem.W.Frag}{CX:CXT}{sp:PySem.W.Frag→Sp}{x:Str}
  (hn:l.most=some n) (hn2:n≤sizeLine) (hdf:d.params.defaults=[]) (hr:Room k callerA)
  (hY:∀ (w:World) (h:Heap),YP w h→(K w.params).In h)
  (F:∀ (w:World) (mg:Str→Option Value) (fa:Addr) (h:Heap),(K w.params).In h→h.Ns mainGlobals mg→mg d.name=some (.ref fa) →
   ∃ fd:FuncData,(∀ (s:Shared) (u:Value),BindsTo s fd ⟨[u],[]⟩ [(x,u)]) ∧
    ∀ base:Heap,(K w.params).In base→base.Ns mainGlobals mg→FnOk l.prog w (K w.params) mg base CX k fa fd [x] (sp (K w.params)))
  (hsp:∀ (K:PySem.W.Frag) (H:Hp) (a:Addr) (ns:List Int),ns.length≤n→zhi H→SqL K H a (ns.map V.int)→sp K [.ref a] H (fun v _=>v=.bl true) fun _ _ _=>False)
  (hCX:∀ (H:Hp) (s:Shared) (e:Value) (s':Shared),CX [] H s (fun _ _ _=>False) e s'→False) :
  PySem.W.WalkO q loose XP YP l.row.toRowW d [] (fun f vs=>PySem.call f vs) :=
 Vc (K:=K) (CX:=fun _=>CX) (sp:=fun w=>sp (K w.params)) hn hn2 hdf hr hY F (fun w H a ns h1 h2 h3=>hsp (K w.params) H a ns h1 h2 h3) fun _ H s e s'=>hCX H s e s'
noncomputable def inClass (s:Stmt) (j:Nat):Stmt:=match s with
 |.ClassDef _ _ _ body _ _ _ _ _ _ _=>body.getD j (.Pass ⟨0,0,0,0⟩)
 |_=>.Pass ⟨0,0,0,0⟩
noncomputable def defArgs (s:Stmt):Arguments:=match s with
 |.FunctionDef _ a _ _ _ _ _ _ _ _=>a
 |_=>{ posonlyargs:=[],args:=[],vararg:=none,kwonlyargs:=[],kw_defaults:=[],kwarg:=none,defaults:=[] }
noncomputable def defBody (s:Stmt):List Stmt:=match s with
 |.FunctionDef _ _ b _ _ _ _ _ _ _=>b
 |_=>[]
noncomputable def defScope (s:Stmt):Scope:=match s with
 |.FunctionDef _ _ _ _ _ _ sc _ _ _=>sc
 |_=>{ kind:=.function,names:=[],isGenerator:=false,isCoroutine:=false }
abbrev CX0:CXT:=fun _ _ _ _ _ _=>False
abbrev E0:XK:=fun _ _ _=>False
theorem YE {X:Cx}:y8 CX0 X E0:=fun _ _ _ _ _ _ _ h=>h.elim
structure Fun (K:PySem.W.Frag) (x qual:Str) (st:Stmt) (f:Addr) (fd:FuncData):Prop where
 ex:∃ (oc:Value) (od:Option Addr) (kV doc pm:Value) (an:Option Addr) (cdv ct:Value) (osl:Array (Option Value)),
  fd=PySem.W.fnOf x qual (defArgs st) (defBody st) (defScope st) .none kV doc pm an cdv ct∧K.lookup f=some ⟨oc,od,.func fd,osl⟩∧PySem.W.codeIn K cdv qual=true
 kp:PySem.W.keepIn K (.ref f)=true
section
variable {P:Program}{w:World}{K:PySem.W.Frag}{mg:Str→Option Value}{base:Heap}
theorem Fun.ok {x qual:Str}{st:Stmt}{f:Addr}{fd:FuncData}{N ps:List Str}{k:Nat}{sp:Sp}(F:Fun K x qual st f fd) (S:FnScope N ps (defScope st)) (len:∀ vs H Q E,sp vs H Q E→vs.length=ps.length)
  (hbody:∀ (cdv:Value) (A:Around) (outer:List Env) (s:Shared) (H:Hp) (vs:List V) (Q:VK) (E:XK),Room k (A.deeper (envOfC qual (defScope st) s.heap.objs.size f cdv))→sp vs H Q E →
   ∃ t,PSs (U9 CX0 P w K mg base N qual (defScope st) f cdv A outer s H E).nox (defBody st) t∧t { nx:=fun _ H'=>Q .non H',rt:=Q } (start N vs) H):FnOk P w K mg base CX0 (k+1) f fd ps sp:=by
 obtain⟨oc,od,kV,doc,pm,an,cdv,ct,osl,rfl,lk,hcd⟩:=F.ex
 refine znG lk hcd S len fun A outer s H vs Q E hr hsp=>?_
 obtain⟨t,h,q⟩:=hbody cdv A outer s H vs Q E hr hsp
 exact⟨t,h.nox,q⟩
theorem Fun.binds {x qual:Str}{st:Stmt}{f:Addr}{fd:FuncData}{ps:List Str}(F:Fun K x qual st f fd)
  (h:∀ (kV doc pm:Value) (an:Option Addr) (cdv ct:Value) (us:List Value),us.length=ps.length→bindArgs (PySem.W.fnOf x qual (defArgs st) (defBody st) (defScope st) .none kV doc pm an cdv ct) ⟨us,[]⟩=pure (ps.zip us)):Binds K fd ps []:=by
 obtain⟨oc,od,kV,doc,pm,an,cdv,ct,osl,rfl,lk,hcd⟩:=F.ex
 exact .all (h kV doc pm an cdv ct)
theorem zo {x qual:Str}{st:Stmt}{f:Addr}{oc:Value}{od an:Option Addr}{osl:Array (Option Value)}{kV doc pm cdv ct:Value}(l:K.lookup f=some ⟨oc,od,.func (PySem.W.fnOf x qual (defArgs st) (defBody st) (defScope st) .none kV doc pm an cdv ct),osl⟩)
  (c:PySem.W.codeIn K cdv qual=true) (k:PySem.W.keepIn K (.ref f)=true):Fun K x qual st f (PySem.W.fnOf x qual (defArgs st) (defBody st) (defScope st) .none kV doc pm an cdv ct):=⟨⟨oc,od,kV,doc,pm,an,cdv,ct,osl,rfl,l,c⟩,k⟩
end
theorem xp {A:Around}{k:Nat}(hr:Room k A):A.units+1<cLine:=Nat.lt_of_le_of_lt (Nat.add_le_add_left (by decide:1≤64) _) hr.units
theorem zm {n:Nat}(h:n≤1000):n<sizeLine:=Nat.lt_of_le_of_lt h (by decide)
section
variable {X:Cx}
theorem pv (i:Nat){x:Str}{pos:Pos}(hN:X.N[i]?=some x:=by rfl) (hv:Vis X.env.scope x:=by first | exact Or.inl rfl | exact Or.inr (Or.inl rfl) | exact Or.inr (Or.inr rfl)) (hd:(x == ("__debug__" : Str))=false:=by decide)
  (hcd:(x == ("__classdict__" : Str))=false:=by decide):PE X (.Name x pos) (ziy i):=zfL hN hv hd hcd
end
theorem vG {A B:Prop}(h:B):if false=true then A else B:=by
 rw[if_neg Bool.false_ne_true]
 exact h
theorem XF {A B:Prop}(h:A):if true=true then A else B:=by
 rw[if_pos rfl]
 exact h
theorem ite2 {c A B:Prop} [Decidable c] (h1:c→A) (h2:¬ c→B):if c then A else B:=by
 by_cases h:c
 ·rw[if_pos h]
  exact h1 h
 ·rw[if_neg h]
  exact h2 h
def Same (H H':Hp):Prop:=∀ b o,H b=some o→H' b=some o
theorem Same.refl (H:Hp):Same H H:=fun _ _ h=>h
theorem Same.trans {H H1 H2:Hp}(a:Same H H1) (b:Same H1 H2):Same H H2:=fun c o h=>b c o (a c o h)
theorem Same.free {H H':Hp}(e:Same H H'){l:Addr}(h:H' l=Option.none):H l=Option.none:=by
 cases q:H l with
 |none=>rfl
 |some o =>
  rw[e l o q] at h
  cases h
end L2
set_option maxHeartbeats 4000000
namespace L2
open PySem PySem.Spec PyProof.Rows
def zal (t u:TS):TS:=fun D σ H=>∃ M:St→Hp→Prop,t { D with nx:=M } σ H∧∀ σ' H',M σ' H'→u D σ' H'
theorem Vp {X:Cx}{st:Stmt}{rest:List Stmt}{t u:TS}(h1:PS X st t) (h2:PSs X rest u):PSs X (st::rest) (zal t u):=by
 intro pins s σ H D I h
 obtain⟨M,h,hM⟩:=h
 refine wpAny_execs_cons (thn (h1 pins s σ H { D with nx:=M } I h) fun f s1 q=>?_)
 cases f with
 |next =>
  obtain⟨σ',H',I',q⟩:=q
  exact h2 pins s1 σ' H' D I' (hM σ' H' q)
 |brk=>exact q
 |cont=>exact q
 |ret u=>exact q
theorem iteB {c:Bool}{A B:Prop}(hc:c=true) (h:A):if c=true then A else B:=by rw[if_pos hc];exact h
theorem yh {c:Bool}{A B:Prop}(hc:c=false) (h:B):if c=true then A else B:=by rw[hc];exact vG h
def PTs (X:Cx) (ifs:List Expr) (t:TT):Prop :=
 ∀ (pins:List (Addr×Obj)) (s:Shared) (σ:St) (H:Hp) (Q:Bool→Hp→Prop),Inv X pins σ H s→t σ H Q →
  wpAny (model X.prog X.w) X.A (forIn ifs true fun c r=>if r=true then do let ok ← isTrue c X.env (eval c X.env);pure (ForInStep.yield ok) else pure (ForInStep.yield r)) (TP X pins σ Q) X.xe s
def zhk:TT:=fun _ H Q=>Q true H
theorem Vo {X:Cx}:PTs X [] zhk:=fun _ _ _ H _ I h=>wpAny_tests_nil ⟨H,I,h⟩
section
variable {prog:Program}{w:World}{A:Around}{R:Result→Shared→Prop}{s:Shared}
abbrev NoE:Value→Shared→Prop:=fun _ _=>False
theorem zj9 {α:Type}{m:Sem α}{Q:α→Shared→Prop}{E:Value→Shared→Prop}{s:Shared}(h:wpAny (model prog w) A m Q NoE s):wpAny (model prog w) A m Q E s :=
 wpAny_mono h (fun _ _ q=>q) fun _ _ z=>z.elim
def Xn (prog:Program) (w:World) (A:Around) (env:Env) (tg:Expr) (ifs:List Expr) (elt:Expr) (it acc:Value) (again:Shared→Prop) (v:Value) (s1:Shared):Prop :=
 wpAny (model prog w) A (letOwnedTupleGo tg it v) (fun _ s2=>wpAny (model prog w) A (assign tg env v) (fun _ s3 =>
  wpAny (model prog w) A (forIn ifs true fun c r=>if r=true then do let ok ← isTrue c env (eval c env);pure (ForInStep.yield ok) else pure (ForInStep.yield r)) (fun ok s4 =>
   if ok=true then wpAny (model prog w) A (eval elt env) (fun x s5=>wpAny (model prog w) A (call (.builtin "list.append") [acc,x]) (fun _ s6=>again s6) NoE s5) NoE s4
   else again s4) NoE s3) NoE s2) NoE s1
theorem Zh {elt tg iter:Expr}{ifs:List Expr}{scope:Scope}{pos:Pos}{it acc:Value}{env:Env}(J:Nat→Shared→Prop)
  (turn:∀ n s,J n s→wpAny (model prog w) A (pyNext it) (fun r s1=>match r with
   |none=>R (.ok .next) s1
   |some v=>Xn prog w A env tg ifs elt it acc (fun s6=>∃ m,m<n∧J m s6) v s1) NoE s)
  (n:Nat) (h:J n s):codeAny (model prog w) A (.compLoop (.ListComp elt [⟨tg,iter,ifs,0⟩] scope pos) 0 it acc env) R s:=by
 refine codeAny_loop rfl J (fun n s hJ=>?_) n h
 show wpAny _ A ((compTurn (.ListComp elt [⟨tg,iter,ifs,0⟩] scope pos) 0 it acc env).onRaise (fun x=>do noteFrame x env;theTreesLotGoes x)) _ _ s
 refine wpAny_noted (zj9 ?_)
 rw[compTurn_list]
 refine wpAny_bind (wpAny_standAt (wpAny_bind (thn (turn n s hJ) fun r s1 h1=>?_)))
 cases r with
 |none=>exact wpAny_pure h1
 |some v =>
  refine wpAny_bind (thn h1 fun _ s2 h2=>wpAny_bind (thn h2 fun _ s3 h3=>wpAny_bind (thn h3 fun ok s4 h4=>?_)))
  cases ok with
  |false=>exact wpAny_pure ⟨rfl,h4⟩
  |true=>exact wpAny_bind (wpAny_bind (thn h4 fun x s5 h5=>wpAny_bind (thn h5 fun _ s6 h6=>wpAny_pure (wpAny_pure ⟨rfl,h6⟩))))
end
theorem uc {env:Env}:∀ (names:List (Str×NameKind)) (acc:List (Str×Addr)),(∀ y∈names,y.2=.free→∃ c,env.cells.lookup y.1=some c)→(∀ x c,acc.lookup x=some c→env.cells.lookup x=some c) →
  ∃ cl,(forIn names acc (fun(y:Str×NameKind) (cs:List (Str×Addr))=>(if (y.2 == NameKind.free)=true then(do let c ← cellOf env y.1;pure (ForInStep.yield ((y.1,c)::cs))) else pure (ForInStep.yield cs):Sem (ForInStep (List (Str×Addr))))))=(pure cl:Sem (List (Str×Addr))) ∧
   (∀ x c,cl.lookup x=some c→env.cells.lookup x=some c)∧(∀ x,(acc.lookup x).isSome=true→(cl.lookup x).isSome=true)∧(∀ y∈names,y.2=.free→(cl.lookup y.1).isSome=true)
 |[],acc,_,h2=>⟨acc,rfl,h2,fun _ h=>h,fun y hy=>by cases hy⟩
 |(n,k)::r,acc,h1,h2=>by
  have h1':∀ y∈r,y.2=.free→∃ c,env.cells.lookup y.1=some c:=fun y hy=>h1 y (List.mem_cons_of_mem _ hy)
  by_cases hk:k=.free
  ·subst hk
   obtain⟨c,hc⟩:=h1 (n,.free) List.mem_cons_self rfl
   have h2':∀ x c',(((n,c)::acc:List (Str×Addr)).lookup x)=some c'→env.cells.lookup x=some c':=fun x c' e=>by
    rw[List.lookup_cons] at e
    by_cases hx:(x == n)=true
    ·rw[hx] at e
     cases e
     rw[beq_iff_eq.mp hx]
     exact hc
    ·rw[Bool.not_eq_true] at hx
     rw[hx] at e
     exact h2 x c' e
   obtain⟨cl,e,p1,p2,p3⟩:=uc r ((n,c)::acc) h1' h2'
   refine⟨cl,?_,p1,fun x hx=>p2 x ?_,fun y hy hf=>?_⟩
   ·rw[List.forIn_cons]
    have q:cellOf env n=pure c:=by unfold cellOf;rw[hc]
    simp only[beq_self_eq_true,if_true,q,pure_bind]
    exact e
   ·rw[List.lookup_cons]
    cases q:x == n with
    |true=>rfl
    |false=>exact hx
   ·rcases List.mem_cons.mp hy with rfl | hy
    ·exact p2 n (by rw[List.lookup_cons,beq_self_eq_true];rfl)
    ·exact p3 y hy hf
  ·obtain⟨cl,e,p1,p2,p3⟩:=uc r acc h1' h2
   have hb:(k == NameKind.free)=false:=by simpa using hk
   refine⟨cl,?_,p1,p2,fun y hy hf=>?_⟩
   ·rw[List.forIn_cons]
    simp only[hb,Bool.false_eq_true,if_false,pure_bind]
    exact e
   ·rcases List.mem_cons.mp hy with rfl | hy
    ·exact absurd hf hk
    ·exact p3 y hy hf
structure Clos (env:Env) (scope:Scope) (cl:List (Str×Addr)):Prop where
 eq:closureFor scope env=pure cl
 sub:∀ x c,cl.lookup x=some c→env.cells.lookup x=some c
 all:∀ y∈scope.names,y.2=.free→(cl.lookup y.1).isSome=true
theorem Xc {env:Env}{scope:Scope}(h:∀ y∈scope.names,y.2=.free→∃ c,env.cells.lookup y.1=some c):∃ cl,Clos env scope cl:=by
 obtain⟨cl,e,p1,p2,p3⟩:=uc (env:=env) scope.names [] h (fun x c z=>by simp at z)
 refine⟨cl,⟨?_,p1,p3⟩⟩
 have q:closureFor scope env=(forIn scope.names [] (fun(y:Str×NameKind) (cs:List (Str×Addr))=>(if (y.2 == NameKind.free)=true then(do let c ← cellOf env y.1;pure (ForInStep.yield ((y.1,c)::cs))) else pure (ForInStep.yield cs):Sem (ForInStep (List (Str×Addr))))) >>= fun s=>pure s):=rfl
 rw[q,e,pure_bind]
noncomputable abbrev yJ (X:Cx) (scope:Scope) (N':List Str) (cl:List (Str×Addr)) (C:Addr) (s₀:Shared) (H₀:Hp) (fp:List Addr):Cx :=
 { X with N:=N',s₀:=s₀,H₀:=H₀,env:=compEnvC scope cl C X.env,outer:=X.stack,ex:=fp,fn:=fun _=>false,pn:=[],xe:=NoE }
structure Blk where
 cl:List (Str×Addr)
 C:Addr
 s₀:Shared
 H₀:Hp
 fp:List Addr
abbrev cxB (X:Cx) (scope:Scope) (N':List Str) (b:Blk):Cx:=yJ X scope N' b.cl b.C b.s₀ b.H₀ b.fp
noncomputable def YW:Option NameKind→Bool
 |some .cell=>true
 |some .free=>true
 |_=>false
theorem xx {k:Option NameKind}(h:YW k=true):k=some .cell∨k=some .free:=by
 cases k with
 |none=>cases h
 |some k=>cases k<;>first | exact .inl rfl | exact .inr rfl | cases h
def WJ (N:List Str) (kd kd':Str→Option NameKind) (N':List Str) (t:Nat):List Nat→Nat→Bool
 |[],k=>N'.length == t+k
 |j::r,k=>(match N[j]?,N'[t+k]? with
  |some x,some y=>(x == y)&&YW (kd x)&&YW (kd' x)
  |_,_=>false)&&WJ N kd kd' N' t r (k+1)
theorem vB {N:List Str}{kd kd':Str→Option NameKind}{N':List Str}{t:Nat}:∀ {caps:List Nat}{k:Nat},WJ N kd kd' N' t caps k=true→N'.length=t+k+caps.length
 |[],k,h=>by
  have:=beq_iff_eq.mp h
  simpa using this
 |j::r,k,h=>by
  have:=vB (Bool.and_eq_true_iff.mp h).2
  rw[List.length_cons]
  omega
theorem uK {N:List Str}{kd kd':Str→Option NameKind}{N':List Str}{t:Nat}:∀ {caps:List Nat}{k i j:Nat},WJ N kd kd' N' t caps k=true→caps[i]?=some j →
  ∃ x,N[j]?=some x∧N'[t+k+i]?=some x∧YW (kd x)=true∧YW (kd' x)=true
 |[],_,_,_,_,e=>by simp at e
 |j::r,k,0,j',h,e=>by
  simp at e
  subst e
  have h1:=(Bool.and_eq_true_iff.mp h).1
  cases q:N[j]? with
  |none=>rw[q] at h1;cases h1
  |some x =>
   cases q':N'[t+k]? with
   |none=>rw[q,q'] at h1;cases h1
   |some y =>
    rw[q,q'] at h1
    obtain⟨h2,h3⟩:=Bool.and_eq_true_iff.mp h1
    obtain⟨h4,h5⟩:=Bool.and_eq_true_iff.mp h2
    obtain rfl:x=y:=beq_iff_eq.mp h4
    exact⟨x,rfl,rfl,h5,h3⟩
 |j::r,k,i+1,j',h,e=>by
  obtain⟨x,a,b,c,d⟩:=uK (i:=i) (Bool.and_eq_true_iff.mp h).2 (by simpa using e)
  refine⟨x,a,?_,c,d⟩
  have q:t+(k+1)+i=t+k+(i+1):=by omega
  rw[← q]
  exact b
structure CompOk (X:Cx) (scope:Scope) (N':List Str) (t:Nat) (caps:List Nat):Prop where
 kind:scope.kind=.function
 shape:(scope.names.all fun y=>(y.2 == .local&&scope.names.lookup y.1 == some .local)||(y.2 == .free&&YW (X.env.kindOf y.1))||(y.2 == .globalImplicit))=true
 cap:WJ X.N X.env.kindOf (compEnvC scope [] 0 X.env).kindOf N' t caps 0=true
theorem CompOk.at {X:Cx}{scope:Scope}{N':List Str}{t:Nat}{caps:List Nat}(S:CompOk X scope N' t caps){y:Str×NameKind}(hy:y∈scope.names) :
  y.2≠.cell∧(y.2=.local→scope.names.lookup y.1=some .local)∧(y.2=.free→YW (X.env.kindOf y.1)=true):=by
 have h:=List.all_eq_true.mp S.shape y hy
 obtain⟨n,k⟩:=y
 cases k<;>simp at h<;>simp[h]
def zhg (t:Nat) (caps:List Nat) (σ:St):St:=List.replicate t none++caps.map fun j=>(σ[j]?).join
theorem xg {scope:Scope}{env:Env}{x:Str}:∀ {names:List (Str×NameKind)},(∀ y∈names,y.2≠.cell)→YW ((names.map fun(y:Str×NameKind)=>if (y.2 == NameKind.free&&env.scope.kind == .function&&env.kindOf y.1 == some .cell)=true then(y.1,NameKind.cell) else(y.1,y.2)).lookup x)=true →
  (x,NameKind.free)∈names
 |[],_,h=>by simp[YW] at h
 |(n,k)::r,hn,h=>by
  have hr:∀ y∈r,y.2≠.cell:=fun y hy=>hn y (List.mem_cons_of_mem _ hy)
  have hk:k≠.cell:=hn (n,k) List.mem_cons_self
  rw[List.map_cons] at h
  by_cases hx:(x == n)=true
  ·obtain rfl:x=n:=beq_iff_eq.mp hx
   have q:k=.free:=by
    by_cases hf:k=.free
    ·exact hf
    ·exfalso
     have hb:(k == NameKind.free)=false:=by simpa using hf
     simp only[hb,Bool.false_and,Bool.false_eq_true,if_false,List.lookup_cons,beq_self_eq_true] at h
     cases k<;>simp[YW] at h hk hf
   subst q
   exact List.mem_cons_self
  ·rw[Bool.not_eq_true] at hx
   refine List.mem_cons_of_mem _ (xg (scope:=scope) (env:=env) hr ?_)
   by_cases hc:(k == NameKind.free&&env.scope.kind == .function&&env.kindOf n == some .cell)=true
   ·simp only[hc,if_true,List.lookup_cons,hx] at h
    exact h
   ·rw[Bool.not_eq_true] at hc
    simp only[hc,Bool.false_eq_true,if_false,List.lookup_cons,hx] at h
    exact h
def Zi (J:It) (g:TG) (tc:TT) (te:TE) (Q:VK) (D:Addr) (τ0:St) (H0:Hp):Prop :=
 ∃ W:Nat→Nat→List V→St→Hp→Prop,(∃ m,W 0 m [] τ0 H0)∧∀ i m ys τ H,W i m ys τ H →
  (J.stop i H∧Q (.ref D) H)∨(J.go i H∧∃ N:List V→St→Hp→Prop,(∀ zs τ' H',N zs τ' H'→∃ m',m'<m∧W (i+1) m' zs τ' H')∧∀ x H3,J.yld i H x H3→g x τ H3 fun τ2 H4=>tc τ2 H4 fun b H5 =>
   if b=true then te τ2 H5 fun y H6=>H6 D=some (.lst ys)∧ys.length<sizeLine∧N (ys++[y]) τ2 (upd H6 D (.lst (ys++[y]))) else N ys τ2 H5)
def XR (wi:TI) (g:Blk→TG) (tc:Blk→TT) (te:Blk→TE) (t:Nat) (caps:List Nat):TE:=fun σ H Q =>
 wi σ H fun J H1=>∀ D,H1 D=none→∀ b:Blk,Zi J (g b) (tc b) (te b) Q D (zhg t caps σ) (upd H1 D (.lst []))
theorem ub {J:It}{g:TG}{tc:TT}{te:TE}{Q:VK}{D:Addr}{τ0:St}{H0:Hp}(n:Nat) (Pv:Nat→List V→St→Hp→Prop) (h0:Pv 0 [] τ0 H0)
  (hst:∀ zs τ H,Pv n zs τ H→J.stop n H∧Q (.ref D) H)
  (hgo:∀ i zs τ H,i<n→Pv i zs τ H→J.go i H∧∀ x H3,J.yld i H x H3→g x τ H3 fun τ2 H4=>tc τ2 H4 fun b H5 =>
   if b=true then te τ2 H5 fun y H6=>H6 D=some (.lst zs)∧zs.length<sizeLine∧Pv (i+1) (zs++[y]) τ2 (upd H6 D (.lst (zs++[y]))) else Pv (i+1) zs τ2 H5):Zi J g tc te Q D τ0 H0:=by
 refine⟨fun i m zs τ H=>m=n-i∧i≤n∧Pv i zs τ H,⟨n,by simp,Nat.zero_le _,h0⟩,?_⟩
 rintro i m zs τ H ⟨rfl,hi,p⟩
 by_cases hlt:i<n
 ·obtain⟨go,step⟩:=hgo i zs τ H hlt p
  exact .inr ⟨go,Pv (i+1),fun zs' τ' H' p'=>⟨n-(i+1),by omega,rfl,hlt,p'⟩,step⟩
 ·have e:i=n:=by omega
  subst e
  exact .inl (hst zs τ H p)
theorem yo {K:PySem.W.Frag}{a:Addr}{xs:List V}{g:TG}{tc:TT}{te:TE}{Q:VK}{D:Addr}{τ0:St}{H0:Hp}(Pv:Nat→List V→St→Hp→Prop) (h0:Pv 0 [] τ0 H0) (hl:∀ i zs τ H,Pv i zs τ H→SqL K H a xs)
  (hs:∀ i x zs τ H,xs[i]?=some x→Pv i zs τ H→g x τ H fun τ2 H4=>tc τ2 H4 fun b H5 =>
   if b=true then te τ2 H5 fun y H6=>H6 D=some (.lst zs)∧zs.length<sizeLine∧Pv (i+1) (zs++[y]) τ2 (upd H6 D (.lst (zs++[y]))) else Pv (i+1) zs τ2 H5)
  (hd:∀ zs τ H,Pv xs.length zs τ H→Q (.ref D) H):Zi (Itl K a) g tc te Q D τ0 H0 :=
 ub xs.length Pv h0 (fun zs τ H p=>⟨⟨xs,hl _ _ _ _ p,Nat.le_refl _⟩,hd zs τ H p⟩) fun i zs τ H hi p=>⟨⟨xs,xs[i],hl _ _ _ _ p,by simp[hi]⟩,fun x H3 y=>by
  obtain⟨e,y⟩:=y
  subst e
  exact hs i x zs τ _ (y xs (hl _ _ _ _ p)) p⟩
theorem Zg {lo:Int}{n:Nat}{g:TG}{tc:TT}{te:TE}{Q:VK}{D:Addr}{τ0:St}{H0:Hp}(Pv:Nat→List V→St→Hp→Prop) (h0:Pv 0 [] τ0 H0)
  (hs:∀ i zs τ H,i<n→Pv i zs τ H→g (.int (lo+i)) τ H fun τ2 H4=>tc τ2 H4 fun b H5 =>
   if b=true then te τ2 H5 fun y H6=>H6 D=some (.lst zs)∧zs.length<sizeLine∧Pv (i+1) (zs++[y]) τ2 (upd H6 D (.lst (zs++[y]))) else Pv (i+1) zs τ2 H5)
  (hd:∀ zs τ H,Pv n zs τ H→Q (.ref D) H):Zi (Itr lo n) g tc te Q D τ0 H0 :=
 ub n Pv h0 (fun zs τ H p=>⟨Nat.le_refl _,hd zs τ H p⟩) fun i zs τ H hi p=>⟨hi,fun x H3 y=>by
  obtain⟨e,y⟩:=y
  subst e y
  exact hs i zs τ _ hi p⟩
section
variable {X:Cx}{tg iter elt:Expr}{ifs:List Expr}{scope:Scope}{pos:Pos}{N':List Str}{t:Nat}{caps:List Nat}{g:Blk→TG}{tc:Blk→TT}{te:Blk→TE}{wi:TI}
theorem FpOk.heap {pins:List (Addr×Obj)}{H H':Hp}{b:Addr}(f:FpOk X pins H b) (h:H' b=none):FpOk X pins H' b:=⟨h,f.2⟩
theorem vA {cl:List (Str×Addr)}{J:It}{fp:List Addr}{it:Addr}{tn:Nat→Heap→Prop}{pins:List (Addr×Obj)}{σ:St}{H2:Hp}{s2:Shared}{Q:VK}{E:Value→Shared→Prop}
  (hc:X.calm=true) (S:CompOk X scope N' t caps) (L:Clos X.env scope cl)
  (hg:∀ b,PG (cxB X scope N' b) tg (g b)) (ht:∀ b,PTs (cxB X scope N' b) ifs (tc b)) (he:∀ b,PE (cxB X scope N' b) elt (te b))
  (I2:Inv X pins σ H2 s2) (T:Turn X.prog X.w X.K tg J fp it tn) (st2:tn 0 s2.heap) (f2:∀ b∈fp,FpOk X pins H2 b)
  (R:∀ D,H2 D=none→∀ b,Zi J (g b) (tc b) (te b) Q D (zhg t caps σ) (upd H2 D (.lst []))) :
  wpAny (model X.prog X.w) X.A (newList []) (fun acc s3=>wpAny (model X.prog X.w) X.A (newFunctionEnv scope X.env.globals cl [] X.env.qual none .none (some X.env)) (fun cenv s4 =>
   codeAny (model X.prog X.w) X.A (.compStart (.ListComp elt [⟨tg,iter,ifs,0⟩] scope pos) 0 (.ref it) acc { cenv with scope:=relabel scope X.env })
    (fun r s'=>∃ (D:Addr) (H':Hp) (m:Str→Option Value),acc=.ref D∧r=.ok .next∧Inv X pins σ H' s'∧s'.heap.Ns cenv.locals m∧FpOk X pins H' cenv.locals∧Q (.ref D) H') s4) E s3) E s2:=by
 refine wpAny_newObj_type ?_
 have I3:Inv X pins σ (upd H2 s2.heap.objs.size (.lst [])) { s2 with heap:=s2.heap.push { cls:=.type "list",data:=.seq ([]:List Value).toArray } }:=I2.lnew (t':=s2.toks) .nil (Nat.zero_le _)
 have hD:H2 s2.heap.objs.size=none:=I2.fresh
 have R:=R _ hD
 generalize hs3:({ s2 with heap:=s2.heap.push { cls:=.type "list",data:=.seq ([]:List Value).toArray } }:Shared)=s3 at I3 ⊢
 generalize hH3:upd H2 s2.heap.objs.size (.lst [])=H3 at I3 R
 generalize hDD:s2.heap.objs.size=D at R ⊢
 have k3:∀ b o,s2.heap.get? b=some o→s3.heap.get? b=some o:=fun b o e=>by rw[← hs3];exact Heap.get?_push_of_some _ e
 have st3:tn 0 s3.heap:=T.keep 0 _ _ st2 fun b _ o e=>k3 b o e
 have fpn:∀ b∈fp,H3 b=none:=fun b hb=>by
  obtain⟨o,e,_⟩:=T.obj 0 _ st2 b hb
  rw[← hH3,upd_ne (Nat.ne_of_lt (Heap.lt_size e))]
  exact(f2 b hb).1
 have f3:∀ b∈fp,FpOk X pins H3 b:=fun b hb=>(f2 b hb).heap (fpn b hb)
 refine wpAny_newFunctionEnv (fun y hy=>(S.at hy).1) (by intro y hy;simp at hy) (fun h4 hns hsb=>?_) S.kind
 generalize hC:s3.heap.objs.size=C at hns hsb ⊢
 have k4:∀ b o,s3.heap.get? b=some o→h4.get? b=some o:=fun b o e=>hsb.extBut b o (by rw[← hC];exact Nat.ne_of_lt (Heap.lt_size e)) (Heap.get?_push_of_some _ e)
 have cellsub:∀ x c,(yJ X scope N' cl C s3 H3 fp).env.cells.lookup x=some c→X.env.cells.lookup x=some c:=L.sub
 have hnc:∀ y∈scope.names,y.2≠.cell:=fun y hy=>(S.at hy).1
 have fC:∀ {H':Hp},H' C=none→FpOk X pins H' C:=fun h=>by rw[← hC] at h ⊢;exact I3.fpOk (Nat.le_refl _) h
 have I4:Inv (yJ X scope N' cl C s3 H3 fp) [] (zhg t caps σ) H3 { s3 with heap:=h4,toks:=s3.toks+([]:List (Str×Value)).length }:=by
  refine⟨⟨I3.ok.mod,S.kind,I3.ok.glob,I3.ok.blt,Nat.le_of_eq hC,fun x y c h1 h2=>I3.ok.inj x y c (L.sub _ _ h1) (L.sub _ _ h2),fun x hx=>?_,fun x c h _=>absurd (show false=true from h) Bool.false_ne_true,I3.ok.hd,I3.ok.frames,.inl rfl,fun b hb=>⟨?_,fun x c e=>(f3 b hb).2.2.2.2.1 x c (L.sub x c e)⟩,
    I3.bs,Nat.le_trans I3.ok.bsz I3.sz,fun b o e hb=>?_,fun b hb z=>?_,I3.stack,I3.stkFree⟩,
   rfl,I3.bare,Un.kept k4,⟨_,hns,fun i x v e1 e2 e3=>?_⟩,fun x c e=>?_,(by rw[← hC];exact I3.fresh),fun x c e=>I3.freeC x c (L.sub x c e),fun p hp=>?_,I3.hok.kept k4,?_⟩
  ·have hx':YW ((relabel scope X.env).names.lookup x)=true:=by
    rcases hx with q | q
    ·rw[show(relabel scope X.env).names.lookup x=some .cell from q];rfl
    ·rw[show(relabel scope X.env).names.lookup x=some .free from q];rfl
   exact Option.isSome_iff_exists.mp (L.all _ (xg (scope:=scope) hnc hx') rfl)
  ·obtain⟨o,e,_⟩:=T.obj 0 _ st3 b hb
   rw[← hC]
   exact Nat.ne_of_lt (Heap.lt_size e)
  ·rcases(f3 b hb).2.2.2.1 with z | z
   ·exact I3.ok.noex b o e z
   ·exact absurd (Nat.lt_of_lt_of_le (Nat.lt_of_lt_of_le (Heap.lt_size e) I3.ok.bsz) z) (Nat.lt_irrefl _)
  ·rcases List.mem_cons.mp (I3.stkSub b z) with q | q
   ·exact(f3 b hb).2.1 q
   ·exact(f3 b hb).2.2.1 q
  ·-- a name that was taken over
   unfold zhg at e2
   by_cases hi:i<t
   ·rw[List.getElem?_append_left (by simpa using hi),List.getElem?_replicate] at e2
    simp[hi] at e2
   ·rw[List.getElem?_append_right (by simpa using hi),List.length_replicate,List.getElem?_map] at e2
    cases q:caps[i-t]? with
    |none=>rw[q] at e2;simp at e2
    |some j =>
     rw[q] at e2
     obtain⟨y,c1,c2,c3,c4⟩:=uK S.cap q
     have ei:t+0+(i-t)=i:=by omega
     rw[ei] at c2
     have exy:x=y:=Option.some.inj ((show N'[i]?=some x from e1).symm.trans c2)
     subst exy
     have e2':σ[j]?=some (some v):=by
      have e2:(σ[j]?).join=some v:=Option.some.inj e2
      cases r:σ[j]? with
      |none=>rw[r] at e2;cases e2
      |some z =>
       rw[r] at e2
       have e2:z=some v:=e2
       rw[e2]
     obtain⟨m,hn,hl⟩:=I3.loc
     have cf:=xx c3
     obtain⟨u,ru,lk⟩:=hl j x v c1 e2' (.inr (by
      rcases cf with z | z
      ·exact .inl z
      ·exact .inr z))
     refine⟨u,ru,.inr ⟨xx c4,?_⟩⟩
     rcases lk with⟨z,_⟩ | ⟨_,c,ec,zc⟩
     ·rcases cf with w | w<;>(rw[z] at w;cases w)
     ·have hfree:=xg (scope:=scope) (env:=X.env) (x:=x) hnc c4
      obtain⟨c',ec'⟩:=Option.isSome_iff_exists.mp (L.all _ hfree rfl)
      have:=L.sub _ _ ec'
      rw[show X.env.cells.lookup x=some c from ec] at this
      cases this
      obtain⟨o,ho,hd⟩:=zc
      exact⟨c,ec',o,k4 _ _ ho,hd⟩
  ·obtain⟨v,o,ho,hd⟩:=I3.cell x c (L.sub x c e)
   exact⟨v,o,k4 _ _ ho,hd⟩
  ·exact absurd (show p∈([]:List (Addr×Obj)) from hp) (by simp)
  ·unfold zhg
   rw[List.length_append,List.length_replicate,List.length_map,vB S.cap]
   omega
 obtain⟨W,⟨m0,w0⟩,turn⟩:=R ⟨cl,C,s3,H3,fp⟩
 -- back to the frame outside
 have back:∀ {τ:St}{H':Hp}{s':Shared},Inv (yJ X scope N' cl C s3 H3 fp) [] τ H' s'→Inv X pins σ H' s':=fun {τ H' s'} J=>by
  refine I3.call' (ch:=fp) (J.os.trans ?_) J.base J.hok J.bare fun b hb=>⟨(f3 b hb).2.2.2.1,(f3 b hb).2.1,(f3 b hb).2.2.2.2.1,(f3 b hb).2.2.2.2.2⟩
  rfl
 have stat:∀ {H':Hp},(∀ b∈fp,H' b=none)→∀ b∈fp,FpOk (yJ X scope N' cl C s3 H3 fp) [] H' b:=fun {H'} hn b hb=>by
  refine⟨hn b hb,(I4.ok.exf b hb).1,I4.ok.exfs b hb,.inl hb,(I4.ok.exf b hb).2,fun p hp=>?_⟩
  exact absurd (show p∈([]:List (Addr×Obj)) from hp) (by simp)
 have loop:codeAny (model X.prog X.w) X.A (.compLoop (.ListComp elt [⟨tg,iter,ifs,0⟩] scope pos) 0 (.ref it) (.ref D) (compEnvC scope cl C X.env))
   (fun r s'=>∃ (D':Addr) (H':Hp) (m:Str→Option Value),Value.ref D=.ref D'∧r=.ok .next∧Inv X pins σ H' s'∧s'.heap.Ns C m∧FpOk X pins H' C∧Q (.ref D') H') { s3 with heap:=h4,toks:=s3.toks+([]:List (Str×Value)).length }:=by
  refine Zh (fun n s'=>∃ i ys τ H',Inv (yJ X scope N' cl C s3 H3 fp) [] τ H' s'∧tn i s'.heap∧(∀ b∈fp,H' b=none)∧W i n ys τ H') ?_ m0 ⟨0,[],_,H3,I4,T.keep 0 _ _ st3 fun b _ o e=>k4 b o e,fpn,w0⟩
  rintro n s5 ⟨i,ys,τ,H5,I5,st5,fr5,w5⟩
  rcases turn i n ys τ H5 w5 with⟨stop,q⟩ | ⟨go,N,hN,step⟩
  ·refine thn (T.done (yJ X scope N' cl C s3 H3 fp) rfl rfl rfl hc i [] s5 τ H5 NoE I5 (stat fr5) st5 stop) fun r s6 ⟨hr,I6⟩=>?_
   subst hr
   obtain⟨m,hm,_⟩:=id I6.loc
   exact⟨D,H5,m,rfl,rfl,back I6,hm,fC I6.free,q⟩
  ·refine thn (T.item (yJ X scope N' cl C s3 H3 fp) rfl rfl rfl hc i [] s5 τ H5 NoE I5 (stat fr5) st5 go) fun r s6 ⟨u,hr,h6⟩=>?_
   subst hr
   refine thn h6 fun _ s7 hq0=>?_
   obtain⟨x,H7,I7,r7,y7,st7,fr7⟩:=hq0
   have I7':=I7.pinned (stat fr7) (T.obj _ _ st7)
   have again:∀ {τ9:St}{H9:Hp}{s9:Shared}{ys9:List V}{m':Nat},Inv (yJ X scope N' cl C s3 H3 fp) ([]++xF fp s7.heap) τ9 H9 s9→m'<n→W (i+1) m' ys9 τ9 H9 →
     ∃ m,m<n∧∃ i ys τ H',Inv (yJ X scope N' cl C s3 H3 fp) [] τ H' s9∧tn i s9.heap∧(∀ b∈fp,H' b=none)∧W i m ys τ H':=fun {τ9 H9 s9 ys9 m'} I9 hm w9=>by
    refine⟨m',hm,i+1,ys9,τ9,H9,I9.unpinned,T.keep _ _ _ st7 fun b hb o e=>(I9.pin (b,o) (List.mem_append_right _ (List.mem_append_right _ (yn hb e)))).1,fun b hb=>?_,w9⟩
    obtain⟨o,e,_⟩:=T.obj _ _ st7 b hb
    exact(I9.pin (b,o) (List.mem_append_right _ (List.mem_append_right _ (yn hb e)))).2.1
   refine thn (hg ⟨cl,C,s3,H3,fp⟩ _ s7 τ H7 x u _ I7' r7 (step x H7 y7)) fun _ s8 hq0=>?_
   obtain⟨τ8,H8,I8,q8⟩:=hq0
   refine thn (ht ⟨cl,C,s3,H3,fp⟩ _ s8 τ8 H8 _ I8 q8) fun ok s9 hq0=>?_
   obtain⟨H9,I9,q9⟩:=hq0
   cases ok with
   |false =>
    obtain⟨m',hm,w9⟩:=hN _ _ _ (show N ys τ8 H9 from q9)
    exact again I9 hm w9
   |true =>
    refine thn (he ⟨cl,C,s3,H3,fp⟩ _ s9 τ8 H9 _ I9 q9) fun y s10 hq0=>?_
    obtain⟨z,H10,I10,r10,hl,hz,q10⟩:=hq0
    refine thn (zC _ s10 τ8 H10 (.ref D) [z] (.ref D) [y] (fun v H11=>v=.non∧H11=upd H10 D (.lst (ys++[z]))) I10 rfl (.cons r10 .nil) ⟨D,ys,z,rfl,rfl,hl,hz,rfl,rfl⟩) fun _ s11 hq0=>?_
    obtain⟨v,H11,I11,_,_,e11⟩:=hq0
    subst e11
    obtain⟨m',hm,w10⟩:=hN _ _ _ q10
    exact again I11 hm w10
 exact codeAny_compStart_list loop (T.self _ 0 _ _ _ (T.keep 0 _ _ st3 fun b _ o e=>k4 b o e) loop)
theorem VD (hc:X.calm=true) (S:CompOk X scope N' t caps) (hi:PI X tg iter wi)
  (hg:∀ b,PG (cxB X scope N' b) tg (g b)) (ht:∀ b,PTs (cxB X scope N' b) ifs (tc b)) (he:∀ b,PE (cxB X scope N' b) elt (te b))
  (hs:∀ x,foldedSetIterable iter X.env x=pure x:=by intro _;rfl):PE X (.ListComp elt [⟨tg,iter,ifs,0⟩] scope pos) (XR wi g tc te t caps):=by
 intro pins s σ H Q I h
 obtain⟨cl,L⟩:=Xc (env:=X.env) (scope:=scope) fun y hy hf=>I.ok.has y.1 (xx ((S.at hy).2.2 hf))
 rw[eval_ListComp]
 refine wpAny_comprehension_free (use:=none) rfl hs L.eq S.kind (fun y hy=>(S.at hy).2.1) (thn (hi pins s σ H _ I h) fun x s1 h1=>thn h1 fun itv s2 h2=>?_)
 obtain⟨it,fp,tn,J,H2,rfl,I2,T,st2,f2,R⟩:=h2
 refine thn (vA hc S L hg ht he I2 T st2 f2 R) fun acc s3 h3=>thn h3 fun cenv s4 h4=>codeAny_mono h4 fun r s' hr=>?_
 obtain⟨D,H',m,rfl,rfl,I',hm,fC,q⟩:=hr
 obtain⟨c0,c1,c2,c3,c4,c5⟩:=fC
 exact⟨m,hm,fun h' sb=>⟨.ref D,H',I'.turned (t':=s'.toks) (fun b o hb e=>sb.extBut b o hb e) c0 c1 c3 c4 c5,rfl,q⟩⟩
theorem uX {i:Nat}{y:Str}{py spos:Pos}(hc:X.calm=true) (hN:X.N.Nodup) (hiy:X.N[i]?=some y) (hy:Loc X.env.scope y) (S:CompOk X scope N' t caps) (hi:PI X tg iter wi)
  (hg:∀ b,PG (cxB X scope N' b) tg (g b)) (ht:∀ b,PTs (cxB X scope N' b) ifs (tc b)) (he:∀ b,PE (cxB X scope N' b) elt (te b))
  (hsw:swapsWith (.ListComp elt [⟨tg,iter,ifs,0⟩] scope pos) (some (.Name y py)) spos.line X.env=pure true:=by rfl)
  (hs:∀ x,foldedSetIterable iter X.env x=pure x:=by intro _;rfl) (hf:X.fn y=true∨X.env.scope.names.lookup y=some .local:=by first | exact .inl rfl | exact .inr rfl | assumption) :
  PS X (.Assign [.Name y py] (.ListComp elt [⟨tg,iter,ifs,0⟩] scope pos) spos) (zhm (XR wi g tc te t caps) (v9 i)):=by
 intro pins s σ H D' I h
 obtain⟨cl,L⟩:=Xc (env:=X.env) (scope:=scope) fun y hy hf=>I.ok.has y.1 (xx ((S.at hy).2.2 hf))
 rw[exec_Assign_Name_used _ _ _ _ hsw]
 refine wpAny_bind (wpAny_standAt (wpAny_bind ?_))
 show wpAny _ X.A (comprehension (.ListComp elt [⟨tg,iter,ifs,0⟩] scope pos) scope X.env _ (newList []) false (eval iter X.env) (some (assign (.Name y py) X.env)) >>= fun _=>pure ()) _ _ s
 refine wpAny_bind (thn (Q:=fun _ s'=>SP X pins D' .next s') ?_ fun _ s' hq=>wpAny_pure (wpAny_pure hq))
 refine wpAny_comprehension_free (use:=some (assign (.Name y py) X.env)) rfl hs L.eq S.kind (fun y hy=>(S.at hy).2.1) (thn (hi pins s σ H _ I h) fun x s1 h1=>thn h1 fun itv s2 h2=>?_)
 obtain⟨it,fp,tn,J,H2,rfl,I2,T,st2,f2,R⟩:=h2
 refine thn (vA hc S L hg ht he I2 T st2 f2 R) fun acc s3 h3=>thn h3 fun cenv s4 h4=>codeAny_mono h4 fun r s' hr=>?_
 obtain⟨D,H',m,rfl,rfl,I',hm,fC,q⟩:=hr
 obtain⟨c0,c1,c2,c3,c4,c5⟩:=fC
 show wpAny _ X.A (assign (.Name y py) X.env (.ref D)) _ _ _
 refine wpAny_assign_Name (wZ I' hN hiy hy (show RelV (.ref D) (.ref D) from rfl) (fun s'' I'' hq0=>?_) hf)
 obtain⟨a,sb,ha⟩:=hq0
 have hne:cenv.locals≠a:=by
  rcases ha with z | z
  ·rw[z];exact c1
  ·exact fun z'=>c4 y a z z'.symm
 refine⟨m,hm.sameBut sb hne,fun h' sb'=>?_⟩
 exact⟨_,H',I''.turned (t':=s''.toks) (fun b o hb e=>sb'.extBut b o hb e) c0 c1 c3 c4 c5,q⟩
end
def znO (i j:Int):Prop:=0<j∧j.natAbs.log2<9000
section
variable {X:Cx}
theorem xv:OpR X (binaryOp .FloorDiv) (rI znO fun i j=>.int (i/j)):=opI fun i j _ _ _ _ _ hc q=>by
 have e:i.fdiv j=i/j:=Int.fdiv_eq_ediv_of_nonneg i (Int.le_of_lt hc.1)
 exact floordiv_int (Ne.symm (Int.ne_of_lt hc.1)) (by rw[e];exact q) (.inl (PyProof.noPylong_of_log2 hc.2))
noncomputable def znK:V→Option Value
 |.ty n=>some (.type n)
 |.ref a=>some (.ref a)
 |_=>none
theorem WI {c:V}{cv u:Value}(h:znK c=some cv) (r:RelV c u):u=cv:=by
 cases c<;>simp[znK] at h
 ·exact(show u=Value.ref _ from r).trans h
 ·exact(show u=Value.type _ from r).trans h
def zwP (K:PySem.W.Frag):List V→Hp→VK→Prop:=fun xs H Q=>∃ x c t cv b,xs=[x,c]∧znK c=some cv∧TyOf K H x t∧PySem.W.kitOne K t cv=some b∧Q (.bl b) H
theorem zP:yu X (.builtin "isinstance") (zwP X.K):=by
 intro pins s σ H xs us Q I r h
 obtain⟨x,c,t,cv,b,rfl,hc,ty,e,q⟩:=h
 obtain⟨u,v,rfl,r1,r2⟩:=r.two
 obtain rfl:=WI hc r2
 exact YV I r1 ty e fun tk=>⟨.bl b,H,I.tok tk,rfl,q⟩
inductive EqD (K:PySem.W.Frag) (H:Hp):V→V→Bool→Nat→Prop where
 |flat {x y:V}{n:Nat}(fx:yM x=true) (fy:yM y=true):EqD K H x y (eqV x y) n
 |same {a:Addr}{n:Nat}:EqD K H (.ref a) (.ref a) true n
 |lst {a b:Addr}{xs ys:List V}{e:Nat→Bool}{n:Nat}(hne:a≠b) (ha:SqL K H a xs) (hb:SqL K H b ys) (hl:xs.length=ys.length) (h:∀ (j:Nat) x y,xs[j]?=some x→ys[j]?=some y→EqD K H x y (e j) n) :
   EqD K H (.ref a) (.ref b) ((List.range xs.length).all e) (n+1)
 |tup {a b:Addr}{xs ys:List V}{e:Nat→Bool}{n:Nat}(hne:a≠b) (ha:SqT K H a xs) (hb:SqT K H b ys) (hl:xs.length=ys.length) (h:∀ (j:Nat) x y,xs[j]?=some x→ys[j]?=some y→EqD K H x y (e j) n) :
   EqD K H (.ref a) (.ref b) ((List.range xs.length).all e) (n+1)
theorem yw (A:Around):A.in1.units=A.units+1:=rfl
theorem EqD.at {pins:List (Addr×Obj)}{σ:St}{H:Hp}{s:Shared}{x y:V}{b:Bool}{n:Nat}(I:Inv X pins σ H s) (h:EqD X.K H x y b n) :
  ∀ (A:Around) (u v:Value),A.units+n<cLine→RelV x u→RelV y v→SeqAt.EqAt A s u v b:=by
 induction h with
 |flat fx fy=>intro A u v _ rx ry;exact eqAt_V rx ry fx fy
 |same=>intro A u v _ rx ry;cases rx;cases ry;exact SeqAt.EqAt.same _
 | @lst a b xs ys e n hne ha hb hl h ih =>
  intro A u v hu rx ry
  cases rx;cases ry
  obtain⟨i1,r1,p1,_⟩:=I.list ha
  obtain⟨i2,r2,p2,_⟩:=I.list hb
  have l1:=r1.length
  have l2:=r2.length
  refine SeqAt.EqAt.of_refs hne ?_
  have q:=SeqAt.RcAt.lists (A:=A) (s:=s) (e:=e) p1.isList p2.isList (by simp;omega) (by omega) (fun j h1 h2=>?_)
  ·rw[List.size_toArray,← l1] at q
   exact q
  ·have g1:j<xs.length:=by rw[l1];simpa using h1
   have g2:j<ys.length:=by rw[l2];simpa using h2
   obtain⟨u1,e1,q1⟩:=r1.get (i:=j) (x:=xs[j]) (by simp[g1])
   obtain⟨u2,e2,q2⟩:=r2.get (i:=j) (x:=ys[j]) (by simp[g2])
   have f1:i1.toArray[j]=u1:=by
    have:=List.getElem?_eq_some_iff.mp e1
    obtain⟨_,z⟩:=this
    simpa using z
   have f2:i2.toArray[j]=u2:=by
    have:=List.getElem?_eq_some_iff.mp e2
    obtain⟨_,z⟩:=this
    simpa using z
   rw[f1,f2]
   exact ih j _ _ (by simp[g1]) (by simp[g2]) A.in1 u1 u2 (by rw[yw];omega) q1 q2
 | @tup a b xs ys e n hne ha hb hl h ih =>
  intro A u v hu rx ry
  cases rx;cases ry
  obtain⟨i1,r1,p1,_⟩:=I.tuple ha
  obtain⟨i2,r2,p2,_⟩:=I.tuple hb
  have l1:=r1.length
  have l2:=r2.length
  refine SeqAt.EqAt.of_refs hne ?_
  have q:=SeqAt.RcAt.tuples (A:=A) (s:=s) (e:=e) (show s.heap.IsTuple a i1.toArray from p1) (show s.heap.IsTuple b i2.toArray from p2) (by omega) (fun j h1 h2=>?_)
  ·have z:i1.toArray.size=i2.toArray.size:=by simp;omega
   rw[← z,Nat.min_self,beq_self_eq_true,Bool.and_true,List.size_toArray,← l1] at q
   exact q
  ·have g1:j<xs.length:=by rw[l1];simpa using h1
   have g2:j<ys.length:=by rw[l2];simpa using h2
   obtain⟨u1,e1,q1⟩:=r1.get (i:=j) (x:=xs[j]) (by simp[g1])
   obtain⟨u2,e2,q2⟩:=r2.get (i:=j) (x:=ys[j]) (by simp[g2])
   have f1:i1.toArray[j]=u1:=by
    have:=List.getElem?_eq_some_iff.mp e1
    obtain⟨_,z⟩:=this
    simpa using z
   have f2:i2.toArray[j]=u2:=by
    have:=List.getElem?_eq_some_iff.mp e2
    obtain⟨_,z⟩:=this
    simpa using z
   rw[f1,f2]
   exact ih j _ _ (by simp[g1]) (by simp[g2]) A.in1 u1 u2 (by rw[yw];omega) q1 q2
def zwQ (K:PySem.W.Frag) (A:Around) (neg:Bool):R2:=fun x y H Q=>∃ (a b:Addr) (xs ys:List V) (e:Nat→Bool) (n:Nat),x=.ref a∧y=.ref b∧((SqL K H a xs∧SqL K H b ys)∨(SqT K H a xs∧SqT K H b ys))∧xs.length=ys.length ∧
 A.units+n+2<cLine∧(∀ (j:Nat) x y,xs[j]?=some x→ys[j]?=some y→EqD K H x y (e j) n)∧Q (.bl (if neg then !(List.range xs.length).all e else(List.range xs.length).all e)) H
theorem uC {pins:List (Addr×Obj)}{σ:St}{H:Hp}{s:Shared}{A:Around}{xs ys:List V}{i1 i2:List Value}{e:Nat→Bool}{n:Nat}(I:Inv X pins σ H s) (r1:Vals xs i1) (r2:Vals ys i2) (hu:A.units+n+2<cLine)
  (h:∀ (j:Nat) x y,xs[j]?=some x→ys[j]?=some y→EqD X.K H x y (e j) n):∀ (j:Nat) (h1:j<i1.toArray.size) (h2:j<i2.toArray.size),SeqAt.EqAt A.in1 s i1.toArray[j] i2.toArray[j] (e j):=fun j h1 h2=>by
 have g1:j<xs.length:=by rw[r1.length];simpa using h1
 have g2:j<ys.length:=by rw[r2.length];simpa using h2
 obtain⟨u1,e1,q1⟩:=r1.get (i:=j) (x:=xs[j]) (by simp[g1])
 obtain⟨u2,e2,q2⟩:=r2.get (i:=j) (x:=ys[j]) (by simp[g2])
 have f1:i1.toArray[j]=u1:=by
  obtain⟨_,z⟩:=List.getElem?_eq_some_iff.mp e1
  simpa using z
 have f2:i2.toArray[j]=u2:=by
  obtain⟨_,z⟩:=List.getElem?_eq_some_iff.mp e2
  simpa using z
 rw[f1,f2]
 exact(h j _ _ (by simp[g1]) (by simp[g2])).at I A.in1 u1 u2 (by rw[yw];omega) q1 q2
theorem W3:OpR X (compareOp .Eq) (zwQ X.K X.A false):=by
 intro pins s σ H x y v u Q I rx ry h
 obtain⟨a,b,xs,ys,e,n,rfl,rfl,hq,hl,hu,hi,q⟩:=h
 cases rx;cases ry
 rcases hq with⟨h1,h2⟩ | ⟨h1,h2⟩
 ·obtain⟨i1,r1,p1,_⟩:=I.list h1
  obtain⟨i2,r2,p2,_⟩:=I.list h2
  refine SeqAt.eq_listAt p1.isList p2.isList (by simp;rw[← r1.length,← r2.length,hl]) (by omega) (uC I r1 r2 hu hi) ⟨.bl _,H,I,rfl,?_⟩
  rw[List.size_toArray,← r1.length]
  exact q
 ·obtain⟨i1,r1,p1,_⟩:=I.tuple h1
  obtain⟨i2,r2,p2,_⟩:=I.tuple h2
  have z:i1.toArray.size=i2.toArray.size:=by simp;rw[← r1.length,← r2.length,hl]
  refine SeqAt.eq_tupleAt (show s.heap.IsTuple a i1.toArray from p1) (show s.heap.IsTuple b i2.toArray from p2) (by omega) (uC I r1 r2 hu hi) ⟨.bl _,H,I,rfl,?_⟩
  rw[← z,Nat.min_self,beq_self_eq_true,Bool.and_true,List.size_toArray,← r1.length]
  exact q
theorem wo:yu X (.type "dict") (fun xs H Q=>∃ a kvs,xs=[V.ref a]∧H a=some (.dK kvs)∧∀ p,H p=none→Q (.ref p) (upd H p (.dK kvs))):=by
 intro pins s σ H xs us Q I r h
 obtain⟨a,kvs,rfl,ha,q⟩:=h
 obtain⟨u,rfl,ru⟩:=r.one
 cases ru
 exact WH I (.inl ha) fun p s' hp I'=>⟨.ref p,_,I',rfl,q p hp⟩
end
structure Callee (P:Program) (w:World) (K:PySem.W.Frag) (mg:Str→Option Value) (base:Heap) (x:Str) (f:Addr) (fd:FuncData) (ps:List Str) (k:Nat) (sp:Sp):Prop where
 ok:FnOk P w K mg base CX0 k f fd ps sp
 g:mg x=some (.ref f)
 kp:PySem.W.keepIn K (.ref f)=true
 b:Binds K fd ps []
structure Maker (P:Program) (w:World) (K:PySem.W.Frag) (mg:Str→Option Value) (base:Heap) (x:Str) (C f:Addr) (fd:FuncData) (ps:List Str) (k:Nat) (sp:Sp):Prop where
 ok:FnOk P w K mg base CX0 k f fd ps sp
 g:mg x=some (.ref C)
 mm:Mk K C f
 b:Binds K fd ps []
section
variable {X:Cx}{k:Nat}{f C:Addr}{fd:FuncData}{ps:List Str}{sp:Sp}{x m:Str}{p pos apos:Pos}{e o:Expr}{es:List Expr}{ta:TE}{t:TA}
theorem W0 (c:Callee X.prog X.w X.K X.mg X.base x f fd ps k sp) (hr:Room k X.A) (ha:PA X (e::es) t) (hg:Gl X x:=by rfl) (hdb:(x == ("__debug__" : Str))=false:=by decide)
  (he:starEach (e::es) X.env=(false,eval e X.env)::starEach es X.env:=by rfl) (hpl:(backTo pos (starEach es X.env)).any (·.1)=false:=by rfl):PE X (.Call (.Name x p) (e::es) [] pos) (ZC sp [] E0 t) :=
 VE c.ok hr hg c.g c.kp c.b .nil YE ha hdb he hpl
theorem zwU (c:Maker X.prog X.w X.K X.mg X.base x C f fd ps k sp) (hr:Room (k+1) X.A) (ha:PA X (e::es) t) (hg:Gl X x:=by rfl) (hdb:(x == ("__debug__" : Str))=false:=by decide)
  (he:starEach (e::es) X.env=(false,eval e X.env)::starEach es X.env:=by rfl) (hpl:(backTo pos (starEach es X.env)).any (·.1)=false:=by rfl):PE X (.Call (.Name x p) (e::es) [] pos) (Vf C sp [] E0 t) :=
 Vz c.mm c.ok hr hg c.g c.b .nil YE ha hdb he hpl
def uo (X:Cx) (m:Str) (ta:TE) (t:TA):TE:=fun σ H Q=>ta σ H fun x H1=>∃ (a C dx:Addr) (fs:List (Str×V)) (f:Addr) (fd:FuncData) (ps:List Str) (k:Nat) (sp:Sp),x=.ref a∧H1 a=some (.ins C dx fs)∧fs.lookup m=none∧Cls X.K C∧Meth X.K C m f ∧
 FnOk X.prog X.w X.K X.mg X.base CX0 k f fd ps sp∧Room k X.A∧Binds X.K fd ps []∧t σ H1 fun vs H2=>sp (x::(vs++[])) H2 Q E0
theorem X1 {pl:Sem Bool}(he:PE X o ta) (ha:PA X (e::es) t)
  (hst:starEach (e::es) X.env=(false,eval e X.env)::starEach es X.env:=by rfl) (hpl:(backTo pos (starEach es X.env)).any (·.1)=false:=by rfl)
  (ht:eval (.Call (.Attribute o m apos) (e::es) [] pos) X.env=(do
   let ov ← eval o X.env
   standAt apos.atName
   let (f,first) ← holding [ov] (getMethod ov m pl)
   callWith pos f first (backTo pos (starEach (e::es) X.env)) (backToKw pos (keywordEach [] X.env))):=by rfl) :
  PE X (.Call (.Attribute o m apos) (e::es) [] pos) (uo X m ta t):=by
 intro pins s σ H Q I h
 refine PySem.W.methodCall_KW (pl:=pl) (thn (he pins s σ H _ I h) fun u s1 hq0=>?_) ht
 obtain⟨x,H1,I1,rx,a,C,dx,fs,f,fd,ps,k,sp,ex,ea,l,cl,hm,F,hr,hb,q⟩:=hq0
 subst ex
 obtain rfl:u=Value.ref a:=rx
 refine yD I1 ea cl hm l ?_
 refine PySem.W.callWith_K (first:=[.ref a]) (h₀:=X.base) I.ok.mod.kin hm.kp (thn (ha pos pins s1 σ H1 _ I1 q) fun us s2 ⟨vs,H2,I2,r,q2⟩=>⟨I2.kIn,?_⟩) hst hpl
 exact run_fn (us:=.ref a::us) (vs:=.ref a::vs) F hr hb .nil YE I2 (.cons rfl r) q2
theorem YD {pl:Sem Bool}(he:PE X o ta)
  (ht:eval (.Call (.Attribute o m apos) [] [] pos) X.env=(do
   let ov ← eval o X.env
   standAt apos.atName
   let (f,first) ← holding [ov] (getMethod ov m pl)
   callWith pos f first (backTo pos (starEach [] X.env)) (backToKw pos (keywordEach [] X.env))):=by rfl) :
  PE X (.Call (.Attribute o m apos) [] [] pos) (uo X m ta Ub):=by
 intro pins s σ H Q I h
 refine PySem.W.methodCall_KW (pl:=pl) (thn (he pins s σ H _ I h) fun u s1 hq0=>?_) ht
 obtain⟨x,H1,I1,rx,a,C,dx,fs,f,fd,ps,k,sp,ex,ea,l,cl,hm,F,hr,hb,q⟩:=hq0
 subst ex
 obtain rfl:u=Value.ref a:=rx
 refine yD I1 ea cl hm l ?_
 exact PySem.W.callWith_K0 (first:=[.ref a]) I1.kIn hm.kp (run_fn (us:=[.ref a]) (vs:=[.ref a]) F hr hb .nil YE I1 (.cons rfl .nil) q)
end
section
variable {X:Cx}{pins:List (Addr×Obj)}{σ:St}{H:Hp}{s:Shared}{a b:Addr}{xs ys:List V}
theorem Inv.turnedLaid {h':Heap}{t':Nat}{ch:List Addr}{T:Addr}{o:HO}(I:Inv X pins σ H s) (hf:∀ b∈ch,FpOk X pins H b) (k:∀ b u,b∉ch→s.heap.get? b=some u→h'.get? b=some u) (hT:s.heap.objs.size≤T)
  (new:ObjOk X.prog X.w (upd H T o) h' T o):Inv X pins σ (upd H T o) { s with heap:=h',toks:=t' }:=by
 have hn:H T=none:=I.hok.fresh hT
 have nch:∀ b u,H b=some u→b∉ch:=fun b u e hb=>by rw[(hf b hb).1] at e;cases e
 have neT:∀ b u,s.heap.get? b=some u→b≠T:=fun b u e=>Nat.ne_of_lt (Nat.lt_of_lt_of_le (Heap.lt_size e) hT)
 refine I.step (g':=s.gens) (d':=s.drawn) (ch:=ch) (fun b hb=>?_) (fun b u _ _ hc e _=>k b u hc e) (fun b u _ _ hc e _=>⟨u.slots,k b u hc e⟩) (fun b u _ e n=>?_) (fun b u hc e=>⟨u,k b u hc e⟩)
  (fun b zs e=>?_) (fun b ob u e=>?_) (fun b ps e=>⟨#[],?_⟩) (fun m hm=>?_) (fun b u e=>?_) I.bare
 ·exact⟨(hf b hb).2.2.2.1,(hf b hb).2.1,(hf b hb).2.2.2.2.1,(hf b hb).2.2.2.2.2⟩
 ·rw[upd_ne (neT b u e)];exact n
 ·rw[upd_ne (ne_of_none e hn)];exact e
 ·rw[upd_ne (ne_of_none e hn)];exact e
 ·rw[upd_ne (ne_of_none e hn),e];simp
 ·obtain⟨ob,es,ep,ho,r⟩:=hm
  exact⟨ob,es,ep,k _ ob (fun hb=>(hf _ hb).2.1 rfl) ho,r⟩
 ·by_cases hb:b=T
  ·subst hb
   rw[upd_same] at e
   cases e
   exact new
  ·rw[upd_ne hb] at e
   refine(I.hok b u e).stay (fun c v hc q=>k c v ?_ q) (fun c q=>by rw[upd_ne (ne_of_none q hn)];exact q) fun c zs q=>by rw[upd_ne (ne_of_none q hn)];exact q
   rcases hc with z | z
   ·rw[z];exact nch b u e
   ·exact nch c _ z
end
theorem zfS {X:Cx}{x:Str}{C:Addr}{pos:Pos}(hm:X.mg x=some (.ref C)) (hg:Gl X x:=by rfl) (hd:(x == ("__debug__" : Str))=false:=by decide):PE X (.Name x pos) (tC (.ref C)):=wB hg hm rfl hd
theorem wc {X:Cx}{x:Str}{n:String}{pos:Pos}(hm:X.mg x=none) (hv:bootBuiltins x=some (.type n)) (hg:Gl X x:=by rfl) (hn:x ≠ "__name__" := by decide) (hd:(x == ("__debug__" : Str))=false:=by decide):PE X (.Name x pos) (tC (.ty n)):=VG hg hm hv rfl hn hd
theorem zU:bootBuiltins "len" = some (.builtin "len"):=by decide +kernel
theorem Vb:bootBuiltins "int" = some (.type "int"):=by decide +kernel
theorem bt_min:bootBuiltins "min" = some (.builtin "min"):=by decide +kernel
theorem bt_max:bootBuiltins "max" = some (.builtin "max"):=by decide +kernel
theorem zw:bootBuiltins "isinstance" = some (.builtin "isinstance"):=by decide +kernel
theorem xS:bootBuiltins "list" = some (.type "list"):=by decide +kernel
theorem xT:bootBuiltins "dict" = some (.type "dict"):=by decide +kernel
theorem zhh:bootBuiltins "abs" = some (.builtin "abs"):=by decide +kernel
theorem y0:bootBuiltins "sorted" = some (.builtin "sorted"):=by decide +kernel
theorem Xf:bootBuiltins "str" = some (.type "str"):=by decide +kernel
theorem Va:bootBuiltins "sum" = some (.builtin "sum"):=by decide +kernel
theorem Xg:bootBuiltins "bool" = some (.type "bool"):=by decide +kernel
theorem uL:bootBuiltins "tuple" = some (.type "tuple"):=by decide +kernel
theorem xQ {ns:List Int}{i:Nat}(h:i<ns.length):ns.getD i 0=ns[i]:=by simp[List.getD,h]
theorem xD {ns:List Int}{its:List Value}(r:Vals (ns.map V.int) its){i:Nat}{v:Value}(e:its.toArray[i]?=some v):∃ t,v=.int (ns.getD i 0) t:=by
 have e':its[i]?=some v:=by simpa using e
 have hi:i<its.length:=(List.getElem?_eq_some_iff.mp e').1
 have hl:=r.length
 rw[List.length_map] at hl
 have hb:i<ns.length:=by omega
 obtain⟨u,e2,ru⟩:=r.get (i:=i) (x:=V.int ns[i]) (by simp[hb])
 rw[e'] at e2
 cases e2
 obtain⟨t,rfl⟩:=ru
 exact⟨t,by rw[xQ hb]⟩
theorem Xj (val:Nat→Int):∀ k,argBest (fun i j=>decide (val i>val j)) k≤k∧∀ j,j≤k→val j≤val (argBest (fun i j=>decide (val i>val j)) k)
 |0=>⟨Nat.le_refl _,fun j hj=>by rw[Nat.le_zero.mp hj];exact Int.le_refl _⟩
 |k+1=>by
  obtain⟨h1,h2⟩:=Xj val k
  show(if decide (val (k+1)>val (argBest _ k))=true then k+1 else argBest _ k)≤k+1∧∀ j,j≤k+1→val j≤val (if decide (val (k+1)>val (argBest _ k))=true then k+1 else argBest _ k)
  by_cases q:val (k+1)>val (argBest (fun i j=>decide (val i>val j)) k)
  ·rw[if_pos (decide_eq_true q)]
   refine⟨Nat.le_refl _,fun j hj=>?_⟩
   by_cases e:j=k+1
   ·rw[e];exact Int.le_refl _
   ·have:=h2 j (by omega)
    omega
  ·rw[if_neg (fun z=>q (of_decide_eq_true z))]
   refine⟨Nat.le_succ_of_le h1,fun j hj=>?_⟩
   by_cases e:j=k+1
   ·rw[e];omega
   ·exact h2 j (by omega)
theorem Xi (val:Nat→Int):∀ k,argBest (fun i j=>decide (val i<val j)) k≤k∧∀ j,j≤k→val (argBest (fun i j=>decide (val i<val j)) k)≤val j
 |0=>⟨Nat.le_refl _,fun j hj=>by rw[Nat.le_zero.mp hj];exact Int.le_refl _⟩
 |k+1=>by
  obtain⟨h1,h2⟩:=Xi val k
  show(if decide (val (k+1)<val (argBest _ k))=true then k+1 else argBest _ k)≤k+1∧∀ j,j≤k+1→val (if decide (val (k+1)<val (argBest _ k))=true then k+1 else argBest _ k)≤val j
  by_cases q:val (k+1)<val (argBest (fun i j=>decide (val i<val j)) k)
  ·rw[if_pos (decide_eq_true q)]
   refine⟨Nat.le_refl _,fun j hj=>?_⟩
   by_cases e:j=k+1
   ·rw[e];exact Int.le_refl _
   ·have:=h2 j (by omega)
    omega
  ·rw[if_neg (fun z=>q (of_decide_eq_true z))]
   refine⟨Nat.le_succ_of_le h1,fun j hj=>?_⟩
   by_cases e:j=k+1
   ·rw[e];omega
   ·exact h2 j (by omega)
noncomputable abbrev bst (u:Value) (c:Nat):Obj:={ cls:=.type "list",data:=.seq #[u,u] c }
section
variable {P:Program}{w:World}{A:Around}{R:Result→Shared→Prop}{I S:Addr}{fp wr:List Addr}{n:Nat}{Is:Nat→Value→Prop}{St:Nat→Heap→Prop}{kw:List (Str×Value)}
theorem VZ (W:Walks P w A.in1 I fp wr n Is St) (bt:Nat→Nat→Bool) (cm:CmpOf P w A.in1 .Gt Is bt) (nf:S∉fp):∀ (r j:Nat) (t:Shared) (u:Value) (c:Nat),n=j+1+r→St (j+1) t.heap→Is (argBest bt j) u→t.heap.get? S=some (bst u c) →
  (∀ v h' tk,Is (argBest bt (n-1)) v→(∀ b o,b∉wr→b≠S→t.heap.get? b=some o→h'.get? b=some o)→R (.ok (.ret v)) { t with heap:=h',toks:=tk })→codeAny (model P w) A (.builtin "max.loop" ⟨[.ref I,.none,.ref S],kw⟩) R t:=by
 have nw:S∉wr:=fun z=>nf (W.sub _ z)
 have nm:(toString "max" ++ toString ".loop" : String) = "max.loop" := by decide
 intro r
 induction r with
 |zero =>
  intro j t u c hn st iu at_ fin
  subst hn
  refine codeAny_builtin F.entry_max_loop (by
   rw[Around.under_plainId F.plain_max_loop _]
   show wpAny _ A.in1 (seqItems? (.ref S) >>= _) _ _ t
   refine wpAny_bind (wpAny_seqItems at_ rfl (by
    show wpAny _ A.in1 (tryCatch (pyNext (.ref I)) _ >>= _) _ _ t
    refine wpAny_bind (wpAny_tryCatch (W.done t _ _ st fun h1 tk kk=>?_))
    show wpAny _ A.in1 (updateSeq S (fun _=>#[]) >>= _) _ _ _
    refine wpAny_bind (wpAny_updateSeq (kk S _ nw at_) rfl (wpAny_bind (wpAny_letGo (wpAny_pure ?_))))
    exact fin u _ tk iu fun b o n1 n2 e=>(Heap.get?_update_other _ _ n2.symm).trans (kk b o n1 e))))
 |succ r ih =>
  intro j t u c hn st iu at_ fin
  refine codeAny_builtin F.entry_max_loop (by
   rw[Around.under_plainId F.plain_max_loop _]
   show wpAny _ A.in1 (seqItems? (.ref S) >>= _) _ _ t
   refine wpAny_bind (wpAny_seqItems at_ rfl (by
    show wpAny _ A.in1 (tryCatch (pyNext (.ref I)) _ >>= _) _ _ t
    refine wpAny_bind (wpAny_tryCatch (W.item (j+1) t _ _ (by omega) st fun v h1 tk iv st1 kk=>?_))
    have at1:=kk S _ nw at_
    show wpAny _ A.in1 (tryCatch (holding [v,v] (richCompare .Gt v u >>= _)) _ >>= _) _ _ _
    refine wpAny_bind (wpAny_tryCatch (wpAny_holding (wpAny_bind (cm (j+1) (argBest bt j) v u _ _ _ iv iu (wpAny_bind (wpAny_holding (wpAny_truthy_bool (wpAny_bind (wpAny_letGo (wpAny_pure ?_))))))))))
    by_cases q:bt (j+1) (argBest bt j)=true
    ·have ab:argBest bt (j+1)=j+1:=by show(if bt (j+1) (argBest bt j)=true then j+1 else argBest bt j)=_;rw[if_pos q]
     rw[if_pos q]
     refine wpAny_bind (wpAny_updateSeq at1 rfl (wpAny_bind (wpAny_letGo ?_)))
     rw[nm]
     refine wpAny_pure ⟨plainId_quiet F.plain_max_loop _,ih (j+1) _ v _ (by omega) (W.frame _ _ _ st1 fun b hb o e=>(Heap.get?_update_other _ _ fun z:S=b=>nf (z ▸ hb)).trans e) (by rw[ab];exact iv) (Heap.get?_update_self _ at1 rfl) fun v2 h2 tk2 iv2 kk2=>?_⟩
     exact fin v2 h2 tk2 iv2 fun b o n1 n2 e=>kk2 b o n1 n2 ((Heap.get?_update_other _ _ n2.symm).trans (kk b o n1 e))
    ·have ab:argBest bt (j+1)=argBest bt j:=by show(if bt (j+1) (argBest bt j)=true then j+1 else argBest bt j)=_;rw[if_neg q]
     rw[if_neg q]
     refine wpAny_bind (wpAny_letGo ?_)
     rw[nm]
     exact wpAny_pure ⟨plainId_quiet F.plain_max_loop _,ih (j+1) _ u c (by omega) st1 (by rw[ab];exact iu) at1 fun v2 h2 tk2 iv2 kk2=>fin v2 h2 tk2 iv2 fun b o n1 n2 e=>kk2 b o n1 n2 (kk b o n1 e)⟩)))
theorem Wr {d:Value}{x:Str}(W:Walks P w A.in1 I fp wr n Is St) (bt:Nat→Nat→Bool) (cm:CmpOf P w A.in1 .Gt Is bt) (nf:S∉fp){t:Shared}{c:Nat}(st:St 0 t.heap)
  (at_:t.heap.get? S=some { cls:=.type "list",data:=.seq #[] c }) (fin:∀ v h' tk,((n=0∧v=d)∨(0<n∧Is (argBest bt (n-1)) v))→(∀ b o,b∉wr→b≠S→t.heap.get? b=some o→h'.get? b=some o)→R (.ok (.ret v)) { t with heap:=h',toks:=tk }) :
  codeAny (model P w) A (.builtin "max.loop" ⟨[.ref I,.none,.ref S],[(x,d)]⟩) R t:=by
 have nw:S∉wr:=fun z=>nf (W.sub _ z)
 have nm:(toString "max" ++ toString ".loop" : String) = "max.loop" := by decide
 refine codeAny_builtin F.entry_max_loop (by
  rw[Around.under_plainId F.plain_max_loop _]
  show wpAny _ A.in1 (seqItems? (.ref S) >>= _) _ _ t
  refine wpAny_bind (wpAny_seqItems at_ rfl (by
   show wpAny _ A.in1 (tryCatch (pyNext (.ref I)) _ >>= _) _ _ t
   by_cases hn:n=0
   ·subst hn
    refine wpAny_bind (wpAny_tryCatch (W.done t _ _ st fun h1 tk kk=>?_))
    show wpAny _ A.in1 (rule _ >>= _) _ _ _
    exact wpAny_bind (wpAny_rule (wpAny_pure (fin d h1 tk (.inl ⟨rfl,rfl⟩) fun b o n1 _ e=>kk b o n1 e)))
   ·refine wpAny_bind (wpAny_tryCatch (W.item 0 t _ _ (by omega) st fun v h1 tk iv st1 kk=>?_))
    have at1:=kk S _ nw at_
    show wpAny _ A.in1 (updateSeq S (fun _=>#[v,v]) >>= _) _ _ _
    refine wpAny_bind (wpAny_updateSeq at1 rfl ?_)
    rw[nm]
    refine wpAny_pure ⟨plainId_quiet F.plain_max_loop _,VZ W bt cm nf (n-1) 0 _ v _ (by omega) (W.frame _ _ _ st1 fun b hb o e=>(Heap.get?_update_other _ _ fun z:S=b=>nf (z ▸ hb)).trans e) iv (Heap.get?_update_self _ at1 rfl) fun v2 h2 tk2 iv2 kk2=>?_⟩
    exact fin v2 h2 tk2 (.inr ⟨by omega,iv2⟩) fun b o n1 n2 e=>kk2 b o n1 n2 ((Heap.get?_update_other _ _ n2.symm).trans (kk b o n1 e)))))
theorem Xm (a v:Value):argsOk "max" ⟨[a],[(Str.ofString "default",v)]⟩:=by unfold argsOk;kernel_rfl
theorem v6 {l:Addr}{its:List Value}{ns:List Int}{d:Value}{Q:Value→Shared→Prop}{E:Value→Shared→Prop}{s:Shared}(hh:A.handled=none) (hl:s.heap.IsList l its.toArray) (hr:Vals (ns.map V.int) its)
  (h:∀ v h' tk,((ns=[]∧v=d)∨∃ m t,v=.int m t∧m∈ns∧∀ y∈ns,y≤m)→(∀ b o,s.heap.get? b=some o→h'.get? b=some o)→Q v { s with heap:=h',toks:=tk }) :
  wpAny (model P w) A (call (.builtin "max") [.ref l] [(Str.ofString "default",d)]) Q E s:=by
 have nm:(toString "max" ++ toString ".loop" : String) = "max.loop" := by decide
 have lt:l<s.heap.objs.size:=by
  obtain⟨_,e,_⟩:=hl
  exact Heap.lt_size e
 have len:its.toArray.size=ns.length:=by
  have:=hr.length
  rw[List.length_map] at this
  simp[this]
 refine PyProof.Rows.kmk_tree F.kind_max F.plain_max F.entry_max (Xm _ _) (by
  show wpAny _ A.in1 (Builtin.Builtins.bindParams "max" ["key", "default"] 0 ⟨[],[(Str.ofString "default",d)]⟩ >>= _) _ _ s
  refine wpAny_bind (wpAny_of_eq (show Builtin.Builtins.bindParams "max" ["key", "default"] 0 ⟨[],[(Str.ofString "default",d)]⟩=pure [none,some d] from rfl) (wpAny_bind (wpAny_pure (wpAny_bind (wpAny_pyIter_list hl (wpAny_bind (wpAny_newObj_type ?_)))))))
  rw[nm]
  have W:=Walks.list (prog:=P) (w:=w) (A:=A.in1) hh s.heap.objs.size l (Nat.ne_of_lt lt) its.toArray
  have st:((s.heap.push { cls:=.type "list_iterator",data:=.fields #[.ref l,.int 0 0] }).IsListIter s.heap.objs.size l 0∧(s.heap.push { cls:=.type "list_iterator",data:=.fields #[.ref l,.int 0 0] }).IsList l its.toArray):=⟨⟨_,Heap.get?_push_size _ rfl,rfl,rfl⟩,hl.push _⟩
  have cm:=CmpOf.ints_gt (prog:=P) (w:=w) (A:=A.in1) (fun i=>ns.getD i 0) (fun i v e=>xD hr e)
  have nf:(s.heap.push { cls:=.type "list_iterator",data:=.fields #[.ref l,.int 0 0] }).objs.size∉[s.heap.objs.size,l]:=by
   intro z
   rw[Heap.size_push] at z
   rcases List.mem_cons.mp z with e | e
   ·exact Nat.succ_ne_self _ e
   ·exact Nat.lt_irrefl _ (Nat.lt_trans (Nat.lt_succ_self _) ((List.mem_singleton.mp e).symm ▸ lt))
  refine wpAny_pure ⟨plainId_quiet F.plain_max_loop _,Wr (c:=0) W _ cm nf (W.frame _ _ _ st fun b _ o e=>Heap.get?_push_of_some _ e) (Heap.get?_push_size _ rfl) fun v h' tk hv kk=>?_⟩
  refine h v h' tk ?_ fun b o e=>kk b o (fun z=>?_) (fun z=>?_) (Heap.get?_push_of_some _ (Heap.get?_push_of_some _ e))
  ·rcases hv with⟨z,e⟩ | ⟨z,e⟩
   ·left
    exact⟨List.eq_nil_of_length_eq_zero (by omega),e⟩
   ·right
    obtain⟨t,et⟩:=xD hr e
    have hb:=Xj (fun i=>ns.getD i 0) (its.toArray.size-1)
    refine⟨_,t,et,?_,fun y hy=>?_⟩
    ·have hi:=hb.1
     rw[xQ (by omega)]
     exact List.getElem_mem _
    ·obtain⟨i,hi,rfl⟩:=List.mem_iff_getElem.mp hy
     have:=hb.2 i (by omega)
     rw[show(ns.getD i 0)=ns[i] from xQ hi] at this
     exact this
  ·rw[List.mem_singleton.mp z] at e
   exact Nat.lt_irrefl _ (Heap.lt_size e)
  ·have z2:b=s.heap.objs.size+1:=z.trans (Heap.size_push _ _)
   exact Nat.lt_irrefl _ (Nat.lt_trans (Nat.lt_succ_self _) (z2 ▸ Heap.lt_size e)))
def zar (K:PySem.W.Frag) (ta:TA) (td:TE):TE:=fun σ H Q=>ta σ H fun vs H1=>td σ H1 fun dv H2=>∃ a ns i,vs=[V.ref a]∧dv=.int i∧SqL K H2 a (ns.map V.int)∧∀ m:Int,((ns=[]∧m=i)∨(m∈ns∧∀ y∈ns,y≤m))→Q (.int m) H2
theorem Vy {X:Cx}{e dv:Expr}{ta:TA}{td:TE}{p kp pos:Pos}(hc:X.calm=true) (hg:Gl X "max") (hm:X.mg "max" = none) (ha:PA X [e] ta) (hd:PE X dv td) (hs:starEach [e] X.env=[(false,eval e X.env)]:=by rfl) :
  PE X (.Call (.Name "max" p) [e] [⟨some "default",dv,kp⟩] pos) (zar X.K ta td):=by
 intro pins s σ H Q I h
 refine wpAny_Call_Name_kw (ld_blt I hg hm bt_max ?_)
 refine PyProof.Rows.callWith_kw (thn (ha pos pins s σ H _ I h) fun us s1 ⟨vs,H1,I1,r1,q1⟩=>PyProof.Rows.kws_cons (thn (hd pins s1 σ H1 _ I1 q1) fun u s2 ⟨y,H2,I2,r2,q2⟩=>PyProof.Rows.kws_nil ?_)) (by rw[hs];rfl) (by rw[hs];rfl)
 obtain⟨a,ns,i,rfl,rfl,hl,q⟩:=q2
 obtain⟨z,rfl,rz⟩:=r1.one
 cases rz
 obtain⟨tk0,rfl⟩:=r2
 obtain⟨its,rv,pl,_⟩:=I2.list hl
 refine v6 (I2.ok.hd hc) pl.isList rv fun v h' tk hv kk=>?_
 rcases hv with⟨e1,rfl⟩ | ⟨m,t,rfl,hm⟩
 ·exact⟨.int i,H2,I2.kept (t':=tk) kk,⟨_,rfl⟩,q i (.inl ⟨e1,rfl⟩)⟩
 ·exact⟨.int m,H2,I2.kept (t':=tk) kk,⟨_,rfl⟩,q m (.inr hm)⟩
theorem VX (W:Walks P w A.in1 I fp wr n Is St) (bt:Nat→Nat→Bool) (cm:CmpOf P w A.in1 .Lt Is bt) (nf:S∉fp):∀ (r j:Nat) (t:Shared) (u:Value) (c:Nat),n=j+1+r→St (j+1) t.heap→Is (argBest bt j) u→t.heap.get? S=some (bst u c) →
  (∀ v h' tk,Is (argBest bt (n-1)) v→(∀ b o,b∉wr→b≠S→t.heap.get? b=some o→h'.get? b=some o)→R (.ok (.ret v)) { t with heap:=h',toks:=tk })→codeAny (model P w) A (.builtin "min.loop" ⟨[.ref I,.none,.ref S],kw⟩) R t:=by
 have nw:S∉wr:=fun z=>nf (W.sub _ z)
 have nm:(toString "min" ++ toString ".loop" : String) = "min.loop" := by decide
 intro r
 induction r with
 |zero =>
  intro j t u c hn st iu at_ fin
  subst hn
  refine codeAny_builtin F.entry_min_loop (by
   rw[Around.under_plainId F.plain_min_loop _]
   show wpAny _ A.in1 (seqItems? (.ref S) >>= _) _ _ t
   refine wpAny_bind (wpAny_seqItems at_ rfl (by
    show wpAny _ A.in1 (tryCatch (pyNext (.ref I)) _ >>= _) _ _ t
    refine wpAny_bind (wpAny_tryCatch (W.done t _ _ st fun h1 tk kk=>?_))
    show wpAny _ A.in1 (updateSeq S (fun _=>#[]) >>= _) _ _ _
    refine wpAny_bind (wpAny_updateSeq (kk S _ nw at_) rfl (wpAny_bind (wpAny_letGo (wpAny_pure ?_))))
    exact fin u _ tk iu fun b o n1 n2 e=>(Heap.get?_update_other _ _ n2.symm).trans (kk b o n1 e))))
 |succ r ih =>
  intro j t u c hn st iu at_ fin
  refine codeAny_builtin F.entry_min_loop (by
   rw[Around.under_plainId F.plain_min_loop _]
   show wpAny _ A.in1 (seqItems? (.ref S) >>= _) _ _ t
   refine wpAny_bind (wpAny_seqItems at_ rfl (by
    show wpAny _ A.in1 (tryCatch (pyNext (.ref I)) _ >>= _) _ _ t
    refine wpAny_bind (wpAny_tryCatch (W.item (j+1) t _ _ (by omega) st fun v h1 tk iv st1 kk=>?_))
    have at1:=kk S _ nw at_
    show wpAny _ A.in1 (tryCatch (holding [v,v] (richCompare .Lt v u >>= _)) _ >>= _) _ _ _
    refine wpAny_bind (wpAny_tryCatch (wpAny_holding (wpAny_bind (cm (j+1) (argBest bt j) v u _ _ _ iv iu (wpAny_bind (wpAny_holding (wpAny_truthy_bool (wpAny_bind (wpAny_letGo (wpAny_pure ?_))))))))))
    by_cases q:bt (j+1) (argBest bt j)=true
    ·have ab:argBest bt (j+1)=j+1:=by show(if bt (j+1) (argBest bt j)=true then j+1 else argBest bt j)=_;rw[if_pos q]
     rw[if_pos q]
     refine wpAny_bind (wpAny_updateSeq at1 rfl (wpAny_bind (wpAny_letGo ?_)))
     rw[nm]
     refine wpAny_pure ⟨plainId_quiet F.plain_min_loop _,ih (j+1) _ v _ (by omega) (W.frame _ _ _ st1 fun b hb o e=>(Heap.get?_update_other _ _ fun z:S=b=>nf (z ▸ hb)).trans e) (by rw[ab];exact iv) (Heap.get?_update_self _ at1 rfl) fun v2 h2 tk2 iv2 kk2=>?_⟩
     exact fin v2 h2 tk2 iv2 fun b o n1 n2 e=>kk2 b o n1 n2 ((Heap.get?_update_other _ _ n2.symm).trans (kk b o n1 e))
    ·have ab:argBest bt (j+1)=argBest bt j:=by show(if bt (j+1) (argBest bt j)=true then j+1 else argBest bt j)=_;rw[if_neg q]
     rw[if_neg q]
     refine wpAny_bind (wpAny_letGo ?_)
     rw[nm]
     exact wpAny_pure ⟨plainId_quiet F.plain_min_loop _,ih (j+1) _ u c (by omega) st1 (by rw[ab];exact iu) at1 fun v2 h2 tk2 iv2 kk2=>fin v2 h2 tk2 iv2 fun b o n1 n2 e=>kk2 b o n1 n2 (kk b o n1 e)⟩)))
theorem Wo {d:Value}{x:Str}(W:Walks P w A.in1 I fp wr n Is St) (bt:Nat→Nat→Bool) (cm:CmpOf P w A.in1 .Lt Is bt) (nf:S∉fp){t:Shared}{c:Nat}(st:St 0 t.heap)
  (at_:t.heap.get? S=some { cls:=.type "list",data:=.seq #[] c }) (fin:∀ v h' tk,((n=0∧v=d)∨(0<n∧Is (argBest bt (n-1)) v))→(∀ b o,b∉wr→b≠S→t.heap.get? b=some o→h'.get? b=some o)→R (.ok (.ret v)) { t with heap:=h',toks:=tk }) :
  codeAny (model P w) A (.builtin "min.loop" ⟨[.ref I,.none,.ref S],[(x,d)]⟩) R t:=by
 have nw:S∉wr:=fun z=>nf (W.sub _ z)
 have nm:(toString "min" ++ toString ".loop" : String) = "min.loop" := by decide
 refine codeAny_builtin F.entry_min_loop (by
  rw[Around.under_plainId F.plain_min_loop _]
  show wpAny _ A.in1 (seqItems? (.ref S) >>= _) _ _ t
  refine wpAny_bind (wpAny_seqItems at_ rfl (by
   show wpAny _ A.in1 (tryCatch (pyNext (.ref I)) _ >>= _) _ _ t
   by_cases hn:n=0
   ·subst hn
    refine wpAny_bind (wpAny_tryCatch (W.done t _ _ st fun h1 tk kk=>?_))
    show wpAny _ A.in1 (rule _ >>= _) _ _ _
    exact wpAny_bind (wpAny_rule (wpAny_pure (fin d h1 tk (.inl ⟨rfl,rfl⟩) fun b o n1 _ e=>kk b o n1 e)))
   ·refine wpAny_bind (wpAny_tryCatch (W.item 0 t _ _ (by omega) st fun v h1 tk iv st1 kk=>?_))
    have at1:=kk S _ nw at_
    show wpAny _ A.in1 (updateSeq S (fun _=>#[v,v]) >>= _) _ _ _
    refine wpAny_bind (wpAny_updateSeq at1 rfl ?_)
    rw[nm]
    refine wpAny_pure ⟨plainId_quiet F.plain_min_loop _,VX W bt cm nf (n-1) 0 _ v _ (by omega) (W.frame _ _ _ st1 fun b hb o e=>(Heap.get?_update_other _ _ fun z:S=b=>nf (z ▸ hb)).trans e) iv (Heap.get?_update_self _ at1 rfl) fun v2 h2 tk2 iv2 kk2=>?_⟩
    exact fin v2 h2 tk2 (.inr ⟨by omega,iv2⟩) fun b o n1 n2 e=>kk2 b o n1 n2 ((Heap.get?_update_other _ _ n2.symm).trans (kk b o n1 e)))))
theorem Xl (a v:Value):argsOk "min" ⟨[a],[(Str.ofString "default",v)]⟩:=by unfold argsOk;kernel_rfl
theorem v5 {l:Addr}{its:List Value}{ns:List Int}{d:Value}{Q:Value→Shared→Prop}{E:Value→Shared→Prop}{s:Shared}(hh:A.handled=none) (hl:s.heap.IsList l its.toArray) (hr:Vals (ns.map V.int) its)
  (h:∀ v h' tk,((ns=[]∧v=d)∨∃ m t,v=.int m t∧m∈ns∧∀ y∈ns,m≤y)→(∀ b o,s.heap.get? b=some o→h'.get? b=some o)→Q v { s with heap:=h',toks:=tk }) :
  wpAny (model P w) A (call (.builtin "min") [.ref l] [(Str.ofString "default",d)]) Q E s:=by
 have nm:(toString "min" ++ toString ".loop" : String) = "min.loop" := by decide
 have lt:l<s.heap.objs.size:=by
  obtain⟨_,e,_⟩:=hl
  exact Heap.lt_size e
 have len:its.toArray.size=ns.length:=by
  have:=hr.length
  rw[List.length_map] at this
  simp[this]
 refine PyProof.Rows.kmk_tree F.kind_min F.plain_min F.entry_min (Xl _ _) (by
  show wpAny _ A.in1 (Builtin.Builtins.bindParams "min" ["key", "default"] 0 ⟨[],[(Str.ofString "default",d)]⟩ >>= _) _ _ s
  refine wpAny_bind (wpAny_of_eq (show Builtin.Builtins.bindParams "min" ["key", "default"] 0 ⟨[],[(Str.ofString "default",d)]⟩=pure [none,some d] from rfl) (wpAny_bind (wpAny_pure (wpAny_bind (wpAny_pyIter_list hl (wpAny_bind (wpAny_newObj_type ?_)))))))
  rw[nm]
  have W:=Walks.list (prog:=P) (w:=w) (A:=A.in1) hh s.heap.objs.size l (Nat.ne_of_lt lt) its.toArray
  have st:((s.heap.push { cls:=.type "list_iterator",data:=.fields #[.ref l,.int 0 0] }).IsListIter s.heap.objs.size l 0∧(s.heap.push { cls:=.type "list_iterator",data:=.fields #[.ref l,.int 0 0] }).IsList l its.toArray):=⟨⟨_,Heap.get?_push_size _ rfl,rfl,rfl⟩,hl.push _⟩
  have cm:=CmpOf.ints_lt (prog:=P) (w:=w) (A:=A.in1) (fun i=>ns.getD i 0) (fun i v e=>xD hr e)
  have nf:(s.heap.push { cls:=.type "list_iterator",data:=.fields #[.ref l,.int 0 0] }).objs.size∉[s.heap.objs.size,l]:=by
   intro z
   rw[Heap.size_push] at z
   rcases List.mem_cons.mp z with e | e
   ·exact Nat.succ_ne_self _ e
   ·exact Nat.lt_irrefl _ (Nat.lt_trans (Nat.lt_succ_self _) ((List.mem_singleton.mp e).symm ▸ lt))
  refine wpAny_pure ⟨plainId_quiet F.plain_min_loop _,Wo (c:=0) W _ cm nf (W.frame _ _ _ st fun b _ o e=>Heap.get?_push_of_some _ e) (Heap.get?_push_size _ rfl) fun v h' tk hv kk=>?_⟩
  refine h v h' tk ?_ fun b o e=>kk b o (fun z=>?_) (fun z=>?_) (Heap.get?_push_of_some _ (Heap.get?_push_of_some _ e))
  ·rcases hv with⟨z,e⟩ | ⟨z,e⟩
   ·left
    exact⟨List.eq_nil_of_length_eq_zero (by omega),e⟩
   ·right
    obtain⟨t,et⟩:=xD hr e
    have hb:=Xi (fun i=>ns.getD i 0) (its.toArray.size-1)
    refine⟨_,t,et,?_,fun y hy=>?_⟩
    ·have hi:=hb.1
     rw[xQ (by omega)]
     exact List.getElem_mem _
    ·obtain⟨i,hi,rfl⟩:=List.mem_iff_getElem.mp hy
     have:=hb.2 i (by omega)
     rw[show(ns.getD i 0)=ns[i] from xQ hi] at this
     exact this
  ·rw[List.mem_singleton.mp z] at e
   exact Nat.lt_irrefl _ (Heap.lt_size e)
  ·have z2:b=s.heap.objs.size+1:=z.trans (Heap.size_push _ _)
   exact Nat.lt_irrefl _ (Nat.lt_trans (Nat.lt_succ_self _) (z2 ▸ Heap.lt_size e)))
def zap (K:PySem.W.Frag) (ta:TA) (td:TE):TE:=fun σ H Q=>ta σ H fun vs H1=>td σ H1 fun dv H2=>∃ a ns i,vs=[V.ref a]∧dv=.int i∧SqL K H2 a (ns.map V.int)∧∀ m:Int,((ns=[]∧m=i)∨(m∈ns∧∀ y∈ns,m≤y))→Q (.int m) H2
theorem Vw {X:Cx}{e dv:Expr}{ta:TA}{td:TE}{p kp pos:Pos}(hc:X.calm=true) (hg:Gl X "min") (hm:X.mg "min" = none) (ha:PA X [e] ta) (hd:PE X dv td) (hs:starEach [e] X.env=[(false,eval e X.env)]:=by rfl) :
  PE X (.Call (.Name "min" p) [e] [⟨some "default",dv,kp⟩] pos) (zap X.K ta td):=by
 intro pins s σ H Q I h
 refine wpAny_Call_Name_kw (ld_blt I hg hm bt_min ?_)
 refine PyProof.Rows.callWith_kw (thn (ha pos pins s σ H _ I h) fun us s1 ⟨vs,H1,I1,r1,q1⟩=>PyProof.Rows.kws_cons (thn (hd pins s1 σ H1 _ I1 q1) fun u s2 ⟨y,H2,I2,r2,q2⟩=>PyProof.Rows.kws_nil ?_)) (by rw[hs];rfl) (by rw[hs];rfl)
 obtain⟨a,ns,i,rfl,rfl,hl,q⟩:=q2
 obtain⟨z,rfl,rz⟩:=r1.one
 cases rz
 obtain⟨tk0,rfl⟩:=r2
 obtain⟨its,rv,pl,_⟩:=I2.list hl
 refine v5 (I2.ok.hd hc) pl.isList rv fun v h' tk hv kk=>?_
 rcases hv with⟨e1,rfl⟩ | ⟨m,t,rfl,hm⟩
 ·exact⟨.int i,H2,I2.kept (t':=tk) kk,⟨_,rfl⟩,q i (.inl ⟨e1,rfl⟩)⟩
 ·exact⟨.int m,H2,I2.kept (t':=tk) kk,⟨_,rfl⟩,q m (.inr hm)⟩
end
theorem uv (ns:List Int):∀ k,preSum (fun i=>ns.getD i 0) k=(ns.take k).sum
 |0=>by simp[preSum]
 |k+1=>by
  show preSum _ k+ns.getD k 0=_
  rw[uv ns k,List.take_add_one]
  cases q:ns[k]? with
  |none=>simp[List.getD,q]
  |some x=>simp[List.getD,q]
def zjP (K:PySem.W.Frag):List V→Hp→VK→Prop:=fun xs H Q=>∃ (a:Addr) (ns:List Int),xs=[V.ref a]∧SqL K H a (ns.map V.int)∧Q (.int ns.sum) H
section
variable {X:Cx}
theorem call_sumI (hc:X.calm=true):yu X (.builtin "sum") (zjP X.K):=by
 intro pins s σ H xs us Q I r h
 obtain⟨a,ns,rfl,ha,q⟩:=h
 obtain⟨u,rfl,ru⟩:=r.one
 cases ru
 obtain⟨its,rv,p,hz⟩:=I.list ha
 have lt:a<s.heap.objs.size:=by
  obtain⟨_,e,_⟩:=p.isList
  exact Heap.lt_size e
 refine call_sum_walkAnyS (wpAny_pyIter_list p.isList ?_)
 refine⟨s.heap.objs.size,_,_,_,_,_,_,fun i=>ns.getD i 0,rfl,(Walks.list (A:=X.A.in1) (show X.A.in1.handled=none from I.ok.hd hc) s.heap.objs.size a (Nat.ne_of_lt lt) its.toArray).toS,⟨⟨_,Heap.get?_push_size _ rfl,rfl,rfl⟩,p.isList.push _⟩,fun b hb=>?_,fun i v hv=>xD rv hv,fun s' t' hm=>?_⟩
 ·show b<(s.heap.push _).objs.size
  rw[Heap.size_push]
  have z:b=s.heap.objs.size∨b=a:=by simpa using hb
  rcases z with z | z
  ·rw[z];exact Nat.lt_succ_self _
  ·rw[z];exact Nat.lt_succ_of_lt lt
 ·obtain⟨h',g',d',tk',os'⟩:=s'
  have e1:g'=s.gens:=hm.gens
  have e2:d'=s.drawn:=hm.drawn
  have e3:os'=s.os:=hm.os
  subst e1 e2 e3
  have hl:=rv.length
  rw[List.length_map] at hl
  rw[uv,List.size_toArray,← hl,List.take_length]
  exact⟨.int _,H,I.kept (t':=tk') fun b o e=>hm.heap b o (fun z=>by
   rw[List.mem_singleton.mp z] at e
   exact Nat.lt_irrefl _ (Heap.lt_size e)) (Heap.get?_push_of_some _ e),⟨_,rfl⟩,q⟩
theorem YY:∀ {ns:List Int}{its:List Value},Vals (ns.map V.int) its→IntsAre its ns
 |[],_,r=>by cases r;exact .nil
 |n::ns,_,r=>by
  cases r with
  |cons h t =>
   obtain⟨k,rfl⟩:=h
   exact .cons _ _ (YY t)
theorem vY:∀ {ns:List Int}{its:List Value},IntsAre its ns→Vals (ns.map V.int) its
 |_,_,.nil=>.nil
 |_,_,.cons _ _ t=>.cons ⟨_,rfl⟩ (vY t)
def zfD (K:PySem.W.Frag):List V→Hp→VK→Prop:=fun xs H Q=>∃ (a:Addr) (ns:List Int),xs=[V.ref a]∧SqL K H a (ns.map V.int)∧ns.length<64∧∀ (p:Addr) (ms:List Int),H p=none→ms.Perm ns→ms.Pairwise (· ≤ ·)→Q (.ref p) (upd H p (.lst (ms.map V.int)))
theorem wm:yu X (.builtin "sorted") (zfD X.K):=by
 intro pins s σ H xs us Q I r h
 obtain⟨a,ns,rfl,ha,h64,q⟩:=h
 obtain⟨u,rfl,ru⟩:=r.one
 cases ru
 obtain⟨its,rv,p,hz⟩:=I.list ha
 have hl:=rv.length
 rw[List.length_map] at hl hz
 refine sorted_ints p.isList (YY rv) (by omega) fun out ms a1 a2 a3=>?_
 have hn:H (s.heap.objs.size+1)=none:=I.hok.fresh (Nat.le_succ _)
 obtain⟨c,hc⟩:=sortedAll_at s.heap its out
 refine⟨.ref _,_,I.laid (a:=s.heap.objs.size+1) (o:=.lst (ms.map V.int)) (t':=s.toks) (fun _ _ e=>sortedAll_old e) (Nat.le_succ _) ⟨?_,out.toList,c,vY a1,?_⟩,rfl,q _ ms hn a2 a3⟩
 ·rw[List.length_map,a2.length_eq];exact hz
 ·exact hc
end
theorem zfX {X:Cx}{f:Value→Value→Sem Value}{r1 r2:R2}(h1:OpR X f r1) (h2:OpR X f r2):OpR X f (fun x y H Q=>r1 x y H Q∨r2 x y H Q):=by
 intro pins s σ H x y v u Q I rx ry h
 rcases h with h | h
 ·exact h1 pins s σ H x y v u Q I rx ry h
 ·exact h2 pins s σ H x y v u Q I rx ry h
end L2
namespace K04
open PySem L2
inductive Ex where
 |num (i:Int)
 |name (x:Str)
 |two (w:Str) (e f:Ex)
 |mod (e:Ex) (n:Int)
 |less (e f g h:Ex)
noncomputable def Ex.dep:Ex→Nat
 |.num _=>1
 |.name _=>1
 |.two _ e f=>max e.dep f.dep+1
 |.mod e _=>e.dep+1
 |.less e f g h=>max (max e.dep f.dep) (max g.dep h.dep)+1
theorem Ex.dep_pos:∀ e:Ex,1≤e.dep
 |.num _=>Nat.le_refl _
 |.name _=>Nat.le_refl _
 |.two _ _ _=>Nat.le_add_left _ _
 |.mod _ _=>Nat.le_add_left _ _
 |.less _ _ _ _=>Nat.le_add_left _ _
noncomputable def Ex.val (ρ:Str→Int):Ex→Int
 |.num i=>i
 |.name x=>ρ x
 |.two w e f=>if w = "add" then e.val ρ+f.val ρ else if w = "sub" then e.val ρ-f.val ρ else if w = "min" then(if f.val ρ<e.val ρ then f.val ρ else e.val ρ) else(if f.val ρ>e.val ρ then f.val ρ else e.val ρ)
 |.mod e n=>e.val ρ%n
 |.less e f g h=>if e.val ρ<f.val ρ then g.val ρ else h.val ρ
abbrev znL (w:Str):Prop:=w = "add" ∨ w = "sub" ∨ w = "min" ∨ w = "max"
def Ex.ok (names:List Str):Ex→Prop
 |.num i=>-100000000000000000000<i∧i<100000000000000000000
 |.name x=>x∈names
 |.two w e f=>znL w∧e.ok names∧f.ok names
 |.mod e n=>(1≤n∧n≤1000000000)∧e.ok names
 |.less e f g h=>e.ok names∧f.ok names∧g.ok names∧h.ok names
def Ext (l:Addr) (H H':Hp):Prop:=∀ b o,H b=some o→b≠l→H' b=some o
theorem Ext.trans {l:Addr}{H H1 H2:Hp}(a:Ext l H H1) (b:Ext l H1 H2):Ext l H H2:=fun c o e n=>b c o (a c o e n) n
theorem Ext.same {l:Addr}{H H':Hp}(a:Same H H'):Ext l H H':=fun c o e _=>a c o e
theorem Ext.new {l p:Addr}{H:Hp}{o:HO}(h:H p=none):Ext l H (upd H p o):=fun c u e _=>by rw[upd_ne (ne_of_none e h)];exact e
theorem Ext.at {l:Addr}{H:Hp}{o:HO}:Ext l H (upd H l o):=fun c u e n=>by rw[upd_ne n];exact e
theorem Same.new {p:Addr}{H:Hp}{o:HO}(h:H p=none):Same H (upd H p o):=fun c u e=>by rw[upd_ne (ne_of_none e h)];exact e
def Told (H:Hp):Ex→V→Prop
 |.num i,v=>∃ p,v=.ref p∧H p=some (.tup [.str "num",.int i])
 |.name x,v=>∃ p,v=.ref p∧H p=some (.tup [.str "name",.str x])
 |.two w e f,v=>∃ p a b,v=.ref p∧H p=some (.tup [.str w,a,b])∧Told H e a∧Told H f b
 |.mod e n,v=>∃ p a,v=.ref p∧H p=some (.tup [.str "mod",a,.int n])∧Told H e a
 |.less e f g h,v=>∃ p a b c d,v=.ref p∧H p=some (.tup [.str "less",a,b,c,d])∧Told H e a∧Told H f b∧Told H g c∧Told H h d
theorem Told.mono {H H':Hp}(k:∀ b xs,H b=some (.tup xs)→H' b=some (.tup xs)):∀ {e:Ex}{v:V},Told H e v→Told H' e v
 |.num _,_,⟨p,e,h⟩=>⟨p,e,k _ _ h⟩
 |.name _,_,⟨p,e,h⟩=>⟨p,e,k _ _ h⟩
 |.two _ _ _,_,⟨p,a,b,e,h,t1,t2⟩=>⟨p,a,b,e,k _ _ h,t1.mono k,t2.mono k⟩
 |.mod _ _,_,⟨p,a,e,h,t1⟩=>⟨p,a,e,k _ _ h,t1.mono k⟩
 |.less _ _ _ _,_,⟨p,a,b,c,d,e,h,t1,t2,t3,t4⟩=>⟨p,a,b,c,d,e,k _ _ h,t1.mono k,t2.mono k,t3.mono k,t4.mono k⟩
theorem Told.same {H H':Hp}(k:Same H H'){e:Ex}{v:V}(t:Told H e v):Told H' e v:=t.mono fun b xs h=>k b _ h
theorem eqV_refl {x:V}(h:yM x=true):eqV x x=true:=by
 cases x<;>simp[yM] at h<;>simp[eqV]
theorem yZ {K:PySem.W.Frag}{H:Hp}{x:V}{n:Nat}(h:yM x=true):EqD K H x x true n:=by
 have:=EqD.flat (K:=K) (H:=H) (n:=n) h h
 rw[eqV_refl h] at this
 exact this
def rho (kvs:List (Key×V)) (x:Str):Int:=match xu kvs (Sum.inr x) with
 |some (.int i)=>i
 |_=>0
def Has (names:List Str) (kvs:List (Key×V)):Prop:=∀ x∈names,∃ i,xu kvs (Sum.inr x:Key)=some (.int i)
theorem Has.at {names:List Str}{kvs:List (Key×V)}(h:Has names kvs){x:Str}(hx:x∈names):xu kvs (Sum.inr x:Key)=some (.int (rho kvs x)):=by
 obtain⟨i,e⟩:=h x hx
 unfold rho
 rw[e]
theorem Same.made {H:Hp}{x dx C:Addr}{fs fs':List (Str×V)}(nx:H x=none) (ndx:H dx=none):Same H (upd (upd (upd H dx (.own x)) x (.ins C dx fs')) x (.ins C dx fs)):=fun b o e=>by
 rw[upd_ne (ne_of_none e nx),upd_ne (ne_of_none e nx),upd_ne (ne_of_none e ndx)]
 exact e
theorem zag {w:Str}(h:znL w):decide (V.str w=V.str "num")=false∧decide (V.str w=V.str "name")=false∧decide (V.str w=V.str "mod")=false∧decide (V.str w=V.str "less")=false:=by
 rcases h with rfl | rfl | rfl | rfl<;>decide +kernel
theorem zfK {x y d:Int}(h0:0≤d) (h3:d<2):∃ v,atI [V.int x,V.int y] d=some (.int v)∧(v=x∨v=y):=by
 have:d=0∨d=1:=by omega
 rcases this with rfl | rfl
 ·exact⟨x,rfl,.inl rfl⟩
 ·exact⟨y,rfl,.inr rfl⟩
theorem zjS:(10:Int) ^ (20:Int).toNat=100000000000000000000:=by decide
theorem zwT:(10:Int) ^ (9:Int).toNat=1000000000:=by decide
theorem zjT {xs:List Str}{d:Int}(h0:0≤d) (h1:d<(xs.map V.str).length):∃ x,x∈xs∧atI (xs.map V.str) d=some (V.str x):=by
 rw[List.length_map] at h1
 have hd:d.toNat<xs.length:=by omega
 refine⟨xs[d.toNat],List.getElem_mem hd,?_⟩
 unfold atI ixN
 rw[List.length_map,if_pos h0,if_pos h1]
 show(xs.map V.str)[d.toNat]?=_
 simp[hd]
theorem zfJ {d:Int}(h0:0≤d) (h4:d<4):∃ x,znL x∧atI [V.str "add",V.str "sub",V.str "min",V.str "max"] d=some (V.str x):=by
 have:d=0∨d=1∨d=2∨d=3:=by omega
 rcases this with rfl | rfl | rfl | rfl
 ·exact⟨"add",.inl rfl,rfl⟩
 ·exact⟨"sub",.inr (.inl rfl),rfl⟩
 ·exact⟨"min",.inr (.inr (.inl rfl)),rfl⟩
 ·exact⟨"max",.inr (.inr (.inr rfl)),rfl⟩
theorem gn_if {i:Nat}{v:V}{τ:St}{H:Hp}{A B:St→Hp→Prop}(h:A (τ.set i (some v)) H):v9 i v τ H fun τ2 H4=>zhk τ2 H4 fun b H5=>if b=true then A τ2 H5 else B τ2 H5:=by
 show if true=true then A (τ.set i (some v)) H else B (τ.set i (some v)) H
 exact XF h
theorem Told.updL {H:Hp}{D:Addr}{zs:List V}{o:HO}(hD:H D=some (.lst zs)){e:Ex}{v:V}(t:Told H e v):Told (upd H D o) e v:=t.mono fun b xs h=>by
 have hb:b≠D:=ne_of h hD (by intro z;cases z)
 rw[upd_ne hb]
 exact h
theorem log_1009:((1009:Int).natAbs.log2<9000):=by decide
theorem Wt:((2003:Int).natAbs.log2<9000):=by decide
noncomputable def znF:V→Bool
 |.int _=>true
 |.bl _=>true
 |_=>false
noncomputable def zwf:V→Bool
 |.bl _=>true
 |_=>false
noncomputable def zg6:V→Bool
 |.str _=>true
 |_=>false
def Lf (K:PySem.W.Frag) (H:Hp) (v:V):Prop:=∃ t,TyOf K H v t∧PySem.W.kitOne K t (.type "int")=some (znF v)∧PySem.W.kitOne K t (.type "bool")=some (zwf v)∧PySem.W.kitOne K t (.type "str")=some (zg6 v)
noncomputable def whole:V→Bool
 |.int _=>true
 |_=>false
noncomputable def ur:V→Bool
 |.int i=>decide ((if i<0 then -i else i)<100000000000000000000)
 |_=>false
def x8 (ws:List Str):V→Bool
 |.str x=>inV (.str x) (ws.map V.str)
 |_=>false
noncomputable def U8:V→Bool
 |.int i=>decide (1≤i)&&decide (i≤1000000000)
 |_=>false
theorem XH (v:V):whole v=(znF v&&!zwf v):=by cases v<;>rfl
theorem wP {v:V}(h:whole v=true):∃ i,v=.int i:=by
 cases v<;>simp[whole] at h
 exact⟨_,rfl⟩
theorem Wx {v:V}(h:zg6 v=true):∃ x,v=.str x:=by
 cases v<;>simp[zg6] at h
 exact⟨_,rfl⟩
theorem inV_str {x:Str}:∀ {ws:List Str},inV (.str x) (ws.map V.str)=true↔x∈ws
 |[]=>by simp[inV]
 |w::ws=>by
  have ih:=inV_str (x:=x) (ws:=ws)
  unfold inV at ih ⊢
  rw[List.map_cons,List.any_cons,Bool.or_eq_true,List.mem_cons,ih]
  constructor
  ·rintro(h | h)
   ·left
    have:V.str w=V.str x:=by simpa[eqV] using h
    cases this
    rfl
   ·exact .inr h
  ·rintro(h | h)
   ·left
    subst h
    exact eqV_refl rfl
   ·exact .inr h
theorem flat_strs (ws:List Str):(ws.map V.str).all yM=true:=by
 rw[List.all_eq_true]
 intro v hv
 obtain⟨x,_,rfl⟩:=List.mem_map.mp hv
 rfl
inductive Gx where
 |num (v:V)
 |name (v:V)
 |two (w:V) (e f:Gx)
 |mod (e:Gx) (n:V)
 |less (e f g h:Gx)
 |oth (v:V)
noncomputable abbrev twoWs:List Str:=["add", "sub", "min", "max"]
def Gx.sound (names:List Str):Nat→Gx→Bool
 |0,_=>false
 |_+1,.num v=>ur v
 |_+1,.name v=>x8 names v
 |n+1,.two w e f=>x8 twoWs w&&([e,f].all (Gx.sound names n))
 |n+1,.mod e v=>U8 v&&Gx.sound names n e
 |n+1,.less e f g h=>[e,f,g,h].all (Gx.sound names n)
 |_+1,.oth _=>false
noncomputable def Ex.gx:Ex→Gx
 |.num i=>.num (.int i)
 |.name x=>.name (.str x)
 |.two w e f=>.two (.str w) e.gx f.gx
 |.mod e n=>.mod e.gx (.int n)
 |.less e f g h=>.less e.gx f.gx g.gx h.gx
theorem Ex.sound {names:List Str}:∀ {n:Nat}{e:Ex},e.ok names→e.dep≤n→e.gx.sound names n=true
 |0,e,_,d=>by have:=e.dep_pos;omega
 |n+1,.num i,o,d=>by
  obtain⟨o1,o2⟩:=o
  show decide _=true
  refine decide_eq_true ?_
  split<;>omega
 |n+1,.name x,o,d=>inV_str.mpr o
 |n+1,.two w e f,o,d=>by
  obtain⟨hw,o1,o2⟩:=o
  have d:max e.dep f.dep+1≤n+1:=d
  have h1:=Ex.sound (n:=n) o1 (by omega)
  have h2:=Ex.sound (n:=n) o2 (by omega)
  show(inV (.str w) (twoWs.map V.str)&&([e.gx,f.gx].all _))=true
  have hw':inV (.str w) (twoWs.map V.str)=true:=inV_str.mpr (by rcases hw with rfl | rfl | rfl | rfl<;>simp)
  rw[hw']
  simp[h1,h2]
 |n+1,.mod e i,o,d=>by
  obtain⟨⟨i1,i2⟩,o1⟩:=o
  have d:e.dep+1≤n+1:=d
  have h1:=Ex.sound (n:=n) o1 (by omega)
  show((decide (1≤i)&&decide (i≤1000000000))&&e.gx.sound names n)=true
  simp[h1,i1,i2]
 |n+1,.less e f g h,o,d=>by
  obtain⟨o1,o2,o3,o4⟩:=o
  have d:max (max e.dep f.dep) (max g.dep h.dep)+1≤n+1:=d
  have h1:=Ex.sound (n:=n) o1 (by omega)
  have h2:=Ex.sound (n:=n) o2 (by omega)
  have h3:=Ex.sound (n:=n) o3 (by omega)
  have h4:=Ex.sound (n:=n) o4 (by omega)
  show([e.gx,f.gx,g.gx,h.gx].all _)=true
  simp[h1,h2,h3,h4]
noncomputable def Ex.words:Ex→List Str
 |.num i=>[toString i]
 |.name x=>[x]
 |.two w e f=>w::(e.words++f.words)
 |.mod e n => "mod" :: (e.words++[(toString n:Str)])
 |.less e f g h => "less" :: (e.words++(f.words++(g.words++h.words)))
noncomputable def Ex.size:Ex→Nat
 |.num _=>1
 |.name _=>1
 |.two _ e f=>1+e.size+f.size
 |.mod e _=>2+e.size
 |.less e f g h=>1+e.size+f.size+g.size+h.size
theorem Ex.words_len:∀ e:Ex,e.words.length=e.size
 |.num _=>rfl
 |.name _=>rfl
 |.two _ e f=>by simp[Ex.words,Ex.size,Ex.words_len e,Ex.words_len f];omega
 |.mod e _=>by simp[Ex.words,Ex.size,Ex.words_len e];omega
 |.less e f g h=>by simp[Ex.words,Ex.size,Ex.words_len e,Ex.words_len f,Ex.words_len g,Ex.words_len h];omega
end K04
namespace L2
open PySem PySem.Spec PyProof.Rows
section
variable {P:Program}{w:World}{H H':Hp}{h h':Heap}{a:Addr}{o:HO}
theorem ObjOk.thr (x:ObjOk P w H h a o):∃ u,h.get? a=some u:=by
 cases o with
 |lst xs=>obtain⟨_,_,_,_,e⟩:=x;exact⟨_,e⟩
 |tup xs=>obtain⟨_,_,_,_,e,_⟩:=x;exact⟨_,e⟩
 |dK kvs=>obtain⟨_,_,_,_,o,_,_,e,_⟩:=x;exact⟨_,e⟩
 |dT kvs=>obtain⟨_,_,_,_,o,_,_,e,_⟩:=x;exact⟨_,e⟩
 |set S n=>obtain⟨o,_,_,_,e,_⟩:=x;exact⟨_,e⟩
 |ins C dx fs=>obtain⟨_,_,_,e,_⟩:=x;exact⟨_,e⟩
 |own y=>obtain⟨_,e⟩:=x;exact⟨_,e⟩
 |xd fs=>obtain⟨_,⟨_,_,_,e,_⟩,_⟩:=x;exact⟨_,e⟩
 |rng lo hi=>obtain⟨_,_,_,e⟩:=x;exact⟨_,e⟩
 |frz ob u=>obtain⟨e,_⟩:=x;exact⟨_,e⟩
 |tbl ps=>exact⟨_,show h.get? a=some _ from x⟩
 |met f y=>exact⟨_,show h.get? a=some _ from x⟩
 |ext φ=>obtain⟨_,⟨_,e⟩,_⟩:=x;exact⟨_,e⟩
theorem HOk.thr (x:HOk P w H h) (e:H a=some o):∃ u,h.get? a=some u:=(x a o e).thr
theorem HOk.untr (x:HOk P w H h) (e:h.get? a=none):H a=none:=by
 cases q:H a with
 |none=>rfl
 |some u =>
  obtain⟨v,hv⟩:=x.thr q
  rw[e] at hv
  cases hv
end
end L2
namespace L2
open PySem
section
variable {X:Cx}{es:List Expr}{t:TA}{te:TE}
theorem zwY {c j pos}(ha:PE X (.Constant c j pos) te) (hr:PA X es t):PA X (.Constant c j pos::es) (yS te t):=yq ha hr rfl
theorem zwW {xs c pos}(ha:PE X (.Tuple xs c pos) te) (hr:PA X es t):PA X (.Tuple xs c pos::es) (yS te t):=yq ha hr rfl
theorem zwX {f xs ks pos}(ha:PE X (.Call f xs ks pos) te) (hr:PA X es t):PA X (.Call f xs ks pos::es) (yS te t):=yq ha hr rfl
theorem zwZ {l o r pos}(ha:PE X (.BinOp l o r pos) te) (hr:PA X es t):PA X (.BinOp l o r pos::es) (yS te t):=yq ha hr rfl
theorem zwV {o r pos}(ha:PE X (.UnaryOp o r pos) te) (hr:PA X es t):PA X (.UnaryOp o r pos::es) (yS te t):=yq ha hr rfl
theorem xn {x pos}(ha:PE X (.Name x pos) te) (hr:PA X es t):PA X (.Name x pos::es) (yS te t):=yq ha hr rfl
end
end L2
namespace L2
open PySem PySem.Spec PyProof.Rows
theorem entry_dul:entryFor table "dict.update.loop" = some Builtin.«dict.update.loop»:=entryFor_of_tree (by kernel_rfl)
theorem plain_dul:plainId "dict.update.loop" = true:=by decide +kernel
theorem YS:typeLookup (.type "list") "keys" = pure none:=am_miss_of_fast (by kernel_rfl)
section
variable {P:Program}{w:World}{A:Around}{E:Value→Shared→Prop}{s:Shared}
theorem VT {a:Addr}{xs:Array Value}{Q:Option Value→Shared→Prop}(hl:PlainL s.heap a xs) (hA:A.handled=none)
  (q:∀ h' tk,(∀ b o,s.heap.get? b=some o→h'.get? b=some o)→Q none { s with heap:=h',toks:=tk }):wpAny (model P w) A (getAttr? (.ref a) "keys") Q E s:=by
 obtain⟨o,n,hx,hc,hd,hs⟩:=hl
 obtain⟨c,dct,dat,sl⟩:=o
 dsimp only at hc hd hs
 subst hc hd hs
 obtain⟨hp,g,dr,tk0,os⟩:=s
 have hT:∀ tk',(⟨hp,g,dr,tk',os⟩:Shared).TypeIs (.ref a) "list" := fun _=>⟨_,hx,rfl⟩
 have f1:=sub_AttributeError
 have f3:=F.slot_list_getattribute.lookup
 have f4:=F.slot_list_getattribute.bind (.ref a)
 have f5:=am_list_getattr_none
 unfold getAttr? getAttrBy? getAttrBy
 repeat (any_goals (first | assumption | exact hT _ | ((with_reducible show wpAny _ _ (call (Value.builtin "list.__getattribute__") _ _) _ _ _);refine call_meets F.slot_list_getattribute (hT _) am_entry_list_getattribute (F.args_list_getattribute_2 _ _) (meets_getattribute_miss_list a xs n sl "keys" _ YS (by decide +kernel) (by decide +kernel)) ⟨hx,hA,fun h1 tk1 e1 ne=>?_⟩) | wp_step))
 obtain⟨t',u',he⟩:=ne.there
 show wpAny _ _ (getattributeRaised _ _ _ _ _ _ _) _ _ _
 unfold getattributeRaised hookOrError attributeErrorLeaves
 repeat (any_goals (first | assumption | wp_step))
 exact q _ _ ne.keeps
variable {K:Type} [DecidableEq K]{knd:KeyKind P w K}
theorem zhe {d I:Addr}{fp wr:List Addr}{n:Nat}{Is:Nat→Value→Prop}{St:Nat→Heap→Prop}{R:Except Value Flow→Shared→Prop}(W:Walks P w A.in1 I fp wr n Is St) (nf:d∉fp) (kvs:List (K×Value)) (hk:kvs.length=n) (hz:n≤1000)
  (h0:Heap) (hI:∀ i v,Is i v→∃ q k,v=.ref q∧(∃ o x,h0.get? q=some o∧o.cls=.type "tuple" ∧ o.data=.seq #[k,(kvs[i]?.map (·.2)).getD .none] x)∧∃ kk,(kvs[i]?.map (·.1))=some kk∧knd.is kk k=true)
  (hq:∀ i v q,Is i v→v=.ref q→q∉wr∧q≠d) :
  ∀ (r j:Nat) (t:Shared) (tk0:Tok),j+r=n→St j t.heap→t.heap.DictOf knd d (merged [] (kvs.take j))→(∀ b o,b∉wr→b≠d→h0.get? b=some o→t.heap.get? b=some o) →
   (∀ h' tk,h'.DictOf knd d (merged [] kvs)→(∀ b o,b∉wr→b≠d→t.heap.get? b=some o→h'.get? b=some o)→R (.ok (.ret .none)) { t with heap:=h',toks:=tk }) →
   codeAny (model P w) A (.builtin "dict.update.loop" ⟨[.ref d,.ref I,.int (j:Int) tk0,.none],[]⟩) R t:=by
 have nw:d∉wr:=fun z=>nf (W.sub _ z)
 intro r
 induction r with
 |zero =>
  intro j t tk0 hj st hd keep fin
  have ej:j=n:=by omega
  subst ej
  refine codeAny_builtin entry_dul (by
   rw[Around.under_plainId plain_dul _]
   show wpAny _ A.in1 (pyNext (.ref I) >>= _) _ _ t
   refine wpAny_bind (W.done t _ _ st fun h1 tk kk=>?_)
   show wpAny _ A.in1 (Builtin.Dict.addKeywords d [] >>= _) _ _ _
   rw[← hk,List.take_length] at hd
   obtain⟨o,ho,hdo⟩:=Heap.dictOf_iff.mp hd
   exact wpAny_bind (wpAny_pure (wpAny_pure (fin h1 tk (Heap.dictOf_iff.mpr ⟨o,kk d o nw ho,hdo⟩) fun b o n1 _ e=>kk b o n1 e))))
 |succ r ih =>
  intro j t tk0 hj st hd keep fin
  refine codeAny_builtin entry_dul (by
   rw[Around.under_plainId plain_dul _]
   show wpAny _ A.in1 (pyNext (.ref I) >>= _) _ _ t
   refine wpAny_bind (W.item j t _ _ (by omega) st fun v h1 tk iv st1 kk=>?_)
   obtain⟨q,k,rfl,⟨o,x,hq0,hc,hs⟩,kx,hkx,hki⟩:=hI j v iv
   obtain⟨nq1,nq2⟩:=hq j _ q iv rfl
   have hq1:=kk q o nq1 (keep q o nq1 nq2 hq0)
   obtain⟨od,hod,hdo⟩:=Heap.dictOf_iff.mp hd
   have hd1:h1.DictOf knd d (merged [] (kvs.take j)):=Heap.dictOf_iff.mpr ⟨od,kk d od nw hod,hdo⟩
   obtain⟨⟨k2,v2⟩,hkv⟩:∃ kv,kvs[j]?=some kv:=⟨kvs[j]'(by omega),by simp[show j<kvs.length by omega]⟩
   rw[hkv] at hs hkx
   cases hkx
   show wpAny _ A.in1 (holding [Value.ref q] (tryCatch (Builtin.Dict.pairItems (Value.ref q)) _ >>= _) >>= _) _ _ _
   refine wpAny_bind (wpAny_holding (wpAny_bind (wpAny_tryCatch ?_)))
   unfold Builtin.Dict.pairItems
   refine wpAny_bind (wpAny_typeOf (T := "tuple") ⟨o,hq1,hc⟩ ?_)
   rw[if_pos (by decide)]
   refine wpAny_bind (wpAny_seqItems hq1 hs (wpAny_pure ?_))
   show wpAny _ A.in1 (holding [k,v2] (dictSet d k v2)) _ _ _
   refine wpAny_holding (wpAny_dictSet_pairs hki hd1 (fun h2 hd2 sb=>?_) ?_)
   ·show wpAny _ A.in1 (pure _) _ _ _
    have hm:=merged_take_succ ([]:List (K×Value)) kvs j (k2,v2) hkv
    refine wpAny_pure ⟨plainId_quiet plain_dul _,ih (j+1) _ _ (by omega) (W.frame _ _ _ st1 fun b hb o e=>?_) (by rw[hm];exact hd2) (fun b o n1 n2 e=>?_) fun h3 tk3 hd3 kk3=>fin h3 tk3 hd3 fun b o n1 n2 e=>kk3 b o n1 n2 ?_⟩
    ·exact(sb.2 b fun z=>nf (z ▸ hb)).trans e
    ·exact(sb.2 b n2).trans (kk b o n1 (keep b o n1 n2 e))
    ·exact(sb.2 b n2).trans (kk b o n1 e)
   ·have:=merged_length_le ([]:List (K×Value)) (kvs.take j)
    rw[List.length_take] at this
    simp only[List.length_nil] at this
    exact Nat.le_trans (show _≤1000 by omega) (by decide))
end
section
variable {X:Cx}
theorem uj:∀ {xs:List V}{us:List Value}{i:Nat}{u:Value},Vals xs us→us[i]?=some u→∃ x,xs[i]?=some x∧RelV x u
 |_,_,0,_,.cons r _,h=>by cases h;exact⟨_,rfl,r⟩
 |_,_,i+1,_,.cons _ t,h=>by
  obtain⟨x,e,r⟩:=uj t (by simpa using h)
  exact⟨x,by simpa using e,r⟩
theorem uz {pins:List (Addr×Obj)}{σ:St}{H:Hp}{s:Shared}(I:Inv X pins σ H s):∀ (qs:List Addr) (kvs:List (Key×V)),qs.length=kvs.length→(∀ (i:Nat) (q:Addr) (kv:Key×V),qs[i]?=some q→kvs[i]?=some kv→H q=some (.tup [kV kv.1,kv.2])) →
  ∃ vs:List (Key×Value),KV kvs vs∧∀ (i:Nat) (q:Addr),qs[i]?=some q→∃ o x k kv,s.heap.get? q=some o∧o.cls=.type "tuple" ∧ o.data=.seq #[k,kv.2] x∧vs[i]?=some kv∧(zu X.prog X.w).is kv.1 k=true
 |[],[],_,_=>⟨[],.nil,fun i q h=>by simp at h⟩
 |q::qs,kv::kvs,hl,h=>by
  obtain⟨vs,r,hv⟩:=uz I qs kvs (by simpa using hl) fun i q' kv' h1 h2=>h (i+1) q' kv' (by simpa using h1) (by simpa using h2)
  have h0:=h 0 q kv rfl rfl
  obtain⟨its,rv,it,_⟩:=I.tuple (SqT.of h0)
  obtain⟨uk,ux,rfl,rk,rx⟩:∃ uk ux,its=[uk,ux]∧RelV (kV kv.1) uk∧RelV kv.2 ux:=by
   cases rv with | cons r1 rv =>
   cases rv with | cons r2 rv =>
   cases rv
   exact⟨_,_,rfl,r1,r2⟩
  obtain⟨o,e,oc,n,od⟩:=it
  refine⟨(kv.1,ux)::vs,.cons ⟨rfl,rx⟩ r,fun i q' hi=>?_⟩
  cases i with
  |zero =>
   cases hi
   exact⟨o,n,uk,(kv.1,ux),e,oc,od,rfl,Zb rk⟩
  |succ i=>exact hv i q' (by simpa using hi)
def zfF (K:PySem.W.Frag):List V→Hp→VK→Prop:=fun xs H Q=>∃ (a:Addr) (qs:List Addr) (kvs:List (Key×V)),xs=[V.ref a]∧H a=some (.lst (qs.map V.ref))∧qs.length=kvs.length∧kvs.length≤1000∧(∀ (i:Nat) (q:Addr) (kv:Key×V),qs[i]?=some q→kvs[i]?=some kv→H q=some (.tup [kV kv.1,kv.2])) ∧
 ∀ p,H p=none→Q (.ref p) (upd H p (.dK (mergeK [] kvs)))
theorem xl (hc:X.calm=true):yu X (.type "dict") (zfF X.K):=by
 intro pins s σ H xs us Q I r h
 obtain⟨a,qs,kvs,rfl,ha,hl,hz,hq,k⟩:=h
 obtain⟨u,rfl,ru⟩:=r.one
 cases ru
 obtain⟨its,rv,pl,_⟩:=I.list (SqL.of ha)
 have hA:X.A.handled=none:=I.ok.hd hc
 refine callType_codes (Q₁:=fun obj s₁=>obj=.ref s.heap.objs.size∧s₁={ s with heap:=s.heap.push { cls:=.type "dict",data:=.dict #[] } }) F.kt_called_dict (F.kt_typeCall_dict_1 _) F.entry_dict_init (kt_code_dict_new _ ⟨rfl,rfl⟩) ?_
 rintro obj s₁ ⟨rfl,rfl⟩
 have hnew:(s.heap.push { cls:=.type "dict",data:=.dict #[] }).DictOf (zu X.prog X.w) s.heap.objs.size []:=Heap.DictOf.new s.heap
 have lt:a<s.heap.objs.size:=by
  obtain⟨_,e,_⟩:=pl.isList
  exact Heap.lt_size e
 have pl1:PlainL (s.heap.push { cls:=.type "dict",data:=.dict #[] }) a its.toArray:=by
  obtain⟨o,n,e,r⟩:=pl
  exact⟨o,n,Heap.get?_push_of_some _ e,r⟩
 refine⟨hnew.typeIs,F.args_dict_init_2 _ _,?_⟩
 unfold Builtin.«dict.__init__»
 refine wpAny_bind ?_
 unfold Builtin.Dict.selfAndRest
 refine wpAny_bind (wpAny_notOrdered_dict hnew.typeIs ?_)
 show wpAny _ _ (pure (s.heap.objs.size,[Value.ref a])) _ _ _
 refine wpAny_pure ?_
 show wpAny _ _ (Builtin.Dict.updateFrom "dict.__init__" s.heap.objs.size (.ref a) [] .none) _ _ _
 unfold Builtin.Dict.updateFrom
 obtain⟨o,n,e,oc,od,os⟩:=pl1
 refine wpAny_bind (wpAny_typeOf (T := "list") ⟨o,e,oc⟩ ?_)
 rw[if_pos (by decide)]
 refine wpAny_bind (VT ⟨o,n,e,oc,od,os⟩ hA fun h1 tk1 kk1=>?_)
 obtain⟨vs,rel,hvs⟩:=uz I qs kvs hl hq
 have hl1:h1.IsList a its.toArray:=⟨o,kk1 _ _ e,oc,n,os⟩
 show wpAny _ _ (rule _ >>= _) _ _ _
 refine wpAny_bind (wpAny_rule (wpAny_bind (wpAny_pyIter_list hl1 ?_)))
 have nd0:(s.heap.push { cls:=.type "dict",data:=.dict #[] }).get? s.heap.objs.size=some { cls:=.type "dict",data:=.dict #[] }:=Heap.get?_push_size _ rfl
 have nd1:=kk1 _ _ nd0
 have ltd:s.heap.objs.size<h1.objs.size:=Heap.lt_size nd1
 have lta:a<h1.objs.size:=Nat.lt_trans lt ltd
 have len:its.toArray.size=vs.length:=by
  have e1:=rv.length
  rw[List.length_map] at e1
  have e2:=rel.length
  simp
  omega
 have lvs:vs.length=kvs.length:=(rel.length).symm
 have W:=Walks.list (prog:=X.prog) (w:=X.w) (A:=X.A.in1.in1) hA h1.objs.size a (Nat.ne_of_lt lta) its.toArray
 have st:((h1.push { cls:=.type "list_iterator",data:=.fields #[.ref a,.int 0 0] }).IsListIter h1.objs.size a 0∧(h1.push { cls:=.type "list_iterator",data:=.fields #[.ref a,.int 0 0] }).IsList a its.toArray):=⟨⟨_,Heap.get?_push_size _ rfl,rfl,rfl⟩,hl1.push _⟩
 have nf:s.heap.objs.size∉[h1.objs.size,a]:=by
  intro z
  rcases List.mem_cons.mp z with z | z
  ·exact Nat.lt_irrefl _ (z ▸ ltd)
  ·exact Nat.lt_irrefl _ ((List.mem_singleton.mp z) ▸ lt)
 have item:∀ (i:Nat) (v:Value),its.toArray[i]?=some v→∃ q:Addr,v=Value.ref q∧qs[i]?=some q:=fun i v hv=>by
  have hv:its[i]?=some v:=by simpa using hv
  obtain⟨x,hx,rx⟩:=uj rv hv
  rw[List.getElem?_map] at hx
  obtain⟨q,hq,rfl⟩:=Option.map_eq_some_iff.mp hx
  exact⟨q,rx,hq⟩
 have hd0:(h1.push { cls:=.type "list_iterator",data:=.fields #[.ref a,.int 0 0] }).DictOf (zu X.prog X.w) s.heap.objs.size []:=by
  obtain⟨od,hod,hdo⟩:=Heap.dictOf_iff.mp hnew
  exact Heap.dictOf_iff.mpr ⟨od,Heap.get?_push_of_some _ (kk1 _ _ hod),hdo⟩
 refine wpAny_pure ⟨plainId_quiet plain_dul _,zhe (A:=X.A.in1) (knd:=zu X.prog X.w) W nf vs len.symm (by omega) s.heap ?_ ?_ its.toArray.size 0 _ 0 (by omega) st hd0 ?_ ?_⟩
 ·intro i v hv
  obtain⟨q,rfl,hq'⟩:=item i v hv
  obtain⟨o,x,k',kv,e1,e2,e3,e4,e5⟩:=hvs i q hq'
  exact⟨q,k',rfl,⟨o,x,e1,e2,by rw[e4];exact e3⟩,kv.1,by rw[e4];rfl,e5⟩
 ·intro i v q hv ev
  obtain⟨q',rfl,hq'⟩:=item i v hv
  cases ev
  obtain⟨o,x,k',kv,e1,_⟩:=hvs i _ hq'
  have l1:=Heap.lt_size e1
  exact⟨fun z=>by rw[List.mem_singleton.mp z] at l1;exact Nat.lt_irrefl _ (Nat.lt_trans l1 ltd),fun z=>by rw[z] at l1;exact Nat.lt_irrefl _ l1⟩
 ·intro b o n1 n2 e
  exact Heap.get?_push_of_some _ (kk1 _ _ (Heap.get?_push_of_some _ e))
 ·intro h' tk hd' kk'
  refine⟨rfl,?_⟩
  refine⟨.ref s.heap.objs.size,_,I.laid (a:=s.heap.objs.size) (o:=.dK (mergeK [] kvs)) (t':=tk) (fun b o e=>?_) (Nat.le_refl _) (wf ?_ (beq_eq_false_iff_ne.mpr (Ne.symm (Nat.ne_of_lt I.big))) (KV.merge rel .nil) hd'),rfl,k _ (I.hok.fresh (Nat.le_refl _))⟩
  ·have l1:=Heap.lt_size e
   refine kk' b o (fun z=>?_) (fun z=>?_) (Heap.get?_push_of_some _ (kk1 _ _ (Heap.get?_push_of_some _ e)))
   ·rw[List.mem_singleton.mp z] at l1
    exact Nat.lt_irrefl _ (Nat.lt_trans l1 ltd)
   ·rw[z] at l1
    exact Nat.lt_irrefl _ l1
  ·have e1:=(KV.merge rel (.nil:KV ([]:List (Key×V)) [])).length
   have e2:=merged_length_le ([]:List (Key×Value)) vs
   simp only[List.length_nil] at e2
   exact Nat.le_trans (show _≤1000 by omega) (by decide)
end
def zav (td ty:TE):TE:=fun σ H Q=>td σ H fun x H1=>∃ a,x=.ref a∧IsD H1 a∧ty σ H1 fun y H2=>∃ b kvs more,y=.ref b∧a≠b∧H2 a=some (.dK kvs)∧H2 b=some (.dK more)∧kvs.length+more.length≤1000∧Q .non (upd H2 a (.dK (mergeK kvs more)))
section
variable {X:Cx}{o e:Expr}{apos cpos:Pos}{td ty:TE}
theorem VA (ho:PE X o td) (he:PE X e ty) (m:M1 X o "update" apos e cpos):PE X (.Call (.Attribute o "update" apos) [e] [] cpos) (zav td ty):=by
 intro pins s σ H Q I h
 refine wpAny_Call_method m.base m.few m.line PySem.F.plainAttrs_dict PySem.F.slot_dict_update PySem.F.type_dict_update (thn (ho pins s σ H _ I h) fun u s1 hq0=>?_)
 obtain⟨x,H1,I1,rx,a,ex,d,q1⟩:=hq0
 subst ex
 obtain rfl:u=Value.ref a:=rx
 obtain⟨t1,t2,_⟩:=uF I1 d
 refine⟨t1,t2,?_⟩
 rw[m.trees]
 refine Calls.callWith_builtin rfl (Calls.evalArgs_plain (Calls.spliced_cons (thn (he pins s1 σ H1 _ I1 q1) fun iv s2 ⟨y,H2,I2,ry,b,kvs,more,ey,ne,ha,hb,hz,q2⟩=>Calls.spliced_nil ?_)))
 subst ey
 obtain rfl:iv=Value.ref b:=ry
 obtain⟨z1,hd1,vs1,rel1,dd1⟩:=vz I2.hok ha
 obtain⟨z2,hd2,vs2,rel2,dd2⟩:=vz I2.hok hb
 have l1:=rel1.length
 have l2:=rel2.length
 have rm:=KV.merge rel2 rel1
 have lm:=merged_length_le vs1 vs2
 have lm2:=rm.length
 refine call_meetsIn PySem.F.slot_dict_update dd1.typeIs PySem.F.entry_dict_update (PySem.F.args_dict_update_2 _ _) (meets_dict_update (zu X.prog X.w) a b ne hd2) ⟨vs1,vs2,dd1,dd2,Nat.le_trans (show _≤1000 by omega) (by decide),fun h' dd' _ hs=>?_⟩
 have he':∃ q,h'.get? a=some q:=let ⟨q,_,_,hq,_⟩:=dd';⟨q,hq⟩
 exact⟨.non,_,xR (t':=s2.toks) I2 (by rw[ha];exact True.intro) hs he' (wf (Nat.le_trans (show _≤1000 by omega) (by decide)) hd1 rm dd'),rfl,q2⟩
end
end L2
namespace L2
open PySem PySem.W PyProof.Rows
section
variable {X:Cx}{o:Expr}{to:TE}{apos cpos:Pos}
def zay (to:TE):TE:=fun σ H Q=>to σ H fun x H1=>∃ a kvs,x=.ref a∧H1 a=some (.dK kvs)∧Q .non (upd H1 a (.dK []))
theorem VC (ho:PE X o to) (hbase:attributeBase o "clear" X.env (eval o X.env)=eval o X.env:=by rfl) (hline:(apos.endLine == cpos.line)=true:=by rfl):PE X (.Call (.Attribute o "clear" apos) [] [] cpos) (zay to):=by
 intro pins s σ H Q I h
 refine wpAny_Call_method0_late hbase hline (thn (ho pins s σ H _ I h) fun v s1 hq0=>?_)
 obtain⟨x,H1,I1,rx,a,kvs,ex,e,q1⟩:=hq0
 subst ex
 obtain rfl:v=Value.ref a:=rx
 obtain⟨t1,t2,_⟩:=uF I1 (.inl ⟨_,.inl e⟩)
 exact⟨"dict", "dict.clear",PySem.F.plainAttrs_dict,PySem.F.slot_dict_clear,PySem.F.type_dict_clear,t1,t2,Calls.callWith_builtin rfl (PySem.evalArgs_none (V8 I1 e fun s2 I2=>⟨.non,_,I2,rfl,q1⟩))⟩
end
end L2
namespace L2
open PySem PySem.Spec PyProof.Rows
section
variable {X:Cx}{pins:List (Addr×Obj)}{σ:St}{H G:Hp}{s:Shared}{d:Addr}{od:Obj}{kvs:List (Key×V)}
theorem Inv.froz (I:Inv X pins σ H s) (e:H d=some (.dK kvs)) (q0:s.heap.get? d=some od):Inv X pins σ (upd H d (.frz od (.dK kvs))) s:=by
 have ne:∀ {b:Addr}{o:HO},H b=some o→(∀ kvs,o≠.dK kvs)→upd H d (.frz od (.dK kvs)) b=some o:=fun {b o} q n=>by
  rw[upd_ne (fun z=>by rw[z,e] at q;injection q with q;exact n _ q.symm)];exact q
 have no:∀ {b:Addr},H b=none→upd H d (.frz od (.dK kvs)) b=none:=fun {b} q=>by
  rw[upd_ne (fun z=>by rw[z,e] at q;cases q)];exact q
 refine⟨I.ok,I.os,I.bare,⟨I.base.keep,I.base.slot,fun b o q n x=>no (I.base.free b o q n x),I.base.there,fun b xs q=>ne (I.base.tups b xs q) (fun _ z=>by cases z),fun b o u q=>ne (I.base.frzs b o u q) (fun _ z=>by cases z),fun b ps q=>?_⟩,I.loc,I.cell,no I.free,fun x c q=>no (I.freeC x c q),fun p hp=>?_,fun b o q=>?_,I.len⟩
 ·obtain⟨m,q⟩:=I.base.tbls b ps q
  exact⟨m,ne q (fun _ z=>by cases z)⟩
 ·obtain⟨p1,p2,p3⟩:=I.pin p hp
  exact⟨p1,no p2,p3⟩
 ·have st:∀ {b:Addr}{o:HO},H b=some o→ObjOk X.prog X.w (upd H d (.frz od (.dK kvs))) s.heap b o:=fun {b o} q=>(I.hok b o q).stay (fun c u _ q=>q) (fun c q=>ne q (fun _ z=>by cases z)) fun c xs q=>ne q (fun _ z=>by cases z)
  by_cases c:b=d
  ·subst c
   rw[upd_same] at q
   cases q
   exact⟨q0,st e⟩
  ·rw[upd_ne c] at q
   exact st q
theorem Inv.thaw (I:Inv X pins σ G s) (S:∀ o u,X.H₀ d≠some (.frz o u)) (g:G d=some (.frz od (.dK kvs))):Inv X pins σ (upd G d (.dK kvs)) s:=by
 have ne:∀ {b:Addr}{o:HO},G b=some o→(∀ ob u,o≠.frz ob u)→upd G d (.dK kvs) b=some o:=fun {b o} q n=>by
  rw[upd_ne (fun z=>by rw[z,g] at q;injection q with q;exact n _ _ q.symm)];exact q
 have no:∀ {b:Addr},G b=none→upd G d (.dK kvs) b=none:=fun {b} q=>by
  rw[upd_ne (fun z=>by rw[z,g] at q;cases q)];exact q
 refine⟨I.ok,I.os,I.bare,⟨I.base.keep,I.base.slot,fun b o q n x=>no (I.base.free b o q n x),I.base.there,fun b xs q=>ne (I.base.tups b xs q) (fun _ _ z=>by cases z),fun b o u q=>?_,fun b ps q=>?_⟩,I.loc,I.cell,no I.free,fun x c q=>no (I.freeC x c q),fun p hp=>?_,fun b o q=>?_,I.len⟩
 ·rw[upd_ne (fun(z:b=d)=>S o u (by rw[← z];exact q))]
  exact I.base.frzs b o u q
 ·obtain⟨m,q⟩:=I.base.tbls b ps q
  exact⟨m,ne q (fun _ _ z=>by cases z)⟩
 ·obtain⟨p1,p2,p3⟩:=I.pin p hp
  exact⟨p1,no p2,p3⟩
 ·have st:∀ {b:Addr}{o:HO},ObjOk X.prog X.w G s.heap b o→ObjOk X.prog X.w (upd G d (.dK kvs)) s.heap b o:=fun {b o} q=>q.stay (fun c u _ q=>q) (fun c q=>ne q (fun _ _ z=>by cases z)) fun c xs q=>ne q (fun _ _ z=>by cases z)
  by_cases c:b=d
  ·subst c
   rw[upd_same] at q
   cases q
   exact st (I.hok b _ g).2
  ·rw[upd_ne c] at q
   exact st (I.hok b o q)
theorem KV.getAt:∀ {kvs:List (Key×V)}{vs:List (Key×Value)},KV kvs vs→∀ {i:Nat}{p:Key×V},kvs[i]?=some p→∃ u,vs[i]?=some (p.1,u)∧RelV p.2 u
 |_,_,.nil,i,p,h=>by cases h
 |_,_,.cons (b:=q) r t,0,p,h=>by
  cases h
  exact⟨q.2,by rw[r.1];rfl,r.2⟩
 |_,_,.cons r t,i+1,p,h=>KV.getAt t (i:=i) h
def zas (td:TE) (g:TG) (tb:TS):TS:=fun D σ H=>td σ H fun x H1=>∃ (d:Addr) (kvs:List (Key×V)),x=.ref d∧H1 d=some (.dK kvs)∧∀ od:Obj,∃ W:Nat→Nat→St→Hp→Prop,(∃ m,W 0 m σ (upd H1 d (.frz od (.dK kvs))))∧∀ i m σ H,W i m σ H→H d=some (.frz od (.dK kvs))∧i≤kvs.length ∧
 (i=kvs.length→D.nx σ (upd H d (.dK kvs)))∧∀ p,kvs[i]?=some p→∃ N:St→Hp→Prop,(∀ σ' H',N σ' H'→∃ m',m'<m∧W (i+1) m' σ' H')∧g p.2 σ H fun σ2 H2=>tb { nx:=N,ct:=N,bk:=fun σ' H'=>H' d=some (.frz od (.dK kvs))∧D.nx σ' (upd H' d (.dK kvs)),rt:=fun v H'=>H' d=some (.frz od (.dK kvs))∧D.rt v (upd H' d (.dK kvs)) } σ2 H2
theorem Vq {tg o:Expr}{body:List Stmt}{td:TE}{g:TG}{tb:TS}{apos cpos pos:Pos}(hp:PassesOwn (model X.prog X.w) X.A X.env X.xe) (hc:X.calm=true) (ho:PE X o td) (hg:PG X tg g) (hb:PSs X body tb)
  (hbase:attributeBase o "values" X.env (eval o X.env)=eval o X.env:=by rfl) (hline:(apos.endLine == cpos.line)=true:=by rfl)
  (hs:∀ x,foldedSetIterable (.Call (.Attribute o "values" apos) [] [] cpos) X.env x=pure x:=by intro _;rfl):PS X (.For tg (.Call (.Attribute o "values" apos) [] [] cpos) body [] pos) (zas td g tb):=by
 intro pins s σ H D I h
 refine wpAny_For (wpAny_Call_method0_late hbase hline (thn (ho pins s σ H _ I h) fun v s1 hq0=>?_)) hs
 obtain⟨x,H1,I1,rx,d,kvs,ex,e,loop⟩:=hq0
 subst ex
 obtain rfl:v=Value.ref d:=rx
 obtain⟨t1,t2,_⟩:=uF I1 (.inl ⟨_,.inl e⟩)
 obtain⟨z,hd,vs,rel,dd⟩:=vz I1.hok e
 have S:∀ o u,X.H₀ d≠some (.frz o u):=fun o u z=>by
  have:=I1.base.frzs d o u z
  rw[e] at this;cases this
 have lv:=rel.length
 refine⟨"dict", "dict.values",PySem.F.plainAttrs_dict,PySem.F.slot_dict_values,PySem.F.type_dict_values,t1,t2,Calls.callWith_builtin rfl (PySem.evalArgs_none ?_)⟩
 refine call_meetsIn PySem.F.slot_dict_values dd.typeIs PySem.F.entry_dict_values (PySem.F.args_dict_values_1 _) (meets_dict_values (zu X.prog X.w) d hd) ⟨⟨vs,dd⟩,?_⟩
 obtain⟨od,es,ep,q1,q2,q3,q4,q5,q6⟩:=dd
 obtain⟨W,⟨m0,w0⟩,turn⟩:=loop od
 have da:∀ {h':Heap},h'.get? d=some od→Heap.DictAt (zu X.prog X.w) h' d vs ep:=fun q=>⟨od,es,q,q2,q3,q4,q5,q6⟩
 refine wpAny_pyIter_values (s:={ s1 with heap:=s1.heap.push _ }) (d:=d) ⟨_,Heap.get?_push_size _ rfl,rfl,rfl⟩ (da (Heap.get?_push_of_some _ q1)) ?_
 have hle:s1.heap.objs.size≤(s1.heap.push { cls:=.type "dict_values",data:=.fields #[.ref d] }).objs.size:=by rw[Heap.size_push];exact Nat.le_succ _
 have kp:∀ b u,s1.heap.get? b=some u→((s1.heap.push { cls:=.type "dict_values",data:=.fields #[.ref d] }).push { cls:=.type "dict_valueiterator",data:=.fields #[.ref d,.int 0 0,.int vs.length 0,.int ep 0] }).get? b=some u:=fun b u q=>Heap.get?_push_of_some _ (Heap.get?_push_of_some _ q)
 have it0:((s1.heap.push { cls:=.type "dict_values",data:=.fields #[.ref d] }).push { cls:=.type "dict_valueiterator",data:=.fields #[.ref d,.int 0 0,.int vs.length 0,.int ep 0] }).IsValIter (s1.heap.push { cls:=.type "dict_values",data:=.fields #[.ref d] }).objs.size d 0 vs.length ep:=⟨_,Heap.get?_push_size _ rfl,rfl,rfl⟩
 have I1f:=I1.froz e q1
 have I2:=I1f.kept (t':=s1.toks) kp
 have fi:FpOk X pins (upd H1 d (.frz od (.dK kvs))) _:=I1f.fpOk hle (I1f.hok.fresh hle)
 have dit:d≠(s1.heap.push { cls:=.type "dict_values",data:=.fields #[.ref d] }).objs.size:=fun z=>by
  have h:=Nat.lt_of_lt_of_le (Heap.lt_size q1) hle
  exact absurd z (Nat.ne_of_lt h)
 generalize (s1.heap.push { cls:=.type "dict_values",data:=.fields #[.ref d] }).push { cls:=.type "dict_valueiterator",data:=.fields #[.ref d,.int 0 0,.int vs.length 0,.int ep 0] }=h2 at *
 generalize (s1.heap.push { cls:=.type "dict_values",data:=.fields #[.ref d] }).objs.size=it at *
 refine codeAny_forLoop_any (fun n s'=>∃ i σ' H',Inv X pins σ' H' s'∧s'.heap.IsValIter it d i vs.length ep∧H' it=none∧W i n σ' H') ?_ m0 ⟨0,σ,_,I2,it0,fi.1,w0⟩
 rintro n s3 ⟨i,σ3,H3,I3,st3,g3',w3⟩
 obtain⟨f3,hi,stop,step⟩:=turn i n σ3 H3 w3
 have d3:=(I3.hok d _ f3).1
 by_cases hlt:i<kvs.length
 ·obtain⟨N,hN,step⟩:=step _ (List.getElem?_eq_getElem hlt)
  obtain⟨u,hu,ru⟩:=rel.getAt (List.getElem?_eq_getElem hlt)
  refine wpAny_passesOwn hp (wpAny_pyNext_values_item st3 (da d3) hu fun h' st4 sb=>?_)
  have k4:∀ b o,b≠it→s3.heap.get? b=some o→h'.get? b=some o:=fun b o hb q=>by rw[sb.2 b hb];exact q
  have I4:=I3.turned (t':=s3.toks) k4 g3' fi.2.1 fi.2.2.2.1 fi.2.2.2.2.1 fi.2.2.2.2.2
  obtain⟨oi,oi1,oi2,oi3⟩:=id st4
  refine wpAny_passesOwn hp (V4 (s:={ s3 with heap:=h' }) oi1 oi2 oi3 (by decide) ?_)
  have I5:Inv X (pins++xF [it] h') σ3 H3 { s3 with heap:=h' }:=I4.pins_of fun p hp=>(List.mem_append.mp hp).elim (fun z=>I4.pin p (List.mem_append_right _ z)) fun z=>by
   obtain⟨hb,q⟩:=vp z
   rw[List.mem_singleton.mp hb] at q ⊢
   refine⟨q,g3',fi.2.1,fi.2.2.1,fun v c=>?_⟩
   rw[oi1] at q;cases q
   rw[oi3] at c;cases c
  refine wpAny_passesOwn hp (thn (hg _ _ σ3 H3 _ u _ I5 ru step) fun _ s6 hq0=>?_)
  obtain⟨σ6,H6,I6,q6⟩:=hq0
  refine wpAny_passesOwn hp (thn (hb _ s6 σ6 H6 _ I6 q6) fun f s7 q7=>?_)
  have again:∀ {σ7:St}{H7:Hp},Inv X (pins++xF [it] h') σ7 H7 s7→N σ7 H7→∃ m,m<n∧∃ i σ' H',Inv X pins σ' H' s7∧s7.heap.IsValIter it d i vs.length ep∧H' it=none∧W i m σ' H':=fun {σ7 H7} I7 n7=>by
   obtain⟨m',hm,w7⟩:=hN σ7 H7 n7
   have p2:=I7.pin (it,oi) (List.mem_append_right _ (List.mem_append_right _ (yn (by simp) oi1)))
   exact⟨m',hm,i+1,σ7,H7,I7.unpinned,⟨oi,p2.1,oi2,oi3⟩,p2.2.1,w7⟩
  cases f with
  |next=>obtain⟨σ7,H7,I7,n7⟩:=q7;exact again I7 n7
  |cont=>obtain⟨σ7,H7,I7,n7⟩:=q7;exact again I7 n7
  |brk =>
   obtain⟨σ7,H7,I7,a1,q7⟩:=q7
   exact⟨σ7,_,I7.unpinned.thaw S a1,q7⟩
  |ret v =>
   obtain⟨x7,σ7,H7,I7,r7,a1,q7⟩:=q7
   exact⟨x7,σ7,_,I7.unpinned.thaw S a1,r7,q7⟩
 ·have ei:i=kvs.length:=by omega
  refine wpAny_passesOwn hp (wpAny_pyNext_values_end (I3.ok.hd hc) st3 (da d3) (List.getElem?_eq_none (by omega)) fun h' kk=>?_)
  have I4:=I3.turned (t':=s3.toks) (fun b o hb q=>kk b o hb q) g3' fi.2.1 fi.2.2.2.1 fi.2.2.2.2.1 fi.2.2.2.2.2
  exact wpAny_execs_nil ⟨σ3,_,I4.thaw S f3,stop ei⟩
theorem WF {d:Addr}{od:Obj}{kvs:List (Key×V)}{g:TG}{tb:TS}{D:Ends}{σ:St}{H:Hp}(Pv:Nat→St→Hp→Prop) (h0:Pv 0 σ (upd H d (.frz od (.dK kvs)))) (hf:∀ i σ H,Pv i σ H→H d=some (.frz od (.dK kvs)))
  (hs:∀ i p σ H,kvs[i]?=some p→Pv i σ H→g p.2 σ H fun σ2 H2=>tb { nx:=Pv (i+1),ct:=Pv (i+1),bk:=fun σ' H'=>H' d=some (.frz od (.dK kvs))∧D.nx σ' (upd H' d (.dK kvs)),rt:=fun v H'=>H' d=some (.frz od (.dK kvs))∧D.rt v (upd H' d (.dK kvs)) } σ2 H2) (hd:∀ σ H,Pv kvs.length σ H→D.nx σ (upd H d (.dK kvs))) :
  ∃ W:Nat→Nat→St→Hp→Prop,(∃ m,W 0 m σ (upd H d (.frz od (.dK kvs))))∧∀ i m σ H,W i m σ H→H d=some (.frz od (.dK kvs))∧i≤kvs.length ∧
   (i=kvs.length→D.nx σ (upd H d (.dK kvs)))∧∀ p,kvs[i]?=some p→∃ N:St→Hp→Prop,(∀ σ' H',N σ' H'→∃ m',m'<m∧W (i+1) m' σ' H')∧g p.2 σ H fun σ2 H2=>tb { nx:=N,ct:=N,bk:=fun σ' H'=>H' d=some (.frz od (.dK kvs))∧D.nx σ' (upd H' d (.dK kvs)),rt:=fun v H'=>H' d=some (.frz od (.dK kvs))∧D.rt v (upd H' d (.dK kvs)) } σ2 H2:=by
 refine⟨fun i m σ H=>m=kvs.length-i∧i≤kvs.length∧Pv i σ H,⟨_,rfl,Nat.zero_le _,h0⟩,?_⟩
 rintro i m σ H ⟨rfl,hi,p⟩
 refine⟨hf i σ H p,hi,fun e=>hd σ H (e ▸ p),fun q hq=>?_⟩
 have hlt:=(List.getElem?_eq_some_iff.mp hq).1
 exact⟨Pv (i+1),fun σ' H' p'=>⟨_,by omega,rfl,hlt,p'⟩,hs i q σ H hq p⟩
end
section
variable {X:Cx}
def zwR (K:PySem.W.Frag) (A:Around):R2:=fun x y H Q=>∃ (a b:Addr) (xs ys:List V),x=.ref a∧y=.ref b∧SqL K H a xs∧SqL K H b ys∧xs.length≠ys.length∧A.units<cLine∧Q (.bl false) H
theorem zfW:OpR X (compareOp .Eq) (zwR X.K X.A):=by
 intro pins s σ H x y v u Q I rx ry h
 obtain⟨a,b,xs,ys,rfl,rfl,h1,h2,hl,hu,q⟩:=h
 cases rx;cases ry
 obtain⟨i1,r1,p1,_⟩:=I.list h1
 obtain⟨i2,r2,p2,_⟩:=I.list h2
 exact SeqAt.RcAt.lists_lengths p1.isList p2.isList (by simp;rw[← r1.length,← r2.length];exact hl) hu _ _ _ _ ⟨.bl _,H,I,rfl,q⟩
end
theorem YG {prog prog':Program}{w w':World}{es:List DictEntry}{kvs:List (Key×Value)}(h:Pairs (zu prog w) es kvs):Pairs (zu prog' w') es kvs:=by
 induction h with
 |nil=>exact .nil
 |cons h1 h2 _ ih=>exact .cons h1 h2 ih
theorem YF {prog:Program}{w:World}{es:List DictEntry}{kvs:List (Key×Value)}(h:Pairs (zu prog w) es kvs):∀ e∈es,∃ kv∈kvs,xZ kv.1 e.key=true:=by
 induction h with
 |nil=>intro e he;cases he
 | @cons e kv es kvs h1 h2 _ ih =>
  intro e' he'
  rcases List.mem_cons.mp he' with z | z
  ·exact⟨kv,List.mem_cons_self ..,by rw[z];exact h1⟩
  ·obtain⟨kv',m,q⟩:=ih e' z
   exact⟨kv',List.mem_cons_of_mem _ m,q⟩
theorem wg {prog prog':Program}{w w':World}{h:Heap}{a:Addr}{kvs:List (Key×Value)}(hk:∀ p∈kvs,∃ i,p.1=Sum.inl i) (D:h.DictOf (zu prog w) a kvs):h.DictOf (zu prog' w') a kvs:=by
 obtain⟨o,es,ep,ho,ex,hd,ks,ps,nd⟩:=D
 refine⟨o,es,ep,ho,ex,hd,fun e he=>?_,YG ps,nd⟩
 obtain⟨k,h1,h2⟩:=ks e he
 obtain⟨kv,m,q⟩:=YF ps e (by simpa using he)
 obtain⟨i,hi⟩:=hk kv m
 have e1:k=kv.1:=(zu prog w).inj e.key k kv.1 h1 q
 refine⟨k,h1,?_⟩
 rw[h2,e1,hi]
 rfl
section
variable {X:Cx}
def EqP (X:Cx) (H:Hp) (x y:V) (b:Bool) (n:Nat):Prop:=∀ (pins:List (Addr×Obj)) (σ:St) (s:Shared),Inv X pins σ H s→∀ (A:Around) (u v:Value),A.units+n<cLine→RelV x u→RelV y v→SeqAt.EqAt A s u v b
theorem EqP.of {H:Hp}{x y:V}{b:Bool}{n:Nat}(h:EqD X.K H x y b n):EqP X H x y b n:=fun pins σ s I A u v hu r1 r2=>h.at I A u v hu r1 r2
theorem EqP.same {H:Hp}{a:Addr}{n:Nat}:EqP X H (.ref a) (.ref a) true n:=fun pins σ s I A u v hu rx ry=>by
 cases rx;cases ry
 exact SeqAt.EqAt.same _
theorem vx {pins:List (Addr×Obj)}{σ:St}{H:Hp}{s:Shared}{A:Around}{xs ys:List V}{i1 i2:List Value}{e:Nat→Bool}{n:Nat}(I:Inv X pins σ H s) (r1:Vals xs i1) (r2:Vals ys i2) (hu:A.units+n+2<cLine)
  (h:∀ (j:Nat) x y,xs[j]?=some x→ys[j]?=some y→EqP X H x y (e j) n):∀ (j:Nat) (h1:j<i1.toArray.size) (h2:j<i2.toArray.size),SeqAt.EqAt A.in1 s i1.toArray[j] i2.toArray[j] (e j):=fun j h1 h2=>by
 have g1:j<xs.length:=by rw[r1.length];simpa using h1
 have g2:j<ys.length:=by rw[r2.length];simpa using h2
 obtain⟨u1,e1,q1⟩:=r1.get (i:=j) (x:=xs[j]) (by simp[g1])
 obtain⟨u2,e2,q2⟩:=r2.get (i:=j) (x:=ys[j]) (by simp[g2])
 have f1:i1.toArray[j]=u1:=by
  obtain⟨_,z⟩:=List.getElem?_eq_some_iff.mp e1
  simpa using z
 have f2:i2.toArray[j]=u2:=by
  obtain⟨_,z⟩:=List.getElem?_eq_some_iff.mp e2
  simpa using z
 rw[f1,f2]
 exact(h j _ _ (by simp[g1]) (by simp[g2])) _ _ _ I A.in1 u1 u2 (by rw[yw];omega) q1 q2
theorem EqP.lst {H:Hp}{a b:Addr}{xs ys:List V}{n:Nat}(ha:SqL X.K H a xs) (hb:SqL X.K H b ys) (hl:xs.length=ys.length) (h:∀ (j:Nat) x y,xs[j]?=some x→ys[j]?=some y→EqP X H x y true n):EqP X H (.ref a) (.ref b) true (n+2):=fun pins σ s I A u v hu rx ry=>by
 by_cases hne:a=b
 ·subst hne;exact EqP.same _ _ _ I A u v hu rx ry
 ·cases rx;cases ry
  obtain⟨i1,r1,p1,_⟩:=I.list ha
  obtain⟨i2,r2,p2,_⟩:=I.list hb
  have l1:=r1.length
  have l2:=r2.length
  refine SeqAt.EqAt.of_refs hne ?_
  have q:=SeqAt.RcAt.lists (A:=A) (s:=s) (e:=fun _=>true) p1.isList p2.isList (by simp;omega) (by omega) (vx I r1 r2 (by omega) h)
  have e:((List.range i1.toArray.size).all fun _=>true)=true:=by simp
  rw[e] at q
  exact q
theorem zha {pins:List (Addr×Obj)}{σ:St}{H:Hp}{s:Shared}{A:Around}{n:Nat}(I:Inv X pins σ H s) (hu:A.units+n<cLine){kvb:List (Key×V)}{kb:List (Key×Value)}(rb:KV kvb kb) :
  ∀ {kva:List (Key×V)}{ka:List (Key×Value)},KV kva ka→(∀ p∈kva,∃ y,xu kvb p.1=some y∧EqP X H p.2 y true n)→PySem.W.KeqHits A s kb ka true
 |_,_,.nil,_=>.nil
 |(k,v)::r,(k',u)::r',.cons h t,hs=>by
  obtain⟨e1,e2⟩:=h
  cases e1
  obtain⟨y,hv,hE⟩:=hs (k,v) List.mem_cons_self
  have q:=rb.val k
  rw[hv] at q
  cases e:valueAt kb k with
  |none=>rw[e] at q;exact False.elim q
  |some y' =>
   rw[e] at q
   have he:=hE _ _ _ I A u y' hu e2 (show RelV y y' from q)
   have:=PySem.W.KeqHits.hit (k:=k) e he (zha I hu rb t fun p hp=>hs p (List.mem_cons_of_mem _ hp))
   simpa using this
theorem KV.keysL {kvs:List (Key×V)}{vs:List (Key×Value)}(r:KV kvs vs) (h:∀ p∈kvs,∃ i,p.1=Sum.inl i):∀ p∈vs,∃ i,p.1=Sum.inl i:=by
 induction r with
 |nil=>intro p hp;cases hp
 | @cons x y xs ys h1 t ih =>
  intro p hp
  rcases List.mem_cons.mp hp with z | z
  ·obtain⟨i,hi⟩:=h x List.mem_cons_self
   exact⟨i,by rw[z,← h1.1];exact hi⟩
  ·exact ih (fun p hp=>h p (List.mem_cons_of_mem _ hp)) p z
theorem EqP.dct {H:Hp}{a b:Addr}{kva kvb:List (Key×V)}{n:Nat}(ha:H a=some (.dK kva)) (hb:H b=some (.dK kvb)) (hl:kva.length=kvb.length) (ia:∀ p∈kva,∃ i,p.1=Sum.inl i) (ib:∀ p∈kvb,∃ i,p.1=Sum.inl i)
  (h:∀ p∈kva,∃ y,xu kvb p.1=some y∧EqP X H p.2 y true n):EqP X H (.ref a) (.ref b) true (n+2):=fun pins σ s I A u v hu rx ry=>by
 by_cases hne:a=b
 ·subst hne;exact EqP.same _ _ _ I A u v hu rx ry
 ·cases rx;cases ry
  obtain⟨z1,d1,vs1,r1,o1⟩:=I.hok a _ ha
  obtain⟨z2,d2,vs2,r2,o2⟩:=I.hok b _ hb
  refine SeqAt.EqAt.of_refs hne fun prog w E Q hq=>?_
  have l1:=r1.length
  have l2:=r2.length
  have e:(vs1.length == vs2.length)=true:=by rw[← l1,← l2,hl];simp
  exact PySem.W.keq_eq d1 d2 (wg (r1.keysL ia) o1) (wg (r2.keysL ib) o2) (by omega) (fun _=>zha I (by rw[yw];omega) r2 r1 h) (by rw[e];exact hq)
def zuI (X:Cx) (neg:Bool):R2:=fun x y H Q=>∃ (a b:Addr) (xs ys:List V) (n:Nat),x=.ref a∧y=.ref b∧((SqL X.K H a xs∧SqL X.K H b ys)∨(SqT X.K H a xs∧SqT X.K H b ys))∧xs.length=ys.length∧X.A.units+n+2<cLine ∧
 (∀ (j:Nat) x y,xs[j]?=some x→ys[j]?=some y→EqP X H x y true n)∧Q (.bl (!neg)) H
theorem zuJ:OpR X (compareOp .Eq) (zuI X false):=by
 intro pins s σ H x y v u Q I rx ry h
 obtain⟨a,b,xs,ys,n,rfl,rfl,hq,hl,hu,hi,q⟩:=h
 cases rx;cases ry
 rcases hq with⟨h1,h2⟩ | ⟨h1,h2⟩
 ·obtain⟨i1,r1,p1,_⟩:=I.list h1
  obtain⟨i2,r2,p2,_⟩:=I.list h2
  refine SeqAt.eq_listAt (e:=fun _=>true) p1.isList p2.isList (by simp;rw[← r1.length,← r2.length,hl]) (by omega) (vx I r1 r2 hu hi) ⟨.bl true,H,I,?_,q⟩
  have e:((List.range i1.toArray.size).all fun _=>true)=true:=by simp
  rw[e]
  rfl
 ·obtain⟨i1,r1,p1,_⟩:=I.tuple h1
  obtain⟨i2,r2,p2,_⟩:=I.tuple h2
  have z:i1.toArray.size=i2.toArray.size:=by simp;rw[← r1.length,← r2.length,hl]
  refine SeqAt.eq_tupleAt (e:=fun _=>true) (show s.heap.IsTuple a i1.toArray from p1) (show s.heap.IsTuple b i2.toArray from p2) (by omega) (vx I r1 r2 hu hi) ⟨.bl true,H,I,?_,q⟩
  have e:((List.range i1.toArray.size).all fun _=>true)=true:=by simp
  rw[← z,Nat.min_self,beq_self_eq_true,Bool.and_true,e]
  rfl
theorem YH:OpR X (compareOp .NotEq) (zuI X true):=by
 intro pins s σ H x y v u Q I rx ry h
 obtain⟨a,b,xs,ys,n,rfl,rfl,hq,hl,hu,hi,q⟩:=h
 cases rx;cases ry
 rcases hq with⟨h1,h2⟩ | ⟨h1,h2⟩
 ·obtain⟨i1,r1,p1,_⟩:=I.list h1
  obtain⟨i2,r2,p2,_⟩:=I.list h2
  refine SeqAt.RcNeAt.lists (e:=fun _=>true) p1.isList p2.isList (by simp;rw[← r1.length,← r2.length,hl]) (by omega) (vx I r1 r2 hu hi) _ _ _ _ ⟨.bl false,H,I,?_,q⟩
  have e:((List.range i1.toArray.size).all fun _=>true)=true:=by simp
  rw[e]
  rfl
 ·obtain⟨i1,r1,p1,_⟩:=I.tuple h1
  obtain⟨i2,r2,p2,_⟩:=I.tuple h2
  have z:i1.toArray.size=i2.toArray.size:=by simp;rw[← r1.length,← r2.length,hl]
  refine SeqAt.RcNeAt.tuples (e:=fun _=>true) (show s.heap.IsTuple a i1.toArray from p1) (show s.heap.IsTuple b i2.toArray from p2) (by omega) (vx I r1 r2 hu hi) _ _ _ _ ⟨.bl false,H,I,?_,q⟩
  have e:((List.range i1.toArray.size).all fun _=>true)=true:=by simp
  rw[← z,Nat.min_self,beq_self_eq_true,Bool.and_true,e]
  rfl
end
structure Bx (p:Prop):Prop where
 of:p
theorem zB {X:Cx}{body:List Stmt}{q:TS→Prop}{t:TS}(h:Bx (PSs X body t)) (k:q t):∃ t,PSs X body t∧q t:=⟨t,h.of,k⟩
theorem ziw {X:Cx}{e:Expr}{t:TT}(h:Bx (PW X e t)):Bx (PT X e t):=⟨h.of.pt⟩
section
variable {X:Cx}
theorem zd {i j pos}:Bx (PE X (.Constant (.int i) j pos) (tC (.int i))):=⟨yH⟩
theorem yK {b j pos}:Bx (PE X (.Constant (.bool b) j pos) (tC (.bl b))):=⟨xW⟩
theorem ui {j pos}:Bx (PE X (.Constant .none j pos) (tC .non)):=⟨zfP⟩
theorem w_pe_str {x j pos}:Bx (PE X (.Constant (.str x) j pos) (tC (.str x))):=⟨zfO⟩
theorem ya {x:Str}{v:V}{u:Value}{pos:Pos}(hg:Gl X x) (hm:X.mg x=some u) (r:RelV v u) (hd:(x == ("__debug__" : Str))=false:=by decide):Bx (PE X (.Name x pos) (tC v)):=⟨wB hg hm r hd⟩
variable {a b:Expr}{ta tb:TE}{pos:Pos}
theorem XM {op:CmpOp}{t:TE}(h:Bx (PC X op a b t)) (h1:behindInMarks op b=false:=by first | exact nobehind _ (by decide) (by decide) | rfl):Bx (PE X (.Compare a [op] [b] pos) t):=⟨zfR h.of h1⟩
theorem zS {e:Expr}{t:TE}(h:Bx (PE X e t)) (he:∀ whole,isTrue e X.env whole=(do let v ← whole;standAt e.pos;holding [v] (truthy v)):=by intro _;rfl):Bx (PT X e (tB t)):=⟨yF h.of he⟩
variable {a b:Expr}{ta tb:TE}{pos:Pos}
variable {tA tB':TT}{rest:List Expr}
theorem Zk (ha:Bx (PT X a tA)):Bx (PW X (.BoolOp .And [a] pos) tA):=⟨Vn ha.of⟩
theorem ug (ha:Bx (PT X a tA)):Bx (PW X (.BoolOp .Or [a] pos) tA):=⟨wb ha.of⟩
theorem XI (ha:Bx (PT X a tA)) (hb:Bx (PW X (.BoolOp .And (b::rest) pos) tB')):Bx (PW X (.BoolOp .And (a::b::rest) pos) (zn0 tA tB')):=⟨zfH ha.of hb.of⟩
theorem Zj (ha:Bx (PT X a tA)) (hb:Bx (PW X (.BoolOp .Or (b::rest) pos) tB')):Bx (PW X (.BoolOp .Or (a::b::rest) pos) (tOr tA tB')):=⟨vf ha.of hb.of⟩
theorem yP (ha:Bx (PT X a tA)):Bx (PT X (.UnaryOp .Not a pos) (znT tA)):=⟨yG ha.of⟩
theorem zW {op}{t:TE}(h:Bx (PE X a t)):Bx (PE X (.BoolOp op [a] pos) t):=⟨YC h.of⟩
theorem zX (ha:Bx (PE X a ta)) (hb:Bx (PE X (.BoolOp .And (b::rest) pos) tb)):Bx (PE X (.BoolOp .And (a::b::rest) pos) (tAndV ta tb)):=⟨uy ha.of hb.of⟩
theorem Zn (ha:Bx (PE X a ta)) (hb:Bx (PE X (.BoolOp .Or (b::rest) pos) tb)):Bx (PE X (.BoolOp .Or (a::b::rest) pos) (zhl ta tb)):=⟨zjV ha.of hb.of⟩
theorem XJ (ha:Bx (PE X a ta)):Bx (PE X (.UnaryOp .Not a pos) (zan ta)):=⟨WY ha.of⟩
end
section
variable {X:Cx}{st:Stmt}{rest:List Stmt}{t u:TS}{e:Expr}{te:TE}{pos:Pos}
theorem zk  : Bx (PSs X [] zao):=⟨yp⟩
theorem w_pss_cons (h1:Bx (PS X st t)) (h2:Bx (PSs X rest u)):Bx (PSs X (st::rest) (znR t u)):=⟨zA h1.of h2.of⟩
theorem ze (h1:Bx (PS X st t)):Bx (PSs X [st] t):=⟨zM h1.of⟩
theorem zy (he:Bx (PE X e te)) (hs:swapsWith e none pos.line X.env=pure false:=by rfl):Bx (PS X (.Expr e pos) (zat te)):=⟨vP he.of hs⟩
theorem zg (he:Bx (PE X e te)):Bx (PS X (.Return (some e) pos) (znS te)):=⟨yt he.of⟩
theorem w_ps_if {c:Expr}{a b:List Stmt}{tc:TT}(hc:Bx (PT X c tc)) (ha:Bx (PSs X a t)) (hb:Bx (PSs X b u)):Bx (PS X (.If c a b pos) (znV tc t u)):=⟨wz hc.of ha.of hb.of⟩
theorem yj  : Bx (PS X st WP):=⟨wy⟩
end
section
variable {X:Cx}{pos:Pos}
theorem zt {i:Nat}{x:Str}(hN:X.N.Nodup) (hi:X.N[i]?=some x) (hx:Loc X.env.scope x) (hf:X.fn x=true∨X.env.scope.names.lookup x=some .local:=by first | exact .inl rfl | exact .inr rfl | assumption):Bx (PG X (.Name x pos) (v9 i)):=⟨xj hN hi hx hf⟩
theorem wR  : Bx (PGs X [] gNil):=⟨YB⟩
theorem yz {e:Expr}{es:List Expr}{t:TG}{u:TGs}(h1:Bx (PG X e t)) (h2:Bx (PGs X es u)) (hs:(assignEach (e::es) X.env).map (·.2)=assign e X.env::(assignEach es X.env).map (·.2):=by rfl):Bx (PGs X (e::es) (zhb t u)):=⟨wA h1.of h2.of hs⟩
theorem uh {es:List Expr}{k:Nat}{t:TGs}{n:Nat}(hc:X.calm=true) (h:Bx (PGs X es t)) (hn:(assignEach es X.env).length=n:=by rfl) (hst:(assignEach es X.env).findIdx? (·.1)=none:=by rfl):Bx (PG X (.Tuple es k pos) (zwj X.K n t)):=⟨WX hc h.of hn hst⟩
theorem zi {i:Nat}{x:Str}{e:Expr}{te:TE}{pos':Pos}(hN:X.N.Nodup) (hi:X.N[i]?=some x) (hx:Loc X.env.scope x) (he:Bx (PE X e te)) (hs:swapsWith e (some (.Name x pos')) pos.line X.env=pure false:=by rfl) (hf:X.fn x=true∨X.env.scope.names.lookup x=some .local:=by first | exact .inl rfl | exact .inr rfl | assumption):Bx (PS X (.Assign [.Name x pos'] e pos) (zhm te (v9 i))):=⟨vg hN hi hx he.of hs hf⟩
theorem uM {c:Expr}{body:List Stmt}{tc:TT}{tb:TS}(hp:PassesOwn (model X.prog X.w) X.A X.env X.xe) (hc:Bx (PT X c tc)) (hb:Bx (PSs X body tb)):Bx (PS X (.While c body [] pos) (WO tc tb)):=⟨XY hp hc.of hb.of⟩
end
section
variable {X:Cx}{tg:Expr}
theorem zE {l:Expr}{tl:TE}(hl:Bx (PE X l tl)):Bx (PI X tg l (zg9 X.K tl)):=⟨xG hl.of⟩
theorem yc {a:Expr}{ta:TA}{p pos:Pos}(hg:Gl X "range") (hm:X.mg "range" = none) (ha:Bx (PA X [a] ta)) (hs:starEach [a] X.env=[(false,eval a X.env)]:=by rfl):Bx (PI X tg (.Call (.Name "range" p) [a] [] pos) (zg8 ta)):=⟨Yz hg hm ha.of hs⟩
theorem vH {a b:Expr}{ta:TA}{p pos:Pos}(hg:Gl X "range") (hm:X.mg "range" = none) (ha:Bx (PA X [a,b] ta)) (hs:starEach [a,b] X.env=[(false,eval a X.env),(false,eval b X.env)]:=by rfl) (hs2:starEach [b] X.env=[(false,eval b X.env)]:=by rfl):Bx (PI X tg (.Call (.Name "range" p) [a,b] [] pos) (zg7 ta)):=⟨Yy hg hm ha.of hs hs2⟩
theorem zO {iter:Expr}{body:List Stmt}{wi:TI}{g:TG}{tb:TS}{pos:Pos}(hp:PassesOwn (model X.prog X.w) X.A X.env X.xe) (hc:X.calm=true) (hi:Bx (PI X tg iter wi)) (hg:Bx (PG X tg g)) (hb:Bx (PSs X body tb)) (hs:∀ x,foldedSetIterable iter X.env x=pure x:=by intro _;rfl):Bx (PS X (.For tg iter body [] pos) (znW wi g tb)):=⟨vh hp hc hi.of hg.of hb.of hs⟩
end
section
variable {X:Cx}{a b c:Expr}{ta tb tc:TE}{pos:Pos}
theorem zh {op:Operator}{r:R2}(ho:OpR X (binaryOp op) r) (ha:Bx (PE X a ta)) (hb:Bx (PE X b tb)):Bx (PE X (.BinOp a op b pos) (tOp r ta tb)):=⟨zjW ho ha.of hb.of⟩
theorem wp {op:UnaryOp}{r:V→Hp→VK→Prop}(ho:UnR X (unaryOp op) r) (ha:Bx (PE X a ta)):Bx (PE X (.UnaryOp op a pos) (tUn r ta)):=⟨zfM ho ha.of⟩
theorem zG {op:CmpOp}{r:R2}(ho:OpR X (compareOp op) r) (ha:Bx (PE X a ta)) (hb:Bx (PE X b tb)) (hm:behindInMarks op b=false):Bx (PE X (.Compare a [op] [b] pos) (tOp r ta tb)):=⟨wC ho ha.of hb.of hm⟩
theorem w_pt_cmpR {op:CmpOp}{r:R2}(ho:OpR X (compareOp op) r) (ha:Bx (PE X a ta)) (hb:Bx (PE X b tb)) (hm:behindInMarks op b=false):Bx (PT X (.Compare a [op] [b] pos) (zak (tOp r ta tb))):=⟨xi ho ha.of hb.of hm⟩
end
section
variable {X:Cx}{o e value:Expr}{f:Str}{pos pos' tpos:Pos}{ta tv:TE}
theorem w_pe_fld (he:Bx (PE X e ta)) (hb:attributeBase e f X.env (eval e X.env)=eval e X.env):Bx (PE X (.Attribute e f pos) (znX X.K ta f)):=⟨zfQ he.of hb⟩
theorem zL (ha:Bx (PE X o ta)) (hv:Bx (PE X value tv)) (hs:swapsWith value (some (.Attribute o f pos')) pos.line X.env=pure false):Bx (PS X (.Assign [.Attribute o f pos'] value pos) (zuH X.K ta tv f)):=⟨uu ha.of hv.of hs⟩
end
section
variable {X:Cx}{e:Expr}{es:List Expr}{te:TE}{t:TA}{pos:Pos}
theorem w_pa_nil  : Bx (PA X [] Ub):=⟨zQ⟩
theorem zf (ha:Bx (PE X e te)) (hr:Bx (PA X es t)) (hs:starEach (e::es) X.env=(false,eval e X.env)::starEach es X.env:=by rfl):Bx (PA X (e::es) (yS te t)):=⟨yq ha.of hr.of hs⟩
theorem zF {x1}(h:Bx (PA X es t)):Bx (PE X (.Tuple es x1 pos) (znP t)):=⟨zfN h.of⟩
theorem zr (h:Bx (PA X es t)):Bx (PE X (.List es pos) (znU t)):=⟨WZ h.of⟩
end
section
variable {X:Cx}{CX:CXT}{k:Nat}{f C:Addr}{fd:FuncData}{ps:List Str}{sp:Sp}{dvs:List V}{ds:List Value}{E:XK}{x m:Str}{p pos apos:Pos}{e o:Expr}{es:List Expr}{ta:TE}{t:TA}
theorem uN (F:FnOk X.prog X.w X.K X.mg X.base CX k f fd ps sp) (hr:Room k X.A) (hg:Gl X x) (hm:X.mg x=some (.ref f)) (hk:PySem.W.keepIn X.K (.ref f)=true) (hb:Binds X.K fd ps ds) (hd:Vals dvs ds) (hx:y8 CX X E) (hdb:(x == ("__debug__" : Str))=false:=by decide):Bx (PE X (.Call (.Name x p) [] [] pos) (ZC sp dvs E Ub)):=⟨X7 F hr hg hm hk hb hd hx hdb⟩
theorem zad {pl:Sem Bool}(he:Bx (PE X o ta)) (c:Cls X.K C) (hm:Meth X.K C m f) (F:FnOk X.prog X.w X.K X.mg X.base CX k f fd ps sp) (hr:Room k X.A) (hb:Binds X.K fd ps ds) (hd:Vals dvs ds) (hx:y8 CX X E) (ha:Bx (PA X (e::es) t)) (hst:starEach (e::es) X.env=(false,eval e X.env)::starEach es X.env:=by rfl) (hpl:(backTo pos (starEach es X.env)).any (·.1)=false:=by rfl) (ht:eval (.Call (.Attribute o m apos) (e::es) [] pos) X.env=(do
   let ov ← eval o X.env
   standAt apos.atName
   let (f,first) ← holding [ov] (getMethod ov m pl)
   callWith pos f first (backTo pos (starEach (e::es) X.env)) (backToKw pos (keywordEach [] X.env))):=by rfl):Bx (PE X (.Call (.Attribute o m apos) (e::es) [] pos) (zaq C m sp dvs E ta t)):=⟨Vx he.of c hm F hr hb hd hx ha.of hst hpl ht⟩
end
section
variable {X:Cx}{x:Str}{p pos:Pos}{e:Expr}{es:List Expr}{t:TA}{id T:String}{r:List V→Hp→VK→Prop}
theorem w_pe_callB (hc:yu X (.builtin id) r) (hg:Gl X x) (hm:X.mg x=none) (hv:bootBuiltins x=some (.builtin id)) (ha:Bx (PA X (e::es) t)) (hn:x ≠ "__name__" := by decide) (hdb:(x == ("__debug__" : Str))=false:=by decide) (he:starEach (e::es) X.env=(false,eval e X.env)::starEach es X.env:=by rfl) (hpl:(backTo pos (starEach es X.env)).any (·.1)=false:=by rfl):Bx (PE X (.Call (.Name x p) (e::es) [] pos) (tCB r t)):=⟨zY hc hg hm hv ha.of hn hdb he hpl⟩
theorem zI (hc:yu X (.type T) r) (hg:Gl X x) (hm:X.mg x=none) (hv:bootBuiltins x=some (.type T)) (ha:Bx (PA X (e::es) t)) (hn:x ≠ "__name__" := by decide) (hdb:(x == ("__debug__" : Str))=false:=by decide) (he:starEach (e::es) X.env=(false,eval e X.env)::starEach es X.env:=by rfl) (hpl:(backTo pos (starEach es X.env)).any (·.1)=false:=by rfl):Bx (PE X (.Call (.Name x p) (e::es) [] pos) (tCB r t)):=⟨vi hc hg hm hv ha.of hn hdb he hpl⟩
end
section
variable {X:Cx}{e:Expr}{te:TE}{lo hi:Option Expr}{tl th:TO}{pos p2:Pos}
theorem xB  : Bx (PO X none ZB):=⟨Vu⟩
theorem xA (h:Bx (PE X e te)):Bx (PO X (some e) (zam te)):=⟨po_some h.of⟩
theorem y9 {r:V→Option Int→Option Int→Hp→VK→Prop}(hr:SlR X r) (he:Bx (PE X e te)) (hl:Bx (PO X lo tl)) (hu:Bx (PO X hi th)):Bx (PE X (.Subscript e (.Slice lo hi none p2) pos) (tSl r te tl th)):=⟨X0 hr he.of hl.of hu.of⟩
end
section
variable {X:Cx}{a b:Expr}{ta tb:TE}{pos:Pos}
theorem zq {r:R2}(hr:IxR X r) (ha:Bx (PE X a ta)) (hb:Bx (PE X b tb)) (hs:Xo b):Bx (PE X (.Subscript a b pos) (tOp r ta tb)):=⟨vR hr ha.of hb.of hs⟩
variable {o e:Expr}{es:List Expr}{to:TE}{t:TA}{name:Str}{apos cpos:Pos}{T id:String}{r:V→List V→Hp→VK→Prop}
theorem XN (pa:PlainAttrs T) (slot:Slot T name id) (hty:typeOf (.builtin id)=pure (.type "method_descriptor")) (hm:MtR X id r) (ho:Bx (PE X o to)) (hbase:attributeBase o name X.env (eval o X.env)=eval o X.env:=by rfl) (hline:(apos.endLine == cpos.line)=true:=by rfl):Bx (PE X (.Call (.Attribute o name apos) [] [] cpos) (znZ X.K T r to)):=⟨zfT pa slot hty hm ho.of hbase hline⟩
theorem zV (pa:PlainAttrs T) (slot:Slot T name id) (hty:typeOf (.builtin id)=pure (.type "method_descriptor")) (hm:MtR X id r) (ho:Bx (PE X o to)) (ha:Bx (PA X (e::es) t)) (hbase:attributeBase o name X.env (eval o X.env)=eval o X.env:=by rfl) (hfew:((backTo cpos (starEach (e::es) X.env)).all (fun x=>!x.1)&&(backToKw cpos (keywordEach [] X.env)).all (fun x=>x.1.isSome)
   && decide ((e::es).length+([]:List Keyword).length+(if ([]:List Keyword).isEmpty then 0 else 1)<30))=true:=by rfl) (hline:(apos.endLine == cpos.line)=true:=by rfl) (hs:starEach (e::es) X.env=(false,eval e X.env)::starEach es X.env:=by rfl) (hplain:(backTo cpos (starEach es X.env)).any (·.1)=false:=by rfl):Bx (PE X (.Call (.Attribute o name apos) (e::es) [] cpos) (tBM X.K T r to t)):=⟨VF pa slot hty hm ho.of ha.of hbase hfew hline hs hplain⟩
end
section
variable {X:Cx}{o i e value:Expr}{pos pos' tpos:Pos}{td ty tv:TE}
theorem yk (hu:X.A.units+1<cLine) (ho:Bx (PE X o td)) (hi:Bx (PE X i ty)) (hs:znM i):Bx (PE X (.Subscript o i pos) (zax td ty)):=⟨vS hu ho.of hi.of hs⟩
theorem XO (hu:X.A.units+1<cLine) (hi:Bx (PE X i ty)) (ho:Bx (PE X o td)):Bx (PC X .In i o (znY ty td)):=⟨W1 hu hi.of ho.of⟩
theorem w_ps_dput (hu:X.A.units+1<cLine) (ho:Bx (PE X o td)) (hi:Bx (PE X i ty)) (hv:Bx (PE X value tv)) (hs:swapsWith value (some (.Subscript o i pos')) pos.line X.env=pure false):Bx (PS X (.Assign [.Subscript o i pos'] value pos) (zfz td ty tv)):=⟨vQ hu ho.of hi.of hv.of hs⟩
end
section
variable {X:Cx}{pos:Pos}
theorem xa  : Bx (PE X (.Dict [] [] pos) WQ):=⟨uw⟩
end
section
theorem xz {X:Cx}{pos:Pos}:Bx (PPs X pos [] [] []):=⟨Vt⟩
theorem zK {X:Cx}{pos:Pos}{k v:Expr}{ks:List (Option Expr)}{vs:List Expr}{tk tv:TE}{trs:List (TE×TE)}(hk:Bx (PE X k tk)) (hv:Bx (PE X v tv)) (hr:Bx (PPs X pos ks vs trs)):Bx (PPs X pos (some k::ks) (v::vs) ((tk,tv)::trs)):=⟨XZ hk.of hv.of hr.of⟩
theorem xC {X:Cx}{pos:Pos}{keys:List (Option Expr)}{values:List Expr}{trs:List (TE×TE)}(h:Bx (PPs X pos keys values trs)) (hall:keys.all (·.isSome)=true) (hl:keys.length=values.length) (h0:keys≠[]) (h15:keys.length≤15):Bx (PE X (.Dict keys values pos) (zau trs)):=⟨VB h.of hall hl h0 h15⟩
end
section
variable {X:Cx}
theorem w_pv (i:Nat){x:Str}{pos:Pos}(hN:X.N[i]?=some x:=by rfl) (hv:Vis X.env.scope x:=by first | exact Or.inl rfl | exact Or.inr (Or.inl rfl) | exact Or.inr (Or.inr rfl)) (hd:(x == ("__debug__" : Str))=false:=by decide) (hcd:(x == ("__classdict__" : Str))=false:=by decide):Bx (PE X (.Name x pos) (ziy i)):=⟨pv i hN hv hd hcd⟩
end
section
theorem xy {X:Cx}{st:Stmt}{rest:List Stmt}{t u:TS}(h1:Bx (PS X st t)) (h2:Bx (PSs X rest u)):Bx (PSs X (st::rest) (zal t u)):=⟨Vp h1.of h2.of⟩
theorem zZ {X:Cx}:Bx (PTs X [] zhk):=⟨Vo⟩
end
section
variable {X:Cx}{tg iter elt:Expr}{ifs:List Expr}{scope:Scope}{pos:Pos}{N':List Str}{t:Nat}{caps:List Nat}{g:Blk→TG}{tc:Blk→TT}{te:Blk→TE}{wi:TI}
theorem yd (hc:X.calm=true) (S:CompOk X scope N' t caps) (hi:Bx (PI X tg iter wi)) (hg:∀ b,Bx (PG (cxB X scope N' b) tg (g b))) (ht:∀ b,Bx (PTs (cxB X scope N' b) ifs (tc b))) (he:∀ b,Bx (PE (cxB X scope N' b) elt (te b))) (hs:∀ x,foldedSetIterable iter X.env x=pure x:=by intro _;rfl):Bx (PE X (.ListComp elt [⟨tg,iter,ifs,0⟩] scope pos) (XR wi g tc te t caps)):=⟨VD hc S hi.of (fun x0=>(hg x0).of) (fun x0=>(ht x0).of) (fun x0=>(he x0).of) hs⟩
theorem wQ {i:Nat}{y:Str}{py spos:Pos}(hc:X.calm=true) (hN:X.N.Nodup) (hiy:X.N[i]?=some y) (hy:Loc X.env.scope y) (S:CompOk X scope N' t caps) (hi:Bx (PI X tg iter wi)) (hg:∀ b,Bx (PG (cxB X scope N' b) tg (g b))) (ht:∀ b,Bx (PTs (cxB X scope N' b) ifs (tc b))) (he:∀ b,Bx (PE (cxB X scope N' b) elt (te b))) (hsw:swapsWith (.ListComp elt [⟨tg,iter,ifs,0⟩] scope pos) (some (.Name y py)) spos.line X.env=pure true:=by rfl) (hs:∀ x,foldedSetIterable iter X.env x=pure x:=by intro _;rfl) (hf:X.fn y=true∨X.env.scope.names.lookup y=some .local:=by first | exact .inl rfl | exact .inr rfl | assumption):Bx (PS X (.Assign [.Name y py] (.ListComp elt [⟨tg,iter,ifs,0⟩] scope pos) spos) (zhm (XR wi g tc te t caps) (v9 i))):=⟨uX hc hN hiy hy S hi.of (fun x0=>(hg x0).of) (fun x0=>(ht x0).of) (fun x0=>(he x0).of) hsw hs hf⟩
end
section
variable {X:Cx}{k:Nat}{f C:Addr}{fd:FuncData}{ps:List Str}{sp:Sp}{x m:Str}{p pos apos:Pos}{e o:Expr}{es:List Expr}{ta:TE}{t:TA}
theorem zj (c:Callee X.prog X.w X.K X.mg X.base x f fd ps k sp) (hr:Room k X.A) (ha:Bx (PA X (e::es) t)) (hg:Gl X x:=by rfl) (hdb:(x == ("__debug__" : Str))=false:=by decide) (he:starEach (e::es) X.env=(false,eval e X.env)::starEach es X.env:=by rfl) (hpl:(backTo pos (starEach es X.env)).any (·.1)=false:=by rfl):Bx (PE X (.Call (.Name x p) (e::es) [] pos) (ZC sp [] E0 t)):=⟨W0 c hr ha.of hg hdb he hpl⟩
theorem xm (c:Maker X.prog X.w X.K X.mg X.base x C f fd ps k sp) (hr:Room (k+1) X.A) (ha:Bx (PA X (e::es) t)) (hg:Gl X x:=by rfl) (hdb:(x == ("__debug__" : Str))=false:=by decide) (he:starEach (e::es) X.env=(false,eval e X.env)::starEach es X.env:=by rfl) (hpl:(backTo pos (starEach es X.env)).any (·.1)=false:=by rfl):Bx (PE X (.Call (.Name x p) (e::es) [] pos) (Vf C sp [] E0 t)):=⟨zwU c hr ha.of hg hdb he hpl⟩
theorem w_pe_methD {pl:Sem Bool}(he:Bx (PE X o ta)) (ha:Bx (PA X (e::es) t)) (hst:starEach (e::es) X.env=(false,eval e X.env)::starEach es X.env:=by rfl) (hpl:(backTo pos (starEach es X.env)).any (·.1)=false:=by rfl) (ht:eval (.Call (.Attribute o m apos) (e::es) [] pos) X.env=(do
   let ov ← eval o X.env
   standAt apos.atName
   let (f,first) ← holding [ov] (getMethod ov m pl)
   callWith pos f first (backTo pos (starEach (e::es) X.env)) (backToKw pos (keywordEach [] X.env))):=by rfl):Bx (PE X (.Call (.Attribute o m apos) (e::es) [] pos) (uo X m ta t)):=⟨X1 he.of ha.of hst hpl ht⟩
theorem zz {pl:Sem Bool}(he:Bx (PE X o ta)) (ht:eval (.Call (.Attribute o m apos) [] [] pos) X.env=(do
   let ov ← eval o X.env
   standAt apos.atName
   let (f,first) ← holding [ov] (getMethod ov m pl)
   callWith pos f first (backTo pos (starEach [] X.env)) (backToKw pos (keywordEach [] X.env))):=by rfl):Bx (PE X (.Call (.Attribute o m apos) [] [] pos) (uo X m ta Ub)):=⟨YD he.of ht⟩
end
section
theorem yQ {X:Cx}{x:Str}{C:Addr}{pos:Pos}(hm:X.mg x=some (.ref C)) (hg:Gl X x:=by rfl) (hd:(x == ("__debug__" : Str))=false:=by decide):Bx (PE X (.Name x pos) (tC (.ref C))):=⟨zfS hm hg hd⟩
theorem wq {X:Cx}{x:Str}{n:String}{pos:Pos}(hm:X.mg x=none) (hv:bootBuiltins x=some (.type n)) (hg:Gl X x:=by rfl) (hn:x ≠ "__name__" := by decide) (hd:(x == ("__debug__" : Str))=false:=by decide):Bx (PE X (.Name x pos) (tC (.ty n))):=⟨wc hm hv hg hn hd⟩
end
section
variable {P:Program}{w:World}{A:Around}{R:Result→Shared→Prop}{I S:Addr}{fp wr:List Addr}{n:Nat}{Is:Nat→Value→Prop}{St:Nat→Heap→Prop}{kw:List (Str×Value)}
theorem Zp {X:Cx}{e dv:Expr}{ta:TA}{td:TE}{p kp pos:Pos}(hc:X.calm=true) (hg:Gl X "max") (hm:X.mg "max" = none) (ha:Bx (PA X [e] ta)) (hd:Bx (PE X dv td)) (hs:starEach [e] X.env=[(false,eval e X.env)]:=by rfl):Bx (PE X (.Call (.Name "max" p) [e] [⟨some "default",dv,kp⟩] pos) (zar X.K ta td)):=⟨Vy hc hg hm ha.of hd.of hs⟩
theorem Zo {X:Cx}{e dv:Expr}{ta:TA}{td:TE}{p kp pos:Pos}(hc:X.calm=true) (hg:Gl X "min") (hm:X.mg "min" = none) (ha:Bx (PA X [e] ta)) (hd:Bx (PE X dv td)) (hs:starEach [e] X.env=[(false,eval e X.env)]:=by rfl):Bx (PE X (.Call (.Name "min" p) [e] [⟨some "default",dv,kp⟩] pos) (zap X.K ta td)):=⟨Vw hc hg hm ha.of hd.of hs⟩
end
section
variable {X:Cx}{es:List Expr}{t:TA}{te:TE}
theorem zl {c j pos}(ha:Bx (PE X (.Constant c j pos) te)) (hr:Bx (PA X es t)):Bx (PA X (.Constant c j pos::es) (yS te t)):=⟨zwY ha.of hr.of⟩
theorem wT {xs c pos}(ha:Bx (PE X (.Tuple xs c pos) te)) (hr:Bx (PA X es t)):Bx (PA X (.Tuple xs c pos::es) (yS te t)):=⟨zwW ha.of hr.of⟩
theorem zx {f xs ks pos}(ha:Bx (PE X (.Call f xs ks pos) te)) (hr:Bx (PA X es t)):Bx (PA X (.Call f xs ks pos::es) (yS te t)):=⟨zwX ha.of hr.of⟩
theorem yb {l o r pos}(ha:Bx (PE X (.BinOp l o r pos) te)) (hr:Bx (PA X es t)):Bx (PA X (.BinOp l o r pos::es) (yS te t)):=⟨zwZ ha.of hr.of⟩
theorem zae {o r pos}(ha:Bx (PE X (.UnaryOp o r pos) te)) (hr:Bx (PA X es t)):Bx (PA X (.UnaryOp o r pos::es) (yS te t)):=⟨zwV ha.of hr.of⟩
theorem w_pa_N {x pos}(ha:Bx (PE X (.Name x pos) te)) (hr:Bx (PA X es t)):Bx (PA X (.Name x pos::es) (yS te t)):=⟨xn ha.of hr.of⟩
end
section
variable {X:Cx}{o e:Expr}{apos cpos:Pos}{td ty:TE}
theorem Zq (ho:Bx (PE X o td)) (he:Bx (PE X e ty)) (m:M1 X o "update" apos e cpos):Bx (PE X (.Call (.Attribute o "update" apos) [e] [] cpos) (zav td ty)):=⟨VA ho.of he.of m⟩
end
section
variable {X:Cx}{o:Expr}{to:TE}{apos cpos:Pos}
theorem wS (ho:Bx (PE X o to)) (hbase:attributeBase o "clear" X.env (eval o X.env)=eval o X.env:=by rfl) (hline:(apos.endLine == cpos.line)=true:=by rfl):Bx (PE X (.Call (.Attribute o "clear" apos) [] [] cpos) (zay to)):=⟨VC ho.of hbase hline⟩
end
section
variable {X:Cx}{pins:List (Addr×Obj)}{σ:St}{H G:Hp}{s:Shared}{d:Addr}{od:Obj}{kvs:List (Key×V)}
theorem Zl {tg o:Expr}{body:List Stmt}{td:TE}{g:TG}{tb:TS}{apos cpos pos:Pos}(hp:PassesOwn (model X.prog X.w) X.A X.env X.xe) (hc:X.calm=true) (ho:Bx (PE X o td)) (hg:Bx (PG X tg g)) (hb:Bx (PSs X body tb)) (hbase:attributeBase o "values" X.env (eval o X.env)=eval o X.env:=by rfl) (hline:(apos.endLine == cpos.line)=true:=by rfl) (hs:∀ x,foldedSetIterable (.Call (.Attribute o "values" apos) [] [] cpos) X.env x=pure x:=by intro _;rfl):Bx (PS X (.For tg (.Call (.Attribute o "values" apos) [] [] cpos) body [] pos) (zas td g tb)):=⟨Vq hp hc ho.of hg.of hb.of hbase hline hs⟩
end
def Th (G:Hp) (Q:Hp→Prop) (H:Hp):Prop:=Q H∨∃ (d:Addr) (od:Obj) (kvs:List (Key×V)),(∀ o u,G d≠some (.frz o u))∧H d=some (.frz od (.dK kvs))∧Q (upd H d (.dK kvs))
def znQ (G:Hp) (t:TE):TE:=fun σ H Q=>t σ H fun v=>Th G (Q v)
section
variable {X:Cx}{pins:List (Addr×Obj)}{σ:St}{H G:Hp}{s:Shared}{d:Addr}{od:Obj}{kvs:List (Key×V)}
theorem Th.inv {Q:Hp→Prop}(I:Inv X pins σ H s) (h:Th X.H₀ Q H):∃ H',Inv X pins σ H' s∧Q H':=by
 rcases h with h | ⟨d,od,kvs,S,g,h⟩
 ·exact⟨_,I,h⟩
 ·exact⟨_,I.thaw S g,h⟩
theorem Vv {e:Expr}{t:TE}(h:PE X e t):PE X e (znQ X.H₀ t):=by
 intro pins s σ H Q I q
 refine thn (h pins s σ H _ I q) fun u s' hq0=>?_
 obtain⟨v,H',I',r,q'⟩:=hq0
 obtain⟨H2,I2,q2⟩:=Th.inv I' q'
 exact⟨v,H2,I2,r,q2⟩
theorem V1 {P:Program}{w:World}{k:Key}{u:Value}(h:(zu P w).is k u=true):RelV (kV k) u:=by
 rw[u0] at h
 cases k with
 |inl i=>cases u<;>simp[xZ,Value.isInt] at h<;>(subst h;exact⟨_,rfl⟩)
 |inr x=>cases u<;>simp[xZ,Value.isStrOf] at h<;>(subst h;exact⟨_,rfl⟩)
theorem yN:entryFor table "dict_itemiterator.__iter__" = some Builtin.«dict_keyiterator.__iter__» :=
 entryFor_alias (id' := "dict_keyiterator.__iter__") (by kernel_rfl) rfl (by decide +kernel) (by kernel_rfl)
theorem xE {prog:Program}{w:World}{A:Around}{E:Value→Shared→Prop}{s:Shared}{it d:Addr}{i n ep:Nat}{ok ov:Value}{Q:Value→Shared→Prop}(hit:IsItemIter s.heap it d i n ep ok ov) (h:Q (.ref it) s):wpAny (model prog w) A (pyIter (.ref it)) Q E s:=by
 have ti:s.TypeIs (.ref it) "dict_itemiterator" := ⟨_,hit,rfl⟩
 refine wpAny_pyIter_slot ti F.slot_dict_itemiterator_iter (wpAny_call_entry F.slot_dict_itemiterator_iter ti yN ?_ (F.args_dict_itemiterator_iter_1 _))
 show wpAny _ _ (ret (.ref it)) _ _ s
 exact wpAny_pure ⟨_,rfl, "dict_itemiterator",_,ti,F.slot_dict_itemiterator_next.lookup,h⟩
abbrev YL:=Key×V→V→Hp→Hp→Prop
def yI:YL:=fun kv x H H'=>∃ p,H p=none∧x=.ref p∧H'=upd H p (.tup [kV kv.1,kv.2])
noncomputable def Itd (yl:YL) (d:Addr) (od:Obj) (kvs:List (Key×V)):It :=
 ⟨fun i H=>H d=some (.frz od (.dK kvs))∧i<kvs.length,fun i H x H'=>∃ kv,kvs[i]?=some kv∧yl kv x H H',fun i H=>H d=some (.frz od (.dK kvs))∧kvs.length≤i⟩
theorem vJ {P:Program}{w:World}{K:PySem.W.Frag}{es:List Expr}{n:Nat}{tp:Pos}{it d:Addr}{od:Obj}{kvs:List (Key×V)}{vs:List (Key×Value)}{ep:Nat}(rel:KV kvs vs)
  (da:∀ h:Heap,h.get? d=some od→Heap.DictAt (zu P w) h d vs ep):Turn P w K (.Tuple es n tp) (Itd yI d od kvs) [it] it (fun i h=>∃ ok ov,IsItemIter h it d i vs.length ep ok ov) where
 mem:=by simp
 obj:=fun i h ⟨ok,ov,st⟩ b hb=>by
  rw[List.mem_singleton.mp hb]
  exact⟨_,st,fun v z=>by
   have z':Data.fields _=Data.cell v:=z
   cases z'⟩
 keep:=fun i h h' ⟨ok,ov,st⟩ k=>⟨ok,ov,k it (by simp) _ st⟩
 item:=by
  intro X hP hw hK hc i pins s σ H E I hf st hg
  subst hP hw hK
  obtain⟨ok,ov,st⟩:=st
  have fi:=hf it (by simp)
  have d3:=(I.hok d _ hg.1).1
  have hx:kvs[i]?=some (kvs[i]'hg.2):=List.getElem?_eq_getElem hg.2
  obtain⟨u,hu,ru⟩:=rel.getAt hx
  refine wpAny_pyNext_items_item st (da _ d3) hu fun key h1 hkey O1 T1 z1 kk=>?_
  refine⟨_,rfl,wpAny_letOwnedTupleGo_items (s:={ s with heap:=h1 }) O1 fun h2 E2 sb=>?_⟩
  have te:s.heap.objs.size≠it:=(Nat.ne_of_lt (Heap.lt_size st)).symm
  have T2:=sb.extBut _ _ te T1
  have k2:∀ c o,c∉[it]→s.heap.get? c=some o→h2.get? c=some o:=fun c o hc q=>by
   have hc:c≠it:=by simpa using hc
   exact sb.extBut c o hc (kk c o hc q)
  have hn:H s.heap.objs.size=none:=I.fresh
  refine⟨.ref s.heap.objs.size,upd H s.heap.objs.size (.tup [kV (kvs[i]'hg.2).1,(kvs[i]'hg.2).2]),I.turnedLaid (t':=s.toks) (ch:=[it]) hf k2 (Nat.le_refl _) ⟨by show 2≤sizeLine;decide,[key,u],.cons (V1 hkey) (.cons ru .nil),⟨_,T2,rfl,_,rfl⟩⟩,rfl,
   ⟨_,hx,_,hn,rfl,rfl⟩,⟨_,_,E2⟩,fun c hc=>?_⟩
  rw[List.mem_singleton.mp hc,upd_ne te.symm]
  exact fi.1
 done:=by
  intro X hP hw hK hc i pins s σ H E I hf st hg
  subst hP hw hK
  obtain⟨ok,ov,st⟩:=st
  obtain⟨f0,f1,f2,f3,f4,f5⟩:=hf it (by simp)
  have d3:=(I.hok d _ hg.1).1
  have lv:=rel.length
  exact wpAny_pyNext_items_end (I.ok.hd hc) st (da _ d3) (List.getElem?_eq_none (by have:=hg.2;omega)) fun h' kk=>⟨rfl,I.turned (t':=s.toks) (fun b o hb q=>kk b o hb q) f0 f1 f3 f4 f5⟩
 self:=fun _ _ _ _ _ ⟨_,_,st⟩ h=>xE st h
def zwg (yl:YL) (G:Hp) (td:TE):TI:=fun σ H R=>td σ H fun x H1=>∃ (d:Addr) (kvs:List (Key×V)),x=.ref d∧H1 d=some (.dK kvs)∧∀ od:Obj,(∀ o u,G d≠some (.frz o u))→R (Itd yl d od kvs) (upd H1 d (.frz od (.dK kvs)))
theorem V7 {x:Addr}(I:Inv X pins σ H s) (e:H d=some (.dK kvs)):∀ o u,X.H₀ d≠some (.frz o u):=fun o u z=>by
 have:=I.base.frzs d o u z
 rw[e] at this;cases this
theorem YA {o:Expr}{es:List Expr}{n:Nat}{tp:Pos}{td:TE}{apos cpos:Pos}(ho:PE X o td)
  (hbase:attributeBase o "items" X.env (eval o X.env)=eval o X.env:=by rfl) (hline:(apos.endLine == cpos.line)=true:=by rfl):PI X (.Tuple es n tp) (.Call (.Attribute o "items" apos) [] [] cpos) (zwg yI X.H₀ td):=by
 intro pins s σ H R I h
 refine wpAny_Call_method0_late hbase hline (thn (ho pins s σ H _ I h) fun v s1 hq0=>?_)
 obtain⟨x,H1,I1,rx,d,kvs,ex,e,q⟩:=hq0
 subst ex
 obtain rfl:v=Value.ref d:=rx
 obtain⟨t1,t2,_⟩:=uF I1 (.inl ⟨_,.inl e⟩)
 obtain⟨z,hd,vs,rel,dd⟩:=vz I1.hok e
 refine⟨"dict", "dict.items",PySem.F.plainAttrs_dict,PySem.F.slot_dict_items,PySem.F.type_dict_items,t1,t2,Calls.callWith_builtin rfl (PySem.evalArgs_none ?_)⟩
 refine call_meetsIn PySem.F.slot_dict_items dd.typeIs PySem.F.entry_dict_items (PySem.F.args_dict_items_1 _) (meets_dict_items (zu X.prog X.w) d hd) ⟨⟨vs,dd⟩,?_⟩
 obtain⟨od,es',ep,q1,q2,q3,q4,q5,q6⟩:=dd
 have da:∀ h':Heap,h'.get? d=some od→Heap.DictAt (zu X.prog X.w) h' d vs ep:=fun _ q=>⟨od,es',q,q2,q3,q4,q5,q6⟩
 refine wpAny_pyIter_items (s:={ s1 with heap:=s1.heap.push _ }) (d:=d) ⟨_,Heap.get?_push_size _ rfl,rfl,rfl⟩ (da _ (Heap.get?_push_of_some _ q1)) ?_
 have hle:s1.heap.objs.size≤(s1.heap.push { cls:=.type "dict_items",data:=.fields #[.ref d] }).objs.size:=by rw[Heap.size_push];exact Nat.le_succ _
 have I1f:=I1.froz e q1
 refine⟨_,[(s1.heap.push { cls:=.type "dict_items",data:=.fields #[.ref d] }).objs.size],_,_,_,rfl,I1f.kept (t':=s1.toks) fun b u q=>Heap.get?_push_of_some _ (Heap.get?_push_of_some _ q),vJ rel da,⟨_,_,Heap.get?_push_size _ rfl⟩,fun b hb=>?_,q od (V7 (x:=d) I1 e)⟩
 rw[List.mem_singleton.mp hb]
 exact I1f.fpOk hle (I1f.hok.fresh hle)
end
theorem ziu {yl:YL}{d:Addr}{od:Obj}{kvs:List (Key×V)}{g:TG}{tb:TS}{D:Ends}{σ:St}{H:Hp}(Pv:Nat→St→Hp→Prop) (h0:Pv 0 σ H) (hf:∀ i σ H,Pv i σ H→H d=some (.frz od (.dK kvs)))
  (hs:∀ i kv x σ H H',kvs[i]?=some kv→Pv i σ H→yl kv x H H'→g x σ H' fun σ2 H2=>tb { D with nx:=Pv (i+1),ct:=Pv (i+1),bk:=D.nx } σ2 H2) (hd:∀ σ H,Pv kvs.length σ H→D.nx σ H) :
  ∃ W:Nat→Nat→St→Hp→Prop,(∃ m,W 0 m σ H)∧∀ i m σ H,W i m σ H →
   ((Itd yl d od kvs).stop i H∧D.nx σ H)∨((Itd yl d od kvs).go i H∧∃ N:St→Hp→Prop,(∀ σ' H',N σ' H'→∃ m',m'<m∧W (i+1) m' σ' H')∧∀ x H',(Itd yl d od kvs).yld i H x H'→g x σ H' fun σ2 H2=>tb { D with nx:=N,ct:=N,bk:=D.nx } σ2 H2):=by
 refine⟨fun i m σ H=>m=kvs.length-i∧i≤kvs.length∧Pv i σ H,⟨_,rfl,Nat.zero_le _,h0⟩,?_⟩
 rintro i m σ H ⟨rfl,hi,p⟩
 have q:=hf i σ H p
 by_cases hlt:i<kvs.length
 ·refine .inr ⟨⟨q,hlt⟩,Pv (i+1),fun σ' H' z=>⟨_,by omega,rfl,hlt,z⟩,fun x H' ⟨kv,hk,y⟩=>hs i kv x σ H H' hk p y⟩
 ·have e:i=kvs.length:=by omega
  subst e
  exact .inl ⟨⟨q,Nat.le_refl _⟩,hd σ H p⟩
theorem Xb {yl:YL}{d:Addr}{od:Obj}{kvs:List (Key×V)}{g:TG}{tc:TT}{te:TE}{Q:VK}{D:Addr}{τ0:St}{H0:Hp}(Pv:Nat→List V→St→Hp→Prop) (h0:Pv 0 [] τ0 H0) (hf:∀ i zs τ H,Pv i zs τ H→H d=some (.frz od (.dK kvs)))
  (hs:∀ i kv x zs τ H H',kvs[i]?=some kv→Pv i zs τ H→yl kv x H H'→g x τ H' fun τ2 H4=>tc τ2 H4 fun b H5 =>
   if b=true then te τ2 H5 fun y H6=>H6 D=some (.lst zs)∧zs.length<sizeLine∧Pv (i+1) (zs++[y]) τ2 (upd H6 D (.lst (zs++[y]))) else Pv (i+1) zs τ2 H5)
  (hd:∀ zs τ H,Pv kvs.length zs τ H→Q (.ref D) H):Zi (Itd yl d od kvs) g tc te Q D τ0 H0 :=
 ub kvs.length Pv h0 (fun zs τ H p=>⟨⟨hf _ _ _ _ p,Nat.le_refl _⟩,hd zs τ H p⟩) fun i zs τ H hi p=>⟨⟨hf _ _ _ _ p,hi⟩,fun x H3 ⟨kv,hk,y⟩=>hs i kv x zs τ H H3 hk p y⟩
section
variable {X:Cx}{pins:List (Addr×Obj)}{σ:St}{H G:Hp}{s:Shared}{d:Addr}{od:Obj}{kvs:List (Key×V)}
theorem Zm {e:Expr}{t:TE}(h:Bx (PE X e t)):Bx (PE X e (znQ X.H₀ t)):=⟨Vv h.of⟩
theorem vI {o:Expr}{es:List Expr}{n:Nat}{tp:Pos}{td:TE}{apos cpos:Pos}(ho:Bx (PE X o td)) (hbase:attributeBase o "items" X.env (eval o X.env)=eval o X.env:=by rfl) (hline:(apos.endLine == cpos.line)=true:=by rfl):Bx (PI X (.Tuple es n tp) (.Call (.Attribute o "items" apos) [] [] cpos) (zwg yI X.H₀ td)):=⟨YA ho.of hbase hline⟩
end
end L2
namespace L2
namespace Srt
open PySem PyProof.Rows
noncomputable def V6:Bool→Keyed→Array Keyed→Nat→Nat→Nat→StateT SortSt Sem (Option Nat):=sortPriv% PySem.Builtin.gallop
noncomputable def Wp:Array Keyed→Array Keyed→StateT SortSt Sem (Array Keyed):=sortPriv% PySem.Builtin.mergeLo
noncomputable def Wq:Array Keyed→Array Keyed→StateT SortSt Sem (Array Keyed):=sortPriv% PySem.Builtin.mergeHi
noncomputable def Vk:Nat→StateT SortSt Sem Unit:=sortPriv% PySem.Builtin.setMinGallop
noncomputable def Xh (left:Bool) (key:Keyed) (arr:Array Keyed) (base i:Nat):StateT SortSt Sem (Option Bool) :=
 elem' arr (base+i) >>= fun x=>if left=true then lt' x key else lt' key x >>= fun o=>pure (o.map fun b=>!b)
section
variable {prog:Program}{w:World}{A:Around}{E:Value→Shared→Prop}{s:Shared}{it:List Keyed}{κ:SortKind}
def Cmp (prog:Program) (w:World) (A:Around) (s:Shared) (it:List Keyed) (κ:SortKind):Prop :=
 ∀ x∈it,∀ y∈it,∀ (Q:Bool→Shared→Prop) (E:Value→Shared→Prop),(∀ b,Q b s)→wpAny (model prog w) A (keyLt' κ x.1 y.1) Q E s
theorem zaj (C:Cmp prog w A s it κ){st:SortSt}(hk:kindOf st=κ){x y:Keyed}(hx:x∈it) (hy:y∈it){Q:Option Bool→SortSt→Prop}(h:∀ b,Q (some b) st):wpS (model prog w) A E s (lt' x y) Q st:=by
 rw[lt'_eq]
 refine wpS_bind (wpS_get ?_)
 rw[hk]
 refine wpS_bind (wpS_lift (wpAny_attempt (C x hx y hy _ _ fun b=>⟨rfl,?_⟩)))
 exact wpS_pure (h b)
theorem t_elem {st:SortSt}{arr:Array Keyed}{i:Nat}(hi:i<arr.size){Q:Keyed→SortSt→Prop}(h:Q arr[i] st):wpS (model prog w) A E s (elem' arr i) Q st:=by
 rw[elem'_eq,getElem?_pos arr i hi]
 exact wpS_pure h
theorem yR (C:Cmp prog w A s it κ){st:SortSt}(hk:kindOf st=κ){left:Bool}{key:Keyed}{arr:Array Keyed}{base i:Nat}(hkey:key∈it) (harr:∀ x∈arr,x∈it) (hi:base+i<arr.size)
  {Q:Option Bool→SortSt→Prop}(h:∀ b,Q (some b) st):wpS (model prog w) A E s (Xh left key arr base i) Q st:=by
 unfold Xh
 refine wpS_bind (t_elem hi ?_)
 have hx:arr[base+i]∈it:=harr _ (Array.getElem_mem hi)
 cases left with
 |true=>exact zaj C hk hx hkey h
 |false =>
  refine wpS_bind (zaj C hk hkey hx fun b=>?_)
  exact wpS_pure (h (!b))
theorem yA (C:Cmp prog w A s it κ){st:SortSt}(hk:kindOf st=κ){left:Bool}{key:Keyed}{arr:Array Keyed}{base n hint:Nat}(hkey:key∈it) (harr:∀ x∈arr,x∈it) (hb:base+n≤arr.size) (hh:hint<n)
  {Q:Option Nat→SortSt→Prop}(h:∀ k,k≤n→Q (some k) st):wpS (model prog w) A E s (V6 left key arr base n hint) Q st:=by
 refine wpS_bind (yR C hk hkey harr (by omega) fun rt=>?_)
 cases rt with
 |true =>
  simp only[if_true]
  refine wpS_bind (wpS_mono (wpS_forRange (I:=fun _ c st'=>st'=st∧∃ a b,c=(none,a,b)) (Q:=fun c st'=>st'=st∧∃ a b,c=(none,a,b)) ?_ ?_ ⟨rfl,_,_,rfl⟩) ?_)
  ·rintro i c st' _ hi ⟨rfl,a,b,rfl⟩
   dsimp only
   by_cases q:b≥n-hint
   ·rw[if_pos q]
    exact wpS_pure ⟨rfl,_,_,rfl⟩
   ·rw[if_neg q]
    refine wpS_bind (yR C hk hkey harr (by omega) fun mo=>?_)
    cases mo with
    |true=>exact wpS_pure ⟨rfl,_,_,rfl⟩
    |false=>exact wpS_pure ⟨rfl,_,_,rfl⟩
  ·exact fun c st' h=>h
  ·rintro c st' ⟨rfl,a,b,rfl⟩
   dsimp only
   refine wpS_bind (wpS_mono (wpS_forRange (I:=fun _ c st''=>st''=st'∧∃ a b,c=(none,a,b)∧b≤n) (Q:=fun c st''=>st''=st'∧∃ a b,c=(none,a,b)∧b≤n) ?_ ?_ ⟨rfl,_,_,rfl,by omega⟩) ?_)
   ·rintro i c st'' _ _ ⟨rfl,a,b,rfl,ha⟩
    dsimp only
    by_cases q:a≥b
    ·rw[if_pos q]
     exact wpS_pure ⟨rfl,a,b,rfl,ha⟩
    ·rw[if_neg q]
     refine wpS_bind (yR C hk hkey harr (by omega) fun mo=>?_)
     cases mo with
     |true=>exact wpS_pure ⟨rfl,_,_,rfl,ha⟩
     |false=>exact wpS_pure ⟨rfl,_,_,rfl,by omega⟩
   ·exact fun c st'' h=>h
   ·rintro c st'' ⟨rfl,a,b,rfl,ha⟩
    exact wpS_pure (h b ha)
 |false =>
  simp only[Bool.false_eq_true,if_false]
  refine wpS_bind (wpS_mono (wpS_forRange (I:=fun _ c st'=>st'=st∧∃ a b,c=(none,a,b)) (Q:=fun c st'=>st'=st∧∃ a b,c=(none,a,b)) ?_ ?_ ⟨rfl,_,_,rfl⟩) ?_)
  ·rintro i c st' _ hi ⟨rfl,a,b,rfl⟩
   dsimp only
   by_cases q:b≥hint+1
   ·rw[if_pos q]
    exact wpS_pure ⟨rfl,_,_,rfl⟩
   ·rw[if_neg q]
    refine wpS_bind (yR C hk hkey harr (by omega) fun mo=>?_)
    cases mo with
    |true=>exact wpS_pure ⟨rfl,_,_,rfl⟩
    |false=>exact wpS_pure ⟨rfl,_,_,rfl⟩
  ·exact fun c st' h=>h
  ·rintro c st' ⟨rfl,a,b,rfl⟩
   dsimp only
   refine wpS_bind (wpS_mono (wpS_forRange (I:=fun _ c st''=>st''=st'∧∃ a b,c=(none,a,b)∧b≤n) (Q:=fun c st''=>st''=st'∧∃ a b,c=(none,a,b)∧b≤n) ?_ ?_ ⟨rfl,_,_,rfl,by omega⟩) ?_)
   ·rintro i c st'' _ _ ⟨rfl,a,b,rfl,ha⟩
    dsimp only
    by_cases q:a≥b
    ·rw[if_pos q]
     exact wpS_pure ⟨rfl,a,b,rfl,ha⟩
    ·rw[if_neg q]
     refine wpS_bind (yR C hk hkey harr (by omega) fun mo=>?_)
     cases mo with
     |true=>exact wpS_pure ⟨rfl,_,_,rfl,ha⟩
     |false=>exact wpS_pure ⟨rfl,_,_,rfl,by omega⟩
   ·exact fun c st'' h=>h
   ·rintro c st'' ⟨rfl,a,b,rfl,ha⟩
    exact wpS_pure (h b ha)
structure Eqv (st st':SortSt):Prop where
 k:kindOf st'=kindOf st
 a:arrOf st'=arrOf st
 p:pendingOf st'=pendingOf st
 f:failedOf st'=failedOf st
theorem Eqv.refl (st:SortSt):Eqv st st:=⟨rfl,rfl,rfl,rfl⟩
theorem t_setMin {st st':SortSt}(e:Eqv st st'){g:Nat}{Q:Unit→SortSt→Prop}(h:∀ st'',Eqv st st''→Q () st''):wpS (model prog w) A E s (Vk g) Q st':=wpS_modify (h _ ⟨e.k,e.a,e.p,e.f⟩)
def In (it:List Keyed) (o:Array Keyed):Prop:=∀ x∈o,x∈it
theorem In.push {o:Array Keyed}{x:Keyed}(h:In it o) (hx:x∈it):In it (o.push x):=fun y hy=>by
 rcases Array.mem_push.mp hy with q | q
 ·exact h y q
 ·rw[q];exact hx
theorem In.app {o p:Array Keyed}(h:In it o) (k:In it p):In it (o++p):=fun y hy=>by
 rcases Array.mem_append.mp hy with q | q
 ·exact h y q
 ·exact k y q
theorem In.ext {o:Array Keyed}{i j:Nat}(h:In it o):In it (o.extract i j):=fun y hy=>by
 have hy:y∈(o.extract i j).toList:=Array.mem_def.mp hy
 rw[Array.toList_extract,List.extract_eq_drop_take] at hy
 exact h y (Array.mem_def.mpr (List.mem_of_mem_drop (List.mem_of_mem_take hy)))
theorem In.rev {o:Array Keyed}(h:In it o):In it o.reverse:=fun y hy=>h y (Array.mem_reverse.mp hy)
theorem In.at {o:Array Keyed}{i:Nat}(h:In it o) (hi:i<o.size):o[i]∈it:=h _ (Array.getElem_mem hi)
theorem In.one {x:Keyed}(h:x∈it):In it #[x]:=fun y hy=>by
 simp at hy
 rw[hy];exact h
theorem jn1 {α:Type}{P G:α→Prop}(J:∀ m,P m) (k:(∀ m,P m)→∀ m,G m):∀ m,G m:=k J
theorem jn2 {α β:Type}{H K G:α→β→Prop}(h:∃ P:α→β→Prop,(∀ m n,H m n→P m n)∧((∀ m n,H m n→P m n)→∀ m n,K m n→G m n)):∀ m n,K m n→G m n:=by
 obtain⟨P,J,k⟩:=h
 exact k J
def LoP (it:List Keyed) (a b:Array Keyed) (m:Nat) (r:Option (Array Keyed)) (o:Array Keyed) (x y:Nat):Prop :=
 match r with
 |some o=>In it o
 |none=>In it o∧x+1<a.size∧y<b.size∧m≤x+y
theorem Zx (C:Cmp prog w A s it κ){st:SortSt}(hk:kindOf st=κ){a b:Array Keyed}(ha:In it a) (hb:In it b) (za:1≤a.size) (zb:1≤b.size)
  {Q:Array Keyed→SortSt→Prop}(h:∀ o st',In it o→Eqv st st'→Q o st'):wpS (model prog w) A E s (Wp a b) Q st:=by
 refine wpS_bind (wpS_lift (wpAny_rule ⟨rfl,?_⟩))
 refine wpS_bind (t_elem (by omega) ?_)
 have b0:=In.one (hb.at (i:=0) (by omega))
 dsimp only
 by_cases q1:(1 == b.size)=true
 ·rw[if_pos q1]
  exact wpS_pure (h _ _ ((b0.app ha.ext).app hb.ext) (Eqv.refl st))
 rw[if_neg q1]
 by_cases q2:(0+1 == a.size)=true
 ·rw[if_pos q2]
  exact wpS_pure (h _ _ ((b0.app hb.ext).app ha.ext) (Eqv.refl st))
 rw[if_neg q2]
 have q1:1≠b.size:=fun z=>q1 (by simp[z])
 have q2:1≠a.size:=fun z=>q2 (by simp[z])
 refine wpS_bind (wpS_get ?_)
 refine wpS_bind (wpS_mono (wpS_forRange (I:=fun i c st'=>Eqv st st'∧∃ o x y mg,c=(none,o,x,y,mg)∧In it o∧x+1<a.size∧y<b.size∧i≤x+y) (Q:=fun c st'=>Eqv st st'∧∃ r o x y mg,c=(some r,o,x,y,mg)∧In it r) ?_ ?_ ⟨Eqv.refl st,_,_,_,_,rfl,b0,by omega,by omega,by omega⟩) ?_)
 ·rintro i c st1 _ hi ⟨ev,o,x,y,mg,rfl,ho,hx,hy,hm⟩
  dsimp only
  refine wpS_bind (wpS_mono (wpS_forRange (I:=fun j c st'=>Eqv st st'∧∃ o x y ca cb,c=(none,o,x,y,ca,cb)∧In it o∧x+1<a.size∧y<b.size∧i+j≤x+y) (Q:=fun c st'=>Eqv st st'∧∃ r o x y ca cb,c=(r,o,x,y,ca,cb)∧LoP it a b (i+1) r o x y) ?_ ?_ ⟨ev,_,_,_,_,_,rfl,ho,hx,hy,hm⟩) ?_)
  ·rintro j c st2 _ hj ⟨ev,o,x,y,ca,cb,rfl,ho,hx,hy,hm⟩
   dsimp only
   have hx0:=ha.at (i:=x) (by omega)
   have hy0:=hb.at hy
   refine wpS_bind (t_elem hy (wpS_bind (t_elem (by omega) (wpS_bind (zaj C (ev.k.trans hk) hy0 hx0 fun bw=>?_)))))
   cases bw with
   |true =>
    simp only[if_true]
    refine wpS_bind (t_elem hy ?_)
    have ho':=ho.push hy0
    by_cases q3:(y+1 == b.size)=true
    ·rw[if_pos q3]
     exact wpS_pure ⟨ev,_,_,_,_,_,_,rfl,(ho'.app ha.ext).app hb.ext⟩
    ·rw[if_neg q3]
     have q3:y+1≠b.size:=fun z=>q3 (by simp[z])
     by_cases q4:cb+1≥mg
     ·rw[if_pos q4]
      exact wpS_pure ⟨ev,_,_,_,_,_,_,rfl,ho',hx,by omega,by omega⟩
     ·rw[if_neg q4]
      exact wpS_pure ⟨ev,_,_,_,_,_,rfl,ho',hx,by omega,by omega⟩
   |false =>
    simp only[Bool.false_eq_true,if_false]
    refine wpS_bind (t_elem (by omega) ?_)
    have ho':=ho.push hx0
    by_cases q3:(x+1+1 == a.size)=true
    ·rw[if_pos q3]
     exact wpS_pure ⟨ev,_,_,_,_,_,_,rfl,(ho'.app hb.ext).app ha.ext⟩
    ·rw[if_neg q3]
     have q3:x+1+1≠a.size:=fun z=>q3 (by simp[z])
     by_cases q4:ca+1≥mg
     ·rw[if_pos q4]
      exact wpS_pure ⟨ev,_,_,_,_,_,_,rfl,ho',by omega,hy,by omega⟩
     ·rw[if_neg q4]
      exact wpS_pure ⟨ev,_,_,_,_,_,rfl,ho',by omega,hy,by omega⟩
  ·rintro c st2 ⟨ev,o,x,y,ca,cb,rfl,ho,hx,hy,hm⟩
   exact⟨ev,_,_,_,_,_,_,rfl,ho,hx,hy,by omega⟩
  ·rintro c st2 ⟨ev,r,o,x,y,ca,cb,rfl,hp⟩
   dsimp only
   cases r with
   |some r=>exact wpS_pure ⟨ev,_,_,_,_,_,rfl,hp⟩
   |none =>
    obtain⟨ho,hx,hy,hm⟩:=hp
    refine wpS_bind (wpS_lift (wpAny_rule ⟨rfl,?_⟩))
    refine wpS_bind (wpS_mono (wpS_forRange (I:=fun _ c st'=>Eqv st st'∧∃ o x y mg ca cb,c=(none,o,x,y,mg,ca,cb)∧In it o∧x+1<a.size∧y<b.size∧i+1≤x+y) (Q:=fun c st'=>Eqv st st'∧∃ r o x y mg ca cb,c=(r,o,x,y,mg,ca,cb)∧LoP it a b (i+1) r o x y) ?_ ?_ ⟨ev,_,_,_,_,_,_,rfl,ho,hx,hy,hm⟩) ?_)
    ·rintro j c st3 _ hj ⟨ev,o,x,y,mg,ca,cb,rfl,ho,hx,hy,hm⟩
     dsimp only
     revert mg
     apply jn1
     case k =>
      intro J mg
      by_cases qm:¬ mg>1
      ·rw[if_neg qm]
       exact J mg
      ·rw[if_pos (Decidable.not_not.mp qm)]
       exact J (mg-1)
     case J =>
      intro mg
      refine wpS_bind (t_setMin ev fun st4 ev4=>?_)
      refine wpS_bind (t_elem hy ?_)
      refine wpS_bind (yA C (ev4.k.trans hk) (hb.at hy) ha (by omega) (by omega) fun k hk1=>?_)
      dsimp only
      have HH:=And.intro ho (And.intro hx (And.intro hm hk1))
      clear ho hx hm hk1
      revert HH
      revert o x
      refine jn2 (H:=fun o x=>In it o∧x+1<a.size∧i+1≤x+y) ?_
      apply Exists.intro
      apply And.intro
      case right =>
       intro J o x ⟨ho,hx,hm,hk1⟩
       by_cases qk:¬ k>0
       ·rw[if_neg qk]
        exact J o x ⟨ho,hx,hm⟩
       rw[if_pos (Decidable.not_not.mp qk)]
       have ho1:=ho.app (ha.ext (i:=x) (j:=x+k))
       by_cases qa:(x+k+1 == a.size)=true
       ·rw[if_pos qa]
        exact wpS_pure ⟨ev4,_,_,_,_,_,_,_,rfl,(ho1.app hb.ext).app ha.ext⟩
       rw[if_neg qa]
       have qa:x+k+1≠a.size:=fun z=>qa (by simp[z])
       by_cases qb:(x+k == a.size)=true
       ·rw[if_pos qb]
        exact wpS_pure ⟨ev4,_,_,_,_,_,_,_,rfl,(ho1.app ha.ext).app hb.ext⟩
       rw[if_neg qb]
       have qb:x+k≠a.size:=fun z=>qb (by simp[z])
       exact J _ _ ⟨ho1,by omega,by omega⟩
      case left =>
       intro o x ⟨ho,hx,hm⟩
       refine wpS_bind (t_elem hy ?_)
       have ho2:=ho.push (hb.at hy)
       by_cases qc:(y+1 == b.size)=true
       ·rw[if_pos qc]
        exact wpS_pure ⟨ev4,_,_,_,_,_,_,_,rfl,(ho2.app ha.ext).app hb.ext⟩
       rw[if_neg qc]
       have qc:y+1≠b.size:=fun z=>qc (by simp[z])
       refine wpS_bind (t_elem (by omega) ?_)
       refine wpS_bind (yA C (ev4.k.trans hk) (ha.at (i:=x) (by omega)) hb (by omega) (by omega) fun k2 hk2=>?_)
       dsimp only
       have hy1:y+1<b.size:=by omega
       have hm1:i+1≤x+(y+1):=by omega
       generalize o.push b[y]=o2 at ho2 ⊢
       generalize y+1=y1 at hy1 hm1 hk2 ⊢
       have HH:=And.intro ho2 (And.intro hy1 (And.intro hm1 hk2))
       clear ho2 hy1 hm1 hk2
       revert HH
       revert o2 y1
       refine jn2 (H:=fun o y=>In it o∧y<b.size∧i+1≤x+y) ?_
       apply Exists.intro
       apply And.intro
       case right =>
        intro J o2 y1 ⟨ho2,hy1,hm1,hk2⟩
        by_cases qk2:¬ k2>0
        ·rw[if_neg qk2]
         exact J o2 y1 ⟨ho2,hy1,hm1⟩
        rw[if_pos (Decidable.not_not.mp qk2)]
        have ho3:=ho2.app (hb.ext (i:=y1) (j:=y1+k2))
        by_cases qd:(y1+k2 == b.size)=true
        ·rw[if_pos qd]
         exact wpS_pure ⟨ev4,_,_,_,_,_,_,_,rfl,(ho3.app ha.ext).app hb.ext⟩
        rw[if_neg qd]
        have qd:y1+k2≠b.size:=fun z=>qd (by simp[z])
        exact J _ _ ⟨ho3,by omega,by omega⟩
       case left =>
        intro o y ⟨ho,hy,hm⟩
        refine wpS_bind (t_elem (by omega) ?_)
        have ho4:=ho.push (ha.at (i:=x) (by omega))
        by_cases qe:(x+1+1 == a.size)=true
        ·rw[if_pos qe]
         exact wpS_pure ⟨ev4,_,_,_,_,_,_,_,rfl,(ho4.app hb.ext).app ha.ext⟩
        rw[if_neg qe]
        have qe:x+1+1≠a.size:=fun z=>qe (by simp[z])
        have H:In it (o.push a[x])∧x+1+1<a.size∧y<b.size∧i+1≤x+1+y:=⟨ho4,by omega,hy,by omega⟩
        split
        ·exact wpS_pure ⟨ev4,_,_,_,_,_,_,_,rfl,H⟩
        ·exact wpS_pure ⟨ev4,_,_,_,_,_,_,rfl,H⟩
    ·rintro c st3 ⟨ev,o,x,y,mg,ca,cb,rfl,ho,hx,hy,hm⟩
     exact⟨ev,_,_,_,_,_,_,_,rfl,ho,hx,hy,hm⟩
    ·rintro c st3 ⟨ev,r,o,x,y,mg,ca,cb,rfl,hp⟩
     dsimp only
     cases r with
     |some r=>exact wpS_pure ⟨ev,_,_,_,_,_,rfl,hp⟩
     |none =>
      obtain⟨ho,hx,hy,hm⟩:=hp
      refine wpS_bind (t_setMin ev fun st4 ev4=>?_)
      exact wpS_pure ⟨ev4,_,_,_,_,rfl,ho,hx,hy,hm⟩
 ·rintro c st1 ⟨ev,o,x,y,mg,rfl,ho,hx,hy,hm⟩
  omega
 ·rintro c st1 ⟨ev,r,o,x,y,mg,rfl,hr⟩
  exact wpS_pure (h r st1 hr ev)
def HiP (it:List Keyed) (a b:Array Keyed) (m:Nat) (r:Option (Array Keyed)) (o:Array Keyed) (x y:Nat):Prop :=
 match r with
 |some o=>In it o
 |none=>In it o∧1≤x∧x<a.size∧2≤y∧y≤b.size∧m+x+y≤a.size+b.size
theorem Zy (C:Cmp prog w A s it κ){st:SortSt}(hk:kindOf st=κ){a b:Array Keyed}(ha:In it a) (hb:In it b) (za:1≤a.size) (zb:1≤b.size)
  {Q:Array Keyed→SortSt→Prop}(h:∀ o st',In it o→Eqv st st'→Q o st'):wpS (model prog w) A E s (Wq a b) Q st:=by
 refine wpS_bind (wpS_lift (wpAny_rule ⟨rfl,?_⟩))
 refine wpS_bind (t_elem (by omega) ?_)
 have b0:=In.one (ha.at (i:=a.size-1) (by omega))
 dsimp only
 by_cases q1:(a.size-1 == 0)=true
 ·rw[if_pos q1]
  exact wpS_pure (h _ _ ((ha.ext.app hb.ext).app b0.rev) (Eqv.refl st))
 rw[if_neg q1]
 by_cases q2:(b.size == 1)=true
 ·rw[if_pos q2]
  exact wpS_pure (h _ _ ((hb.ext.app ha.ext).app b0.rev) (Eqv.refl st))
 rw[if_neg q2]
 have q1:a.size-1≠0:=fun z=>q1 (by simp[z])
 have q2:b.size≠1:=fun z=>q2 (by simp[z])
 refine wpS_bind (wpS_get ?_)
 refine wpS_bind (wpS_mono (wpS_forRange (I:=fun i c st'=>Eqv st st'∧∃ x y o mg,c=(none,x,y,o,mg)∧In it o∧1≤x∧x<a.size∧2≤y∧y≤b.size∧i+x+y≤a.size+b.size) (Q:=fun c st'=>Eqv st st'∧∃ r x y o mg,c=(some r,x,y,o,mg)∧In it r) ?_ ?_ ⟨Eqv.refl st,_,_,_,_,rfl,b0,by omega,by omega,by omega,by omega,by omega⟩) ?_)
 ·rintro i c st1 _ hi ⟨ev,x,y,o,mg,rfl,ho,hx,hx2,hy,hy2,hm⟩
  dsimp only
  refine wpS_bind (wpS_mono (wpS_forRange (I:=fun j c st'=>Eqv st st'∧∃ x y o ca cb,c=(none,x,y,o,ca,cb)∧In it o∧1≤x∧x<a.size∧2≤y∧y≤b.size∧i+j+x+y≤a.size+b.size) (Q:=fun c st'=>Eqv st st'∧∃ r x y o ca cb,c=(r,x,y,o,ca,cb)∧HiP it a b (i+1) r o x y) ?_ ?_ ⟨ev,_,_,_,_,_,rfl,ho,hx,hx2,hy,hy2,hm⟩) ?_)
  ·rintro j c st2 _ hj ⟨ev,x,y,o,ca,cb,rfl,ho,hx,hx2,hy,hy2,hm⟩
   dsimp only
   have hx0:=ha.at (i:=x-1) (by omega)
   have hy0:=hb.at (i:=y-1) (by omega)
   refine wpS_bind (t_elem (by omega) (wpS_bind (t_elem (by omega) (wpS_bind (zaj C (ev.k.trans hk) hy0 hx0 fun bw=>?_)))))
   cases bw with
   |true =>
    simp only[if_true]
    refine wpS_bind (t_elem (by omega) ?_)
    have ho':=ho.push hx0
    by_cases q3:(x-1 == 0)=true
    ·rw[if_pos q3]
     exact wpS_pure ⟨ev,_,_,_,_,_,_,rfl,(ha.ext.app hb.ext).app ho'.rev⟩
    ·rw[if_neg q3]
     have q3:x-1≠0:=fun z=>q3 (by simp[z])
     by_cases q4:ca+1≥mg
     ·rw[if_pos q4]
      exact wpS_pure ⟨ev,_,_,_,_,_,_,rfl,ho',by omega,by omega,by omega,by omega,by omega⟩
     ·rw[if_neg q4]
      exact wpS_pure ⟨ev,_,_,_,_,_,rfl,ho',by omega,by omega,by omega,by omega,by omega⟩
   |false =>
    simp only[Bool.false_eq_true,if_false]
    refine wpS_bind (t_elem (by omega) ?_)
    have ho':=ho.push hy0
    by_cases q3:(y-1 == 1)=true
    ·rw[if_pos q3]
     exact wpS_pure ⟨ev,_,_,_,_,_,_,rfl,(hb.ext.app ha.ext).app ho'.rev⟩
    ·rw[if_neg q3]
     have q3:y-1≠1:=fun z=>q3 (by simp[z])
     by_cases q4:cb+1≥mg
     ·rw[if_pos q4]
      exact wpS_pure ⟨ev,_,_,_,_,_,_,rfl,ho',by omega,by omega,by omega,by omega,by omega⟩
     ·rw[if_neg q4]
      exact wpS_pure ⟨ev,_,_,_,_,_,rfl,ho',by omega,by omega,by omega,by omega,by omega⟩
  ·rintro c st2 ⟨ev,x,y,o,ca,cb,rfl,ho,hx,hx2,hy,hy2,hm⟩
   exact⟨ev,_,_,_,_,_,_,rfl,ho,hx,hx2,hy,hy2,by omega⟩
  ·rintro c st2 ⟨ev,r,x,y,o,ca,cb,rfl,hp⟩
   dsimp only
   cases r with
   |some r=>exact wpS_pure ⟨ev,_,_,_,_,_,rfl,hp⟩
   |none =>
    obtain⟨ho,hx,hx2,hy,hy2,hm⟩:=hp
    refine wpS_bind (wpS_lift (wpAny_rule ⟨rfl,?_⟩))
    refine wpS_bind (wpS_mono (wpS_forRange (I:=fun _ c st'=>Eqv st st'∧∃ x y o mg ca cb,c=(none,x,y,o,mg,ca,cb)∧In it o∧1≤x∧x<a.size∧2≤y∧y≤b.size∧i+1+x+y≤a.size+b.size) (Q:=fun c st'=>Eqv st st'∧∃ r x y o mg ca cb,c=(r,x,y,o,mg,ca,cb)∧HiP it a b (i+1) r o x y) ?_ ?_ ⟨ev,_,_,_,_,_,_,rfl,ho,hx,hx2,hy,hy2,hm⟩) ?_)
    ·rintro j c st3 _ hj ⟨ev,x,y,o,mg,ca,cb,rfl,ho,hx,hx2,hy,hy2,hm⟩
     dsimp only
     revert mg
     apply jn1
     case k =>
      intro J mg
      by_cases qm:¬ mg>1
      ·rw[if_neg qm]
       exact J mg
      ·rw[if_pos (Decidable.not_not.mp qm)]
       exact J (mg-1)
     case J =>
      intro mg
      refine wpS_bind (t_setMin ev fun st4 ev4=>?_)
      refine wpS_bind (t_elem (by omega) ?_)
      refine wpS_bind (yA C (ev4.k.trans hk) (hb.at (i:=y-1) (by omega)) ha (by omega) (by omega) fun k hk1=>?_)
      dsimp only
      generalize hn1:x-k=n1
      have HH:=And.intro ho (And.intro hx (And.intro hx2 (And.intro hm (And.intro hk1 hn1))))
      clear ho hx hx2 hm hk1 hn1
      revert HH
      revert o x
      refine jn2 (H:=fun x o=>In it o∧1≤x∧x<a.size∧i+1+x+y≤a.size+b.size) ?_
      apply Exists.intro
      apply And.intro
      case right =>
       intro J x o ⟨ho,hx,hx2,hm,hk1,hn1⟩
       by_cases qk:¬ n1>0
       ·rw[if_neg qk]
        exact J x o ⟨ho,hx,hx2,hm⟩
       rw[if_pos (Decidable.not_not.mp qk)]
       have ho1:=ho.app (ha.ext (i:=k) (j:=x)).rev
       by_cases qa:(k == 0)=true
       ·rw[if_pos qa]
        exact wpS_pure ⟨ev4,_,_,_,_,_,_,_,rfl,(ha.ext.app hb.ext).app ho1.rev⟩
       rw[if_neg qa]
       have qa:k≠0:=fun z=>qa (by simp[z])
       exact J k _ ⟨ho1,by omega,by omega,by omega⟩
      case left =>
       intro x o ⟨ho,hx,hx2,hm⟩
       refine wpS_bind (t_elem (by omega) ?_)
       have ho2:=ho.push (hb.at (i:=y-1) (by omega))
       by_cases qc:(y-1 == 1)=true
       ·rw[if_pos qc]
        exact wpS_pure ⟨ev4,_,_,_,_,_,_,_,rfl,(hb.ext.app ha.ext).app ho2.rev⟩
       rw[if_neg qc]
       have qc:y-1≠1:=fun z=>qc (by simp[z])
       refine wpS_bind (t_elem (by omega) ?_)
       refine wpS_bind (yA C (ev4.k.trans hk) (ha.at (i:=x-1) (by omega)) hb (by omega) (by omega) fun k2 hk2=>?_)
       dsimp only
       have hy1:2≤y-1∧y-1≤b.size∧i+1+x+(y-1)≤a.size+b.size:=⟨by omega,by omega,by omega⟩
       generalize o.push (b[y-1]'(by omega))=o2 at ho2 ⊢
       generalize y-1=y1 at hy1 hk2 ⊢
       generalize hn2:y1-k2=n2
       have HH:=And.intro ho2 (And.intro hy1 (And.intro hk2 hn2))
       clear ho2 hy1 hk2 hn2
       revert HH
       revert o2 y1
       refine jn2 (H:=fun o y=>In it o∧2≤y∧y≤b.size∧i+1+x+y≤a.size+b.size) ?_
       apply Exists.intro
       apply And.intro
       case right =>
        intro J o2 y1 ⟨ho2,hy1,hk2,hn2⟩
        by_cases qk2:¬ n2>0
        ·rw[if_neg qk2]
         exact J o2 y1 ⟨ho2,hy1⟩
        rw[if_pos (Decidable.not_not.mp qk2)]
        have ho3:=ho2.app (hb.ext (i:=k2) (j:=y1)).rev
        by_cases qd:(k2 == 1)=true
        ·rw[if_pos qd]
         exact wpS_pure ⟨ev4,_,_,_,_,_,_,_,rfl,(hb.ext.app ha.ext).app ho3.rev⟩
        rw[if_neg qd]
        have qd:k2≠1:=fun z=>qd (by simp[z])
        by_cases qd2:(k2 == 0)=true
        ·rw[if_pos qd2]
         exact wpS_pure ⟨ev4,_,_,_,_,_,_,_,rfl,(ha.ext.app hb.ext).app ho3.rev⟩
        rw[if_neg qd2]
        have qd2:k2≠0:=fun z=>qd2 (by simp[z])
        exact J _ k2 ⟨ho3,by omega,by omega,by omega⟩
       case left =>
        intro o y ⟨ho,hy,hy2,hm⟩
        refine wpS_bind (t_elem (by omega) ?_)
        have ho4:=ho.push (ha.at (i:=x-1) (by omega))
        by_cases qe:(x-1 == 0)=true
        ·rw[if_pos qe]
         exact wpS_pure ⟨ev4,_,_,_,_,_,_,_,rfl,(ha.ext.app hb.ext).app ho4.rev⟩
        rw[if_neg qe]
        have qe:x-1≠0:=fun z=>qe (by simp[z])
        have H:In it (o.push (a[x-1]'(by omega)))∧1≤x-1∧x-1<a.size∧2≤y∧y≤b.size∧i+1+(x-1)+y≤a.size+b.size:=⟨ho4,by omega,by omega,hy,hy2,by omega⟩
        split
        ·exact wpS_pure ⟨ev4,_,_,_,_,_,_,_,rfl,H⟩
        ·exact wpS_pure ⟨ev4,_,_,_,_,_,_,rfl,H⟩
    ·rintro c st3 ⟨ev,x,y,o,mg,ca,cb,rfl,ho,hx,hx2,hy,hy2,hm⟩
     exact⟨ev,_,_,_,_,_,_,_,rfl,ho,hx,hx2,hy,hy2,hm⟩
    ·rintro c st3 ⟨ev,r,x,y,o,mg,ca,cb,rfl,hp⟩
     dsimp only
     cases r with
     |some r=>exact wpS_pure ⟨ev,_,_,_,_,_,rfl,hp⟩
     |none =>
      obtain⟨ho,hx,hx2,hy,hy2,hm⟩:=hp
      refine wpS_bind (t_setMin ev fun st4 ev4=>?_)
      exact wpS_pure ⟨ev4,_,_,_,_,rfl,ho,hx,hx2,hy,hy2,hm⟩
 ·rintro c st1 ⟨ev,x,y,o,mg,rfl,ho,hx,hx2,hy,hy2,hm⟩
  omega
 ·rintro c st1 ⟨ev,r,x,y,o,mg,rfl,hr⟩
  exact wpS_pure (h r st1 hr ev)
end
section
variable {prog:Program}{w:World}{A:Around}{E:Value→Shared→Prop}{s:Shared}{it:List Keyed}{κ:SortKind}{n:Nat}
structure TB (it:List Keyed) (κ:SortKind) (n:Nat) (st:SortSt):Prop where
 z:(arrOf st).size=n
 i:In it (arrOf st)
 k:kindOf st=κ
 f:failedOf st=none
theorem TB.perm {st:SortSt}(t:TB it κ n st){xs:Array Keyed}(p:xs.Perm (arrOf st)):TB it κ n (setArr st xs) :=
 ⟨p.size_eq.trans t.z,fun x hx=>t.i x (Array.mem_def.mpr ((Array.perm_iff_toList_perm.mp p).mem_iff.mp (Array.mem_def.mp hx))),t.k,t.f⟩
theorem t_ltAt (C:Cmp prog w A s it κ){st:SortSt}(t:TB it κ n st){i j:Nat}(hi:i<n) (hj:j<n){Q:Option Bool→SortSt→Prop}(h:∀ b,Q (some b) st):wpS (model prog w) A E s (ltAt' i j) Q st:=by
 rw[ltAt'_eq]
 refine wpS_bind (wpS_get ?_)
 have hi:i<(arrOf st).size:=by rw[t.z];exact hi
 have hj:j<(arrOf st).size:=by rw[t.z];exact hj
 exact wpS_bind (t_elem hi (wpS_bind (t_elem hj (zaj C t.k (t.i.at hi) (t.i.at hj) h))))
def Ord (it:List Keyed) (κ:SortKind) (n:Nat) (p:Array (Nat×Nat×Nat)) (st:SortSt):Prop:=TB it κ n st∧pendingOf st=p
theorem wu {p:Array (Nat×Nat×Nat)}{st:SortSt}(o:Ord it κ n p st){i j:Nat}{Q:Unit→SortSt→Prop}(h:∀ st',Ord it κ n p st'→Q () st'):wpS (model prog w) A E s (reverseSlice' i j) Q st:=by
 rw[reverseSlice'_eq]
 exact wpS_modify (h _ ⟨o.1.perm (mirror_perm _ _ _ _),o.2⟩)
theorem t_move {p:Array (Nat×Nat×Nat)}{st:SortSt}(o:Ord it κ n p st){i j:Nat}{Q:Unit→SortSt→Prop}(h:∀ st',Ord it κ n p st'→Q () st'):wpS (model prog w) A E s (moveDown' i j) Q st:=by
 rw[moveDown'_eq]
 exact wpS_modify (h _ ⟨o.1.perm (bubble_perm _ _ _),o.2⟩)
theorem zix (C:Cmp prog w A s it κ){p:Array (Nat×Nat×Nat)}{st:SortSt}(o:Ord it κ n p st){lo m ok:Nat}(hm:lo+m≤n){Q:Bool→SortSt→Prop}(h:∀ st',Ord it κ n p st'→Q true st'):wpS (model prog w) A E s (binarySort' lo m ok) Q st:=by
 rw[binarySort'_eq]
 refine wpS_bind (wpS_mono (wpS_forRange (I:=fun k c st'=>c=(none,())∧Ord it κ n p st') (Q:=fun c st'=>c=(none,())∧Ord it κ n p st') ?_ ?_ ⟨rfl,o⟩) ?_)
 ·rintro k c st1 hk1 hk ⟨rfl,o1⟩
  dsimp only
  refine wpS_bind (wpS_mono (wpS_forRange (I:=fun _ c st'=>st'=st1∧∃ l r,c=(none,l,r)∧r≤k) (Q:=fun c st'=>st'=st1∧∃ l r,c=(none,l,r)∧r≤k) ?_ ?_ ⟨rfl,_,_,rfl,Nat.le_refl _⟩) ?_)
  ·rintro j c st2 _ hj ⟨rfl,l,r,rfl,hr⟩
   dsimp only
   by_cases q:l≥r
   ·rw[if_pos q]
    exact wpS_pure ⟨rfl,_,_,rfl,hr⟩
   ·rw[if_neg q]
    refine wpS_bind (t_ltAt C o1.1 (by omega) (by omega) fun b=>?_)
    cases b with
    |true=>exact wpS_pure ⟨rfl,_,_,rfl,by omega⟩
    |false=>exact wpS_pure ⟨rfl,_,_,rfl,hr⟩
  ·exact fun c st' h=>h
  ·rintro c st2 ⟨rfl,l,r,rfl,hr⟩
   dsimp only
   exact wpS_bind (t_move o1 fun st3 o3=>wpS_pure ⟨rfl,o3⟩)
 ·exact fun c st' h=>h
 ·rintro c st1 ⟨rfl,o1⟩
  exact wpS_pure (h st1 o1)
theorem Ve (C:Cmp prog w A s it κ){p:Array (Nat×Nat×Nat)}{st:SortSt}(o:Ord it κ n p st){lo m:Nat}(h1:1≤m) (hm:lo+m≤n){Q:Option Nat→SortSt→Prop}(h:∀ k st',1≤k→k≤m→Ord it κ n p st'→Q (some k) st'):wpS (model prog w) A E s (countRun' lo m) Q st:=by
 rw[countRun'_eq]
 refine wpS_bind (wpS_mono (wpS_forRange (I:=fun i c st'=>Ord it κ n p st'∧c=(none,i)) (Q:=fun c st'=>Ord it κ n p st'∧∃ k,c=(none,k)∧1≤k∧k≤m) ?_ ?_ ⟨o,rfl⟩) ?_)
 ·rintro i c st1 hi1 hi ⟨o1,rfl⟩
  dsimp only
  refine wpS_bind (t_ltAt C o1.1 (by omega) (by omega) fun b=>?_)
  cases b with
  |true=>exact wpS_pure ⟨o1,_,rfl,hi1,by omega⟩
  |false=>exact wpS_pure ⟨o1,rfl⟩
 ·rintro c st1 ⟨o1,rfl⟩
  exact⟨o1,_,rfl,by omega,by omega⟩
 ·rintro c st1 ⟨o1,k,rfl,k1,k2⟩
  dsimp only
  by_cases q:(k == m)=true
  ·rw[if_pos q]
   exact wpS_pure (h k st1 k1 k2 o1)
  rw[if_neg q]
  have q:k≠m:=fun z=>q (by simp[z])
  by_cases qk:k>1
  ·rw[if_pos qk]
   refine wpS_bind (t_ltAt C o1.1 (by omega) (by omega) fun b=>?_)
   cases b with
   |true=>exact wpS_pure (h k st1 k1 k2 o1)
   |false =>
    simp only[Bool.false_eq_true,if_false]
    refine wpS_bind (wu o1 fun st2 o2=>?_)
    refine wpS_bind (wpS_lift (wpAny_rule ⟨rfl,?_⟩))
    refine wpS_bind (wpS_mono (wpS_forRange (I:=fun i c st'=>Ord it κ n p st'∧∃ g,c=(none,i,g)) (Q:=fun c st'=>Ord it κ n p st'∧∃ j g,c=(none,j,g)∧k+1≤j∧j≤m) ?_ ?_ ⟨o2,_,rfl⟩) ?_)
    ·rintro i c st3 hi1 hi ⟨o3,g,rfl⟩
     dsimp only
     refine wpS_bind (t_ltAt C o3.1 (by omega) (by omega) fun b=>?_)
     cases b with
     |true =>
      simp only[if_true]
      by_cases qg:g>0
      ·rw[if_pos qg]
       exact wpS_bind (wu o3 fun st4 o4=>wpS_pure ⟨o4,_,rfl⟩)
      ·rw[if_neg qg]
       exact wpS_pure ⟨o3,_,rfl⟩
     |false =>
      simp only[Bool.false_eq_true,if_false]
      refine wpS_bind (t_ltAt C o3.1 (by omega) (by omega) fun b=>?_)
      cases b with
      |true=>exact wpS_pure ⟨o3,_,_,rfl,by omega,by omega⟩
      |false=>exact wpS_pure ⟨o3,_,rfl⟩
    ·rintro c st3 ⟨o3,g,rfl⟩
     exact⟨o3,_,_,rfl,by omega,by omega⟩
    ·rintro c st3 ⟨o3,j,g,rfl,j1,j2⟩
     dsimp only
     by_cases qg:g>0
     ·rw[if_pos qg]
      refine wpS_bind (wu o3 fun st4 o4=>?_)
      refine wpS_bind (wu o4 fun st8 o8=>?_)
      refine wpS_bind (wpS_mono (wpS_forRange (I:=fun i c st'=>Ord it κ n p st'∧c=(none,i)) (Q:=fun c st'=>Ord it κ n p st'∧∃ k,c=(none,k)∧1≤k∧k≤m) ?_ ?_ ⟨o8,rfl⟩) ?_)
      ·rintro i c st9 hi1 hi ⟨o9,rfl⟩
       dsimp only
       refine wpS_bind (t_ltAt C o9.1 (by omega) (by omega) fun b=>?_)
       cases b with
       |true=>exact wpS_pure ⟨o9,_,rfl,by omega,by omega⟩
       |false=>exact wpS_pure ⟨o9,rfl⟩
      ·rintro c st9 ⟨o9,rfl⟩
       exact⟨o9,_,rfl,by omega,by omega⟩
      ·rintro c st9 ⟨o9,kk,rfl,e1,e2⟩
       exact wpS_pure (h kk st9 e1 e2 o9)
     ·rw[if_neg qg]
      refine wpS_bind (wu o3 fun st8 o8=>?_)
      refine wpS_bind (wpS_mono (wpS_forRange (I:=fun i c st'=>Ord it κ n p st'∧c=(none,i)) (Q:=fun c st'=>Ord it κ n p st'∧∃ k,c=(none,k)∧1≤k∧k≤m) ?_ ?_ ⟨o8,rfl⟩) ?_)
      ·rintro i c st9 hi1 hi ⟨o9,rfl⟩
       dsimp only
       refine wpS_bind (t_ltAt C o9.1 (by omega) (by omega) fun b=>?_)
       cases b with
       |true=>exact wpS_pure ⟨o9,_,rfl,by omega,by omega⟩
       |false=>exact wpS_pure ⟨o9,rfl⟩
      ·rintro c st9 ⟨o9,rfl⟩
       exact⟨o9,_,rfl,by omega,by omega⟩
      ·rintro c st9 ⟨o9,kk,rfl,e1,e2⟩
       exact wpS_pure (h kk st9 e1 e2 o9)
  ·rw[if_neg qk]
   refine wpS_bind (wpS_lift (wpAny_rule ⟨rfl,?_⟩))
   refine wpS_bind (wpS_mono (wpS_forRange (I:=fun i c st'=>Ord it κ n p st'∧∃ g,c=(none,i,g)) (Q:=fun c st'=>Ord it κ n p st'∧∃ j g,c=(none,j,g)∧k+1≤j∧j≤m) ?_ ?_ ⟨o1,_,rfl⟩) ?_)
   ·rintro i c st3 hi1 hi ⟨o3,g,rfl⟩
    dsimp only
    refine wpS_bind (t_ltAt C o3.1 (by omega) (by omega) fun b=>?_)
    cases b with
    |true =>
     simp only[if_true]
     by_cases qg:g>0
     ·rw[if_pos qg]
      exact wpS_bind (wu o3 fun st4 o4=>wpS_pure ⟨o4,_,rfl⟩)
     ·rw[if_neg qg]
      exact wpS_pure ⟨o3,_,rfl⟩
    |false =>
     simp only[Bool.false_eq_true,if_false]
     refine wpS_bind (t_ltAt C o3.1 (by omega) (by omega) fun b=>?_)
     cases b with
     |true=>exact wpS_pure ⟨o3,_,_,rfl,by omega,by omega⟩
     |false=>exact wpS_pure ⟨o3,_,rfl⟩
   ·rintro c st3 ⟨o3,g,rfl⟩
    exact⟨o3,_,_,rfl,by omega,by omega⟩
   ·rintro c st3 ⟨o3,j,g,rfl,j1,j2⟩
    dsimp only
    by_cases qg:g>0
    ·rw[if_pos qg]
     refine wpS_bind (wu o3 fun st4 o4=>?_)
     refine wpS_bind (wu o4 fun st8 o8=>?_)
     refine wpS_bind (wpS_mono (wpS_forRange (I:=fun i c st'=>Ord it κ n p st'∧c=(none,i)) (Q:=fun c st'=>Ord it κ n p st'∧∃ k,c=(none,k)∧1≤k∧k≤m) ?_ ?_ ⟨o8,rfl⟩) ?_)
     ·rintro i c st9 hi1 hi ⟨o9,rfl⟩
      dsimp only
      refine wpS_bind (t_ltAt C o9.1 (by omega) (by omega) fun b=>?_)
      cases b with
      |true=>exact wpS_pure ⟨o9,_,rfl,by omega,by omega⟩
      |false=>exact wpS_pure ⟨o9,rfl⟩
     ·rintro c st9 ⟨o9,rfl⟩
      exact⟨o9,_,rfl,by omega,by omega⟩
     ·rintro c st9 ⟨o9,kk,rfl,e1,e2⟩
      exact wpS_pure (h kk st9 e1 e2 o9)
    ·rw[if_neg qg]
     refine wpS_bind (wu o3 fun st8 o8=>?_)
     refine wpS_bind (wpS_mono (wpS_forRange (I:=fun i c st'=>Ord it κ n p st'∧c=(none,i)) (Q:=fun c st'=>Ord it κ n p st'∧∃ k,c=(none,k)∧1≤k∧k≤m) ?_ ?_ ⟨o8,rfl⟩) ?_)
     ·rintro i c st9 hi1 hi ⟨o9,rfl⟩
      dsimp only
      refine wpS_bind (t_ltAt C o9.1 (by omega) (by omega) fun b=>?_)
      cases b with
      |true=>exact wpS_pure ⟨o9,_,rfl,by omega,by omega⟩
      |false=>exact wpS_pure ⟨o9,rfl⟩
     ·rintro c st9 ⟨o9,rfl⟩
      exact⟨o9,_,rfl,by omega,by omega⟩
     ·rintro c st9 ⟨o9,kk,rfl,e1,e2⟩
      exact wpS_pure (h kk st9 e1 e2 o9)
theorem ve:∀ (l:List (Keyed×Nat)) (b:Nat) (a:Array Keyed),(l.foldl (fun a (q,j)=>a.setIfInBounds (b+j) q) a).size=a.size
 |[],_,_=>rfl
 |(q,j)::l,b,a=>by rw[List.foldl_cons,ve l b];simp
theorem Yu:∀ (l:List (Keyed×Nat)) (b:Nat) (a:Array Keyed),In it a→(∀ q∈l,q.1∈it)→In it (l.foldl (fun a (q,j)=>a.setIfInBounds (b+j) q) a)
 |[],_,_,h,_=>h
 |(q,j)::l,b,a,h,hl=>by
  rw[List.foldl_cons]
  refine Yu l b _ (fun x hx=>?_) fun r hr=>hl r (List.mem_cons_of_mem _ hr)
  rcases Array.mem_or_eq_of_mem_setIfInBounds hx with z | z
  ·exact h x z
  ·rw[z];exact hl (q,j) List.mem_cons_self
theorem zaa {o:Array Keyed}(h:In it o):∀ q∈o.toList.zipIdx,q.1∈it:=fun q hq=>by
 obtain⟨x,i⟩:=q
 have:=(List.mem_zipIdx hq).2.2
 rw[this]
 exact h _ (Array.mem_def.mpr (List.getElem_mem _))
theorem ziv {x st:SortSt}{Q:PUnit→SortSt→Prop}(h:Q ⟨⟩ x):wpS (model prog w) A E s (set x:StateT SortSt Sem PUnit) Q st:=by
 unfold wpS
 rw[StateT.run_set]
 exact wpAny_pure ⟨rfl,h⟩
theorem Zz (C:Cmp prog w A s it κ){st:SortSt}(t:TB it κ n st){n1 p1 p2:Nat}(hp:pendingOf st = #[(0,n1,p1),(n1,n-n1,p2)]) (h1:1≤n1) (h2:n1<n){Q:Bool→SortSt→Prop}
  (h:∀ st',TB it κ n st'→pendingOf st' = #[(0,n,p1)]→Q true st'):wpS (model prog w) A E s (mergeAt' 0) Q st:=by
 refine wpS_bind (wpS_get ?_)
 have hq:=hp
 unfold pendingOf at hq
 rw[hq]
 have e0 : #[(0,n1,p1),(n1,n-n1,p2)][0]?=some (0,n1,p1):=rfl
 have e1 : #[(0,n1,p1),(n1,n-n1,p2)][0+1]?=some (n1,n-n1,p2):=rfl
 rw[e0,e1]
 dsimp only
 have ep:(#[(0,n1,p1),(n1,n-n1,p2)].setIfInBounds 0 (0,n1+(n-n1),p1)).eraseIdxIfInBounds (0+1) = #[(0,n,p1)]:=by
  rw[show n1+(n-n1)=n by omega]
  apply Array.toList_inj.mp
  simp[Array.setIfInBounds,Array.eraseIdxIfInBounds]
 rw[ep]
 refine wpS_bind (ziv ?_)
 have t2:TB it κ n (setPending st #[(0,n,p1)]):=⟨t.z,t.i,t.k,t.f⟩
 have hz:=t.z
 refine wpS_bind (t_elem (show n1<(arrOf st).size by omega) ?_)
 refine wpS_bind (yA C t2.k (t.i.at (i:=n1) (by omega)) t.i (by omega) (by omega) fun k hk1=>?_)
 dsimp only
 by_cases q1:(n1-k == 0)=true
 ·rw[if_pos q1]
  exact wpS_pure (h _ t2 rfl)
 rw[if_neg q1]
 have q1:n1-k≠0:=fun z=>q1 (by simp[z])
 refine wpS_bind (t_elem (show 0+k+(n1-k)-1<(arrOf st).size by omega) ?_)
 refine wpS_bind (yA C t2.k (t.i.at (i:=0+k+(n1-k)-1) (by omega)) t.i (by omega) (by omega) fun m hm1=>?_)
 dsimp only
 by_cases q2:(m == 0)=true
 ·rw[if_pos q2]
  exact wpS_pure (h _ t2 rfl)
 rw[if_neg q2]
 have q2:m≠0:=fun z=>q2 (by simp[z])
 have fin:∀ (o:Array Keyed) (st3:SortSt),In it o→Eqv (setPending st #[(0,n,p1)]) st3→wpS (model prog w) A E s (do
   modify fun u=>setArr u (o.toList.zipIdx.foldl (fun a (q,j)=>a.setIfInBounds (0+k+j) q) (arrOf u))
   return (failedOf (← get)).isNone) Q st3:=fun o st3 ho ev=>by
  refine wpS_bind (wpS_modify (wpS_bind (wpS_get ?_)))
  have hf:failedOf st3=none:=ev.f.trans t.f
  have e:(failedOf (setArr st3 (o.toList.zipIdx.foldl (fun a (q,j)=>a.setIfInBounds (0+k+j) q) (arrOf st3)))).isNone=true:=by
   show(failedOf st3).isNone=true
   rw[hf];rfl
  rw[e]
  refine wpS_pure (h _ ⟨?_,?_,ev.k.trans t.k,hf⟩ ev.p)
  ·exact(ve _ _ _).trans ((congrArg Array.size ev.a).trans hz)
  ·refine Yu _ _ _ ?_ (zaa ho)
   rw[ev.a]
   exact t.i
 by_cases q3:n1-k≤m
 ·rw[if_pos q3]
  exact wpS_bind (Zx C t2.k t.i.ext t.i.ext (by simp;omega) (by simp;omega) fin)
 ·rw[if_neg q3]
  exact wpS_bind (Zy C t2.k t.i.ext t.i.ext (by simp;omega) (by simp;omega) fin)
theorem YN:∀ z,z≤66→2≤z→z≤2*minRun' z z 0∧minRun' z z 0≤z∧1≤minRun' z z 0:=by decide
theorem zai (C:Cmp prog w A s it κ){st:SortSt}(t:TB it κ n st) (hp:pendingOf st = #[]) (h2:2≤n) (h66:n≤66){Q:Unit→SortSt→Prop}(h:∀ st',TB it κ n st'→Q () st'):wpS (model prog w) A E s sortRuns' Q st:=by
 obtain⟨r1,r2,r3⟩:=YN n h66 h2
 rw[sortRuns'_eq]
 refine wpS_bind (wpS_get ?_)
 rw[t.z]
 dsimp only
 refine wpS_bind (wpS_mono (wpS_forRange (I:=fun i c st'=>TB it κ n st'∧∃ lo,c=(none,lo)∧i≤lo∧((lo=0∧pendingOf st' = #[])∨(1≤lo∧lo≤n∧(lo=n∨minRun' n n 0≤lo)∧∃ p1,pendingOf st' = #[(0,lo,p1)])∨(lo=n∧∃ n1 p1 p2,1≤n1∧n1<n∧pendingOf st' = #[(0,n1,p1),(n1,n-n1,p2)])))
  (Q:=fun c st'=>TB it κ n st'∧∃ lo,c=(none,lo)∧((∃ p1,pendingOf st' = #[(0,n,p1)])∨∃ n1 p1 p2,1≤n1∧n1<n∧pendingOf st' = #[(0,n1,p1),(n1,n-n1,p2)])) ?_ ?_ ⟨t,0,rfl,Nat.le_refl _,.inl ⟨rfl,hp⟩⟩) ?_)
 ·rintro i c st1 _ hi ⟨t1,lo,rfl,hil,hc⟩
  dsimp only
  by_cases q1:lo≥n
  ·rw[if_pos q1]
   refine wpS_pure ⟨t1,lo,rfl,?_⟩
   rcases hc with⟨l0,_⟩ | ⟨l1,l2,l3,p1,hpd⟩ | ⟨l0,hpd⟩
   ·omega
   ·have:lo=n:=by omega
    subst this
    exact .inl ⟨p1,hpd⟩
   ·exact .inr hpd
  rw[if_neg q1]
  refine wpS_bind (Ve (p:=pendingOf st1) C ⟨t1,rfl⟩ (by omega) (by omega) fun fd st0 f1 f2 o0=>?_)
  dsimp only
  by_cases q2:fd<minRun' n n 0
  ·rw[if_pos q2]
   refine wpS_bind (wpS_lift (wpAny_rule ⟨rfl,?_⟩))
   refine wpS_bind (zix C o0 (by omega) fun st2 o2=>?_)
   simp only[Bool.not_true,Bool.false_eq_true,if_false]
   refine wpS_bind (wpS_get ?_)
   rcases hc with⟨l0,hpd⟩ | ⟨l1,l2,l3,p1,hpd⟩ | ⟨l0,_⟩
   ·subst l0
    rw[o2.2,hpd]
    refine wpS_bind (wpS_modify (wpS_pure ⟨⟨o2.1.z,o2.1.i,o2.1.k,o2.1.f⟩,_,rfl,by omega,.inr (.inl ⟨by omega,by omega,by omega,0,?_⟩)⟩))
    show(pendingOf st2).push _=_
    rw[o2.2,hpd,Nat.zero_add]
    rfl
   ·have hRe:min (n-lo) (minRun' n n 0)=n-lo:=by omega
    have hpd2:pendingOf st2 = #[(0,lo,p1)]:=o2.2.trans hpd
    rw[hpd2]
    refine wpS_bind (wpS_mono (wpS_forRange (I:=fun _ c st'=>st'=st2∧c=(none,())) (Q:=fun c st'=>st'=st2∧c=(none,())) ?_ (fun _ _ h=>h) ⟨rfl,rfl⟩) ?_)
    ·rintro j c st3 _ hj ⟨rfl,rfl⟩
     refine wpS_bind (wpS_get ?_)
     rw[hpd2]
     exact wpS_pure ⟨rfl,rfl⟩
    ·rintro c st3 ⟨rfl,rfl⟩
     refine wpS_bind (wpS_modify (wpS_bind (wpS_modify (wpS_pure ⟨⟨o2.1.z,o2.1.i,o2.1.k,o2.1.f⟩,_,rfl,by omega,.inr (.inr ⟨by omega,lo,power' n (2*0+lo) (2*0+lo+lo+min (n-lo) (minRun' n n 0)) n,0,by omega,by omega,?_⟩)⟩))))
     show((pendingOf st3).modify ((pendingOf st3).size-1) _).push _=_
     rw[hpd2,hRe]
     apply Array.toList_inj.mp
     simp[Array.modify]
     rfl
   ·omega
  ·rw[if_neg q2]
   obtain⟨st2,e2⟩:∃ st2,st2=st0:=⟨_,rfl⟩
   rw[← e2] at o0 ⊢
   have o2:=o0
   refine wpS_bind (wpS_get ?_)
   rcases hc with⟨l0,hpd⟩ | ⟨l1,l2,l3,p1,hpd⟩ | ⟨l0,_⟩
   ·subst l0
    rw[o2.2,hpd]
    refine wpS_bind (wpS_modify (wpS_pure ⟨⟨o2.1.z,o2.1.i,o2.1.k,o2.1.f⟩,_,rfl,by omega,.inr (.inl ⟨by omega,by omega,by omega,0,?_⟩)⟩))
    show(pendingOf st2).push _=_
    rw[o2.2,hpd,Nat.zero_add]
    rfl
   ·have hRe:fd=n-lo:=by omega
    have hpd2:pendingOf st2 = #[(0,lo,p1)]:=o2.2.trans hpd
    rw[hpd2]
    refine wpS_bind (wpS_mono (wpS_forRange (I:=fun _ c st'=>st'=st2∧c=(none,())) (Q:=fun c st'=>st'=st2∧c=(none,())) ?_ (fun _ _ h=>h) ⟨rfl,rfl⟩) ?_)
    ·rintro j c st3 _ hj ⟨rfl,rfl⟩
     refine wpS_bind (wpS_get ?_)
     rw[hpd2]
     exact wpS_pure ⟨rfl,rfl⟩
    ·rintro c st3 ⟨rfl,rfl⟩
     refine wpS_bind (wpS_modify (wpS_bind (wpS_modify (wpS_pure ⟨⟨o2.1.z,o2.1.i,o2.1.k,o2.1.f⟩,_,rfl,by omega,.inr (.inr ⟨by omega,lo,power' n (2*0+lo) (2*0+lo+lo+fd) n,0,by omega,by omega,?_⟩)⟩))))
     show((pendingOf st3).modify ((pendingOf st3).size-1) _).push _=_
     rw[hpd2,hRe]
     apply Array.toList_inj.mp
     simp[Array.modify]
     rfl
   ·omega
 ·rintro c st1 ⟨t1,lo,rfl,hil,hc⟩
  refine⟨t1,lo,rfl,?_⟩
  rcases hc with⟨l0,_⟩ | ⟨l1,l2,l3,p1,hpd⟩ | ⟨l0,hpd⟩
  ·omega
  ·have:lo=n:=by omega
   subst this
   exact .inl ⟨p1,hpd⟩
  ·exact .inr hpd
 ·rintro c st1 ⟨t1,lo,rfl,hc⟩
  dsimp only
  refine wpS_bind (wpS_mono (wpS_forRange (I:=fun _ c st'=>TB it κ n st'∧c=(none,())∧((∃ p1,pendingOf st' = #[(0,n,p1)])∨∃ n1 p1 p2,1≤n1∧n1<n∧pendingOf st' = #[(0,n1,p1),(n1,n-n1,p2)])) (Q:=fun c st'=>TB it κ n st'∧c=(none,())) ?_ (fun _ _ h=>⟨h.1,h.2.1⟩) ⟨t1,rfl,hc⟩) ?_)
  ·rintro i c st2 _ hi ⟨t2,rfl,hc⟩
   refine wpS_bind (wpS_get ?_)
   rcases hc with⟨p1,hpd⟩ | ⟨n1,p1,p2,h1,h2,hpd⟩
   ·rw[hpd]
    exact wpS_pure ⟨t2,rfl⟩
   ·rw[hpd]
    refine wpS_bind (Zz C t2 hpd h1 h2 fun st3 t3 hp3=>?_)
    exact wpS_pure ⟨t3,rfl,.inl ⟨_,hp3⟩⟩
  ·rintro c st2 ⟨t2,rfl⟩
   exact wpS_pure (h st2 t2)
end
end Srt
namespace Srt
open PySem PyProof.Rows PySem.W
def Pr (h:Heap) (v:Value):Prop:=∃ x o i j t u n,v=.ref x∧h.get? x=some o∧o.cls=.type "tuple" ∧ o.data=.seq #[.int i t,.int j u] n
section
variable {prog:Program}{w:World}{A:Around}{E:Value→Shared→Prop}{s:Shared}
theorem zjR {x y:Value}(hx:Pr s.heap x) (hy:Pr s.heap y){Q:Bool→Shared→Prop}(h:∀ b,Q b s):wpAny (model prog w) A (keyLt' (tuples' true) x y) Q E s:=by
 obtain⟨x,o,i,j,t,u,n,rfl,ho,_,hd⟩:=hx
 obtain⟨y,o',i',j',t',u',n',rfl,ho',_,hd'⟩:=hy
 refine kat_lt ho hd ho' hd' (kat_cons (wpAny_eqBool_int ?_))
 refine kat_go (fun _=>kat_yes (kat_cons (wpAny_eqBool_int ?_))) fun _=>kat_no (oneLt_int (h _))
 exact kat_go (fun _=>kat_yes (kat_nil (h _))) fun _=>kat_no (kat_one _ _ (lt_int (h _)))
theorem Yw:∀ {vs:List Value},(∀ v∈vs,Pr s.heap v)→∃ fs:List Value,KatTups s.heap vs fs∧fs.length=vs.length∧∀ f∈fs,∃ i t,f=.int i t
 |[],_=>⟨[],.nil,rfl,fun f hf=>by cases hf⟩
 |v::vs,h=>by
  obtain⟨fs,k,hl,hi⟩:=Yw (vs:=vs) fun v hv=>h v (List.mem_cons_of_mem _ hv)
  obtain⟨x,o,i,j,t,u,n,rfl,ho,hc,hd⟩:=h v List.mem_cons_self
  refine⟨.int i t::fs,.cons ho hc hd rfl k,by simp[hl],fun f hf=>?_⟩
  rcases List.mem_cons.mp hf with rfl | hf
  ·exact⟨i,t,rfl⟩
  ·exact hi f hf
theorem Vs {vs:List Value}(h:∀ v∈vs,Pr s.heap v) (hne:0<vs.length){Q:SortKind→Shared→Prop}(q:Q (tuples' true) s):wpAny (model prog w) A (keyKind' vs.toArray) Q E s:=by
 obtain⟨fs,k,hl,hi⟩:=Yw h
 refine kat_kind (T:=.type "int") k (by omega) (fun v hv=>?_) rfl q
 obtain⟨i,t,rfl⟩:=hi v hv
 exact Looks.of_pure rfl
theorem xw {vs:List Value}{p:Keyed}(h:p∈vs.toArray.zip vs.toArray):p.1∈vs∧p.2∈vs:=by
 have h:p∈(vs.toArray.zip vs.toArray).toList:=Array.mem_def.mp h
 rw[Array.toList_zip] at h
 obtain⟨a,b⟩:=p
 exact List.of_mem_zip h
theorem Vr {vs:List Value}(h:∀ v∈vs,Pr s.heap v) (h2:2≤vs.length) (h66:vs.length≤66){Q:Unit→SortSt→Prop}
  (q:∀ st':SortSt,failedOf st'=none→((arrOf st').map (·.2)).size=vs.length→(∀ v∈(arrOf st').map (·.2),v∈vs)→Q () st') :
  wpS (model prog w) A E s sortRuns' Q (SortSt.mk' (tuples' true) (vs.toArray.zip vs.toArray) #[] 7 none):=by
 have hz:(vs.toArray.zip vs.toArray).size=vs.length:=by simp
 refine zai (it:=(vs.toArray.zip vs.toArray).toList) (κ:=tuples' true) (n:=vs.length) (fun x hx y hy Q E hq=>?_) ⟨hz,fun x hx=>Array.mem_def.mp hx,rfl,rfl⟩ rfl h2 h66 fun st' t=>q st' t.f ?_ fun v hv=>?_
 ·exact zjR (h _ (xw (Array.mem_def.mpr hx)).1) (h _ (xw (Array.mem_def.mpr hy)).1) hq
 ·rw[Array.size_map];exact t.z
 ·obtain⟨p,hp,rfl⟩:=Array.mem_map.mp hv
  exact(xw (Array.mem_def.mpr (t.i p hp))).2
theorem Pr.keeps {h h':Heap}{v:Value}(p:Pr h v) (k:∀ b o,h.get? b=some o→o.cls=.type "tuple" → h'.get? b=some o):Pr h' v:=by
 obtain⟨x,o,i,j,t,u,n,e,ho,hc,hd⟩:=p
 exact⟨x,o,i,j,t,u,n,e,k _ _ ho hc,hc,hd⟩
theorem uV {a:Addr}{vs:List Value}{n:Nat}{P:PySem.Fin→Shared→Prop}(ho:s.heap.get? a=some (seqObj "list" vs.toArray n)) (hp:∀ v∈vs,Pr s.heap v) (h66:vs.length≤66)
  (h:∀ o:Array Value,o.size=vs.length→(∀ v∈o,v∈vs)→P (.done (.ret .none)) { s with heap:=sortedHeap s.heap a vs o }):wpAny (model prog w) A (Builtin.«list.sort» ⟨[.ref a],[]⟩) P E s:=by
 have big:66≤sizeLine:=by decide
 have ha:=Heap.lt_size ho
 rw[list_sort_plain]
 refine wpAny_bind (listItems_at ho rfl (wpAny_bind (listUpdate_at ho rfl ?_ (by simp;omega) (Nat.zero_le _))))
 have o1:=get?_update_seq ho (fun _=>(#[]:Array Value))
 refine wpAny_bind (seqEpoch_at o1 rfl (wpAny_bind (wpAny_newTuple (wpAny_bind (wpAny_newList (wpAny_holding ?_) (Nat.zero_le _))) (by show vs.length≤_;omega))))
 generalize hH:Heap.push (Heap.push (s.heap.update a (Obj.mapSeq fun _=>(#[]:Array Value))) (seqObj "tuple" vs.toArray 0)) (seqObj "list" #[] 0)=H6
 have hs:∀ o:Array Value,sortedHeap s.heap a vs o=H6.update a (Obj.mapSeq fun _=>o):=fun o=>by rw[← hH];rfl
 have o6:=Heap.get?_push_of_some (seqObj "list" #[] 0) (Heap.get?_push_of_some (seqObj "tuple" vs.toArray 0) o1)
 rw[hH] at o6
 have hp6:∀ v∈vs,Pr H6 v:=fun v hv=>(hp v hv).keeps fun b o e hc=>by
  have hb:a≠b:=fun z=>by
   rw[← z,ho] at e
   cases e
   have hc:Value.type "list" = .type "tuple" := hc
   injection hc with hc
   exact absurd hc (by decide)
  rw[← hH]
  refine Heap.get?_push_of_some _ (Heap.get?_push_of_some _ ?_)
  rw[Heap.get?_update_other _ _ hb]
  exact e
 have e6:({ s with heap:=Heap.push (Heap.push (s.heap.update a (Obj.mapSeq fun _=>(#[]:Array Value))) (seqObj "tuple" vs.toArray 0)) (seqObj "list" #[] 0) }:Shared)={ s with heap:=H6 }:=by rw[hH]
 refine(show wpAny (model prog w) A _ P E { s with heap:=H6 } from ?_)
 dsimp only
 have hz0:((vs.toArray.zip vs.toArray).map (fun p:Keyed=>p.2)).size=vs.length:=by simp
 by_cases q:vs.toArray.size<2
 ·rw[if_pos q,if_pos q]
  refine wpAny_bind (wpAny_pure ?_)
  rw[StateT.run_pure]
  refine wpAny_bind (wpAny_pure (wpAny_bind (seqEpoch_at o6 rfl (wpAny_bind (listUpdate_at o6 rfl ?_ (Nat.zero_le _) (by show((vs.toArray.zip vs.toArray).map (fun p:Keyed=>p.2)).size≤_;omega))))))
  simp only[bne_self_eq_false,Bool.false_eq_true,if_false]
  refine wpAny_pure ?_
  rw[← hs]
  refine h _ hz0 fun v hv=>?_
  obtain⟨p,hp',rfl⟩:=Array.mem_map.mp hv
  exact(xw hp').2
 ·rw[if_neg q,if_neg q]
  have q:2≤vs.length:=by simp at q;omega
  refine wpAny_bind (Vs hp6 (by omega) ?_)
  refine wpAny_bind (wpAny_mono (Vr (s:={ s with heap:=H6 }) hp6 q h66 (Q:=fun _ st'=>failedOf st'=none∧((arrOf st').map (·.2)).size=vs.length∧∀ v∈(arrOf st').map (·.2),v∈vs) fun st' a1 a2 a3=>⟨a1,a2,a3⟩) ?_ fun _ _ e=>e)
  rintro⟨⟨⟩,st'⟩ s' ⟨rfl,hf,hz,hm⟩
  refine wpAny_bind (seqEpoch_at o6 rfl (wpAny_bind (listUpdate_at o6 rfl ?_ (Nat.zero_le _) (by omega))))
  rw[hf]
  simp only[bne_self_eq_false,Bool.false_eq_true,if_false]
  refine wpAny_pure ?_
  rw[← hs]
  exact h _ hz hm
theorem va {l:Addr}{vs:List Value}{Q:Value→Shared→Prop}(hl:s.heap.IsList l vs.toArray) (hp:∀ v∈vs,Pr s.heap v) (h66:vs.length≤66)
  (h:∀ o:Array Value,o.size=vs.length→(∀ v∈o,v∈vs)→Q (.ref (s.heap.objs.size+1)) { s with heap:=sortedAll s.heap vs o }):wpAny (model prog w) A (call (.builtin "sorted") [.ref l]) Q E s:=by
 have big:66≤sizeLine:=by decide
 refine Calls.call_function_entry kind_sorted plain_sorted entry_sorted (args_sorted1 _) ?_
 unfold Builtin.«sorted»
 refine wpAny_bind (m:=checkCount "sorted" 1 1 _) (wpAny_pure (wpAny_bind (collect_list hl (wpAny_bind (wpAny_newList ?_ (by show vs.length≤_;omega))) (by omega))))
 have hz:(Heap.update (Heap.push s.heap (seqObj "list" #[] 0)) s.heap.objs.size (Obj.mapSeq fun x=>x++vs.toArray)).objs.size=s.heap.objs.size+1:=(Heap.size_update _ _ _).trans (size_push' _ _)
 have hk:∀ b o,s.heap.get? b=some o→(Heap.push (Heap.update (Heap.push s.heap (seqObj "list" #[] 0)) s.heap.objs.size (Obj.mapSeq fun x=>x++vs.toArray)) (seqObj "list" vs.toArray 0)).get? b=some o:=fun b o e=>by
  refine Heap.get?_push_of_some _ ?_
  rw[Heap.get?_update_other _ _ (Nat.ne_of_gt (Heap.lt_size e))]
  exact Heap.get?_push_of_some _ e
 have ho:=Heap.get?_push_size (Heap.update (Heap.push s.heap (seqObj "list" #[] 0)) s.heap.objs.size (Obj.mapSeq fun x=>x++vs.toArray)) (o:=seqObj "list" vs.toArray 0) rfl
 refine(show wpAny _ _ _ _ _ { s with heap:=Heap.push (Heap.update (Heap.push s.heap (seqObj "list" #[] 0)) s.heap.objs.size (Obj.mapSeq fun x=>x++vs.toArray)) (seqObj "list" vs.toArray 0) } from ?_)
 rw[hz] at ho ⊢
 refine wpAny_bind (wpAny_holding (wpAny_call_entry slot_list_sort ⟨_,ho,rfl⟩ entry_list_sort ?_ (args_list_sort _)))
 refine uV ho (fun v hv=>(hp v hv).keeps fun b o e _=>hk b o e) h66 fun o z m=>⟨_,rfl,wpAny_pure ⟨_,rfl,h o z m⟩⟩
end
section
variable {X:Cx}
theorem wU {ys:List V}:∀ {l:List Value},(∀ v∈l,∃ y∈ys,RelV y v)→∃ zs,Vals zs l∧∀ z∈zs,z∈ys
 |[],_=>⟨[],.nil,fun z hz=>by cases hz⟩
 |v::l,h=>by
  obtain⟨zs,r,m⟩:=wU (l:=l) fun v hv=>h v (List.mem_cons_of_mem _ hv)
  obtain⟨y,hy,e⟩:=h v List.mem_cons_self
  refine⟨y::zs,.cons e r,fun z hz=>?_⟩
  rcases List.mem_cons.mp hz with rfl | hz
  ·exact hy
  ·exact m z hz
def zfC (K:PySem.W.Frag):List V→Hp→VK→Prop:=fun xs H Q=>∃ (a:Addr) (ys:List V),xs=[V.ref a]∧SqL K H a ys∧ys.length≤66∧(∀ y∈ys,∃ q i j,y=.ref q∧H q=some (.tup [.int i,.int j])) ∧
 ∀ (p:Addr) (zs:List V),H p=none→zs.length=ys.length→(∀ z∈zs,z∈ys)→Q (.ref p) (upd H p (.lst zs))
theorem wk:yu X (.builtin "sorted") (zfC X.K):=by
 intro pins s σ H xs us Q I r h
 obtain⟨a,ys,rfl,ha,h66,hy,q⟩:=h
 obtain⟨u,rfl,ru⟩:=r.one
 cases ru
 obtain⟨its,rv,p,hz⟩:=I.list ha
 have hl:=rv.length
 have back:∀ v∈its,∃ y∈ys,RelV y v:=fun v hv=>by
  obtain⟨i,hi,e⟩:=List.getElem_of_mem hv
  have hi':i<ys.length:=by omega
  obtain⟨u,hu,ru⟩:=rv.get (i:=i) (x:=ys[i]) (by simp[hi'])
  rw[List.getElem?_eq_getElem hi] at hu
  cases hu
  exact⟨ys[i],List.getElem_mem hi',e ▸ ru⟩
 refine va p.isList (fun v hv=>?_) (by omega) fun o z m=>?_
 ·obtain⟨y,hy',e⟩:=back v hv
  obtain⟨t,i,j,rfl,ht⟩:=hy y hy'
  cases e
  obtain⟨_,vs,rr,ob,e1,e2,n,e3⟩:=(show ObjOk X.prog X.w H s.heap t (.tup [.int i,.int j]) from I.hok t _ ht)
  cases rr with
  |cons r1 rr =>
   cases rr with
   |cons r2 rr =>
    cases rr
    obtain⟨t1,rfl⟩:=r1
    obtain⟨t2,rfl⟩:=r2
    exact⟨t,ob,i,j,t1,t2,n,rfl,e1,e2,e3⟩
 ·obtain⟨zs,rz,mz⟩:=wU (ys:=ys) (l:=o.toList) fun v hv=>back v (m v (Array.mem_def.mpr hv))
  have hn:H (s.heap.objs.size+1)=none:=I.hok.fresh (Nat.le_succ _)
  have lz:zs.length=ys.length:=by rw[rz.length,Array.length_toList,z,hl]
  obtain⟨c,hc⟩:=sortedAll_at s.heap its o
  refine⟨.ref _,_,I.laid (a:=s.heap.objs.size+1) (o:=.lst zs) (t':=s.toks) (fun _ _ e=>sortedAll_old e) (Nat.le_succ _) ⟨by rw[lz];exact hz,o.toList,c,rz,hc⟩,rfl,q _ zs hn lz mz⟩
end
section
variable {prog:Program}{w:World}{A:Around}{E:Value→Shared→Prop}{s:Shared}
theorem uG:∀ {ns:List Int}{vs:List Value},vs.length=ns.length→(∀ (j:Nat) v n,vs[j]?=some v→ns[j]?=some n→∃ t,v=Value.int n t)→IntsAre vs ns
 |[],[],_,_=>.nil
 |n::ns,v::vs,hl,h=>by
  obtain⟨t,rfl⟩:=h 0 v n rfl rfl
  exact .cons _ _ (uG (by simpa using hl) fun j v n e1 e2=>h (j+1) v n (by simpa using e1) (by simpa using e2))
 |[],_::_,hl,_=>by simp at hl
 |_::_,[],hl,_=>by simp at hl
theorem vc {d:Addr}{kvs:List (Key×Value)}{ep:Nat}{ns:List Int}{Q:Value→Shared→Prop}(lo:(d == sysModules)=false) (hh:A.handled=none) (hD:s.heap.DictAt (zu prog w) d kvs ep) (hk:kvs.map (·.1)=ns.map Sum.inl) (h64:ns.length<64)
  (h:∀ (D:Addr) (h':Heap) (tk:Nat) (out:Array Value) (ms:List Int),(∀ b o,s.heap.get? b=some o→h'.get? b=some o)→s.heap.get? D=none→IntsAre out.toList ms→ms.Perm ns→ms.Pairwise (· ≤ ·)→(∃ c,h'.get? D=some (seqObj "list" out c))→Q (.ref D) { s with heap:=h',toks:=tk }) :
  wpAny (model prog w) A (call (.builtin "sorted") [.ref d]) Q E s:=by
 have big:64≤sizeLine:=by decide
 have hlen:kvs.length=ns.length:=by
  have:=congrArg List.length hk
  simpa using this
 refine Calls.call_function_entry kind_sorted plain_sorted entry_sorted (args_sorted1 _) ?_
 unfold Builtin.«sorted»
 refine wpAny_bind (m:=checkCount "sorted" 1 1 _) (wpAny_pure ?_)
 refine wpAny_bind (kdu_collect (A:=A.in1) (kdl_dict (knd:=zu prog w) (kvs:=kvs) (ep:=ep) lo) hh hD (by omega) fun h' tk acc hk' hacc=>?_)
 have hl:acc.toList.length=kvs.length:=by rw[Array.length_toList];exact hacc.1
 have hI:IntsAre acc.toList ns:=uG (by omega) fun j v n e1 e2=>by
  obtain⟨k,x,hx,hkk⟩:=hacc.2 j v (by rw[← Array.getElem?_toList];exact e1)
  have e3:(kvs.map (·.1))[j]?=some k:=by rw[List.getElem?_map,hx];rfl
  rw[hk,List.getElem?_map,e2] at e3
  obtain rfl:(Sum.inl n:Key)=k:=by simpa using e3
  rcases zJ (k:=Sum.inl n) (v:=v) hkk with⟨i,t,e,rfl⟩ | ⟨i,t,e,rfl⟩
  ·injection e with e
   exact⟨t,by rw[e]⟩
  ·cases e
 refine wpAny_bind (wpAny_newList ?_ (by omega))
 have hoL:(h'.push (seqObj "list" acc.toList.toArray 0)).get? h'.objs.size=some (seqObj "list" acc.toList.toArray 0):=Heap.get?_push_size _ rfl
 refine(show wpAny _ _ _ _ _ { s with heap:=h'.push (seqObj "list" acc.toList.toArray 0),toks:=tk } from ?_)
 refine wpAny_bind (wpAny_holding (wpAny_call_entry slot_list_sort ⟨_,hoL,rfl⟩ entry_list_sort (list_sort_tree hoL hI (by omega) fun out ns' a1 a2 a3=>⟨_,rfl,?_⟩) (args_list_sort _)))
 refine wpAny_pure ⟨_,rfl,h h'.objs.size _ tk out ns' (fun b o e=>?_) ?_ a1 a2 a3 (sortedHeap_at hoL)⟩
 ·have e1:=hk' b o e
  have lt:=Heap.lt_size e1
  rw[sortedHeap_old (Nat.ne_of_lt lt) (by rw[size_push'];exact Nat.lt_succ_of_lt lt)]
  exact Heap.get?_push_of_some _ e1
 ·cases z:s.heap.get? h'.objs.size with
  |none=>rfl
  |some o=>exact absurd (Heap.lt_size (hk' _ _ z)) (Nat.lt_irrefl _)
end
section
variable {X:Cx}{pins:List (Addr×Obj)}{σ:St}{H:Hp}{s:Shared}{h':Heap}
theorem znE {a:Addr}{o:HO}{t':Nat}(I:Inv X pins σ H s) (k:∀ b u,s.heap.get? b=some u→h'.get? b=some u) (hf:s.heap.get? a=none) (new:ObjOk X.prog X.w (upd H a o) h' a o) :
  Inv X pins σ (upd H a o) { s with heap:=h',toks:=t' }:=by
 have hn:H a=none:=I.hok.untr hf
 have ne:∀ b u,s.heap.get? b=some u→b≠a:=fun b u q z=>by rw[z,hf] at q;cases q
 refine I.un ⟨fun b u q _ _ _=>k b u q,fun b u q _ _ _=>⟨u.slots,k b u q⟩,fun b u q n _=>by rw[upd_ne (ne b u q)];exact n,fun b u q _=>⟨u,k b u q⟩,fun b xs q=>by rw[upd_ne (ne_of_none q hn)];exact q,
  fun b u xs q=>by rw[upd_ne (ne_of_none q hn)];exact q,fun b ps q=>⟨#[],by rw[upd_ne (ne_of_none q hn),q];simp⟩⟩ fun b u e=>?_
 by_cases hb:b=a
 ·subst hb;rw[upd_same] at e;cases e;exact new
 ·rw[upd_ne hb] at e
  exact(I.hok b u e).stay (fun c v _ q=>k c v q) (fun c q=>by rw[upd_ne (ne_of_none q hn)];exact q) fun c xs q=>by rw[upd_ne (ne_of_none q hn)];exact q
theorem KV.keys {κ:Type}:∀ {kvs:List (κ×V)}{vs:List (κ×Value)},KV kvs vs→kvs.map (·.1)=vs.map (·.1)
 |[],_,r=>by cases r;rfl
 |p::kvs,_,r=>by
  cases r with
  |cons h t=>rw[List.map_cons,List.map_cons,KV.keys t,h.1]
def WV:List V→Hp→VK→Prop:=fun xs H Q=>∃ (a:Addr) (kvs:List (Key×V)) (ns:List Int),xs=[V.ref a]∧H a=some (.dK kvs)∧kvs.map (·.1)=ns.map Sum.inl∧ns.length<64 ∧
 ∀ (p:Addr) (ms:List Int),H p=none→ms.Perm ns→ms.Pairwise (· ≤ ·)→Q (.ref p) (upd H p (.lst (ms.map V.int)))
theorem wn (hc:X.calm=true:=by rfl):yu X (.builtin "sorted") WV:=by
 intro pins s σ H xs us Q I r h
 obtain⟨a,kvs,ns,rfl,ha,hk,h64,q⟩:=h
 obtain⟨u,rfl,ru⟩:=r.one
 cases ru
 have big:64≤sizeLine:=by decide
 obtain⟨hz,lo,vs,rel,hD⟩:=vz I.hok ha
 obtain⟨ep,hat⟩:=hD.dictAt
 refine vc lo (I.ok.hd hc) hat (by rw[← KV.keys rel];exact hk) h64 fun D h' tk out ms k1 k2 a1 a2 a3 k3=>?_
 obtain⟨c,k3⟩:=k3
 exact⟨.ref D,_,znE (o:=.lst (ms.map V.int)) I k1 k2 ⟨by rw[List.length_map,a2.length_eq];omega,out.toList,c,vY a1,by rw[Array.toArray_toList];exact k3⟩,rfl,q D ms (I.hok.untr k2) a2 a3⟩
end
end Srt
end L2
namespace K04
open PySem L2
structure Hs (hs:List Int):Prop where
 l1:1≤hs.length
 l12:hs.length≤12
 up:hs.Pairwise (· < ·)
 lo:∀ h∈hs,0≤h
 hi:∀ h∈hs,h≤99
structure Ls (hs:List Int) (ls:List (Int×Int)):Prop where
 nd:ls.Nodup
 ok:∀ p∈ls,p.1∈hs∧p.2∈hs∧p.1<p.2
 le:ls.length≤66
def Adj (ls:List (Int×Int)) (x y:Int):Prop:=(x,y)∈ls∨(y,x)∈ls
theorem XQ {as:List Int}(h:as.Pairwise (· < ·)):as.Nodup:=h.imp fun {a b} z=>by omega
theorem zgZ:∀ {as bs:List Int},as.Nodup→(∀ x∈as,x∈bs)→as.length≤bs.length
 |[],_,_,_=>Nat.zero_le _
 |a::as,bs,hn,hs=>by
  rw[List.nodup_cons] at hn
  have ha:=hs a List.mem_cons_self
  have ih:=zgZ (as:=as) (bs:=bs.erase a) hn.2 fun x hx=>by
   have ne:x≠a:=fun z=>hn.1 (by rw[← z];exact hx)
   exact(List.mem_erase_of_ne ne).mpr (hs x (List.mem_cons_of_mem _ hx))
  rw[List.length_erase_of_mem ha] at ih
  have:=List.length_pos_of_mem ha
  rw[List.length_cons];omega
def nbs (ls:List (Int×Int)) (h:Int):List Int:=ls.flatMap fun p=>(if p.1=h then[p.2] else[])++if p.2=h then[p.1] else[]
theorem mem_nbs {ls:List (Int×Int)}{h x:Int}:x∈nbs ls h↔Adj ls h x:=by
 unfold nbs Adj
 rw[List.mem_flatMap]
 constructor
 ·rintro⟨⟨u,v⟩,hp,hx⟩
  dsimp only at hx
  rw[List.mem_append] at hx
  rcases hx with hx | hx
  ·split at hx
   ·rename_i e;subst e
    rw[List.mem_singleton] at hx;subst hx;exact .inl hp
   ·cases hx
  ·split at hx
   ·rename_i e;subst e
    rw[List.mem_singleton] at hx;subst hx;exact .inr hp
   ·cases hx
 ·rintro(h1 | h1)
  ·exact⟨_,h1,by simp⟩
  ·exact⟨_,h1,by simp⟩
theorem YM {h:Int}:∀ {ls:List (Int×Int)},(nbs ls h).length≤2*ls.length
 |[]=>Nat.le_refl _
 |p::ls=>by
  have ih:=YM (h:=h) (ls:=ls)
  unfold nbs at ih ⊢
  rw[List.flatMap_cons,List.length_append,List.length_append,List.length_cons]
  have h1:(if p.1=h then[p.2] else[]).length≤1:=by split<;>simp
  have h2:(if p.2=h then[p.1] else[]).length≤1:=by split<;>simp
  omega
theorem Wl {ls:List (Int×Int)}{p:Int×Int}{h:Int}:nbs (ls++[p]) h=nbs ls h++((if p.1=h then[p.2] else[])++if p.2=h then[p.1] else[]):=by
 unfold nbs
 rw[List.flatMap_append,List.flatMap_cons,List.flatMap_nil,List.append_nil]
theorem Wk {ls:List (Int×Int)}{p:Int×Int}{i:Nat}{h:Int}(e:ls[i]?=some p):nbs (ls.take (i+1)) h=nbs (ls.take i) h++((if p.1=h then[p.2] else[])++if p.2=h then[p.1] else[]):=by
 rw[List.take_add_one,e]
 exact Wl
noncomputable def top (i:Nat):Stmt:=PySem.Challenge.pw_beatless_k21_plain_runs_told_again.main.body.getD i (.Pass ⟨0,0,0,0⟩)
abbrev Z1:Stmt:=top 2
abbrev Z0:Stmt:=top 3
abbrev ZZ:Stmt:=top 4
abbrev ZY:Stmt:=top 5
abbrev ZX:Stmt:=top 6
abbrev ZW:Stmt:=top 7
abbrev ZV:Stmt:=top 8
abbrev ZU:Stmt:=top 9
abbrev ZT:Stmt:=top 23
abbrev ZS:Stmt:=top 31
abbrev ZR:Stmt:=top 32
abbrev ZQ:Stmt:=top 33
abbrev ZP:Stmt:=top 34
abbrev ZO:Stmt:=top 35
abbrev uR:Stmt:=top 36
abbrev ZN:Stmt:=top 41
abbrev ZM:Stmt:=top 42
abbrev ZL:Stmt:=top 43
abbrev ZK:Stmt:=top 44
abbrev ZJ:Stmt:=top 47
abbrev ZI:Stmt:=top 48
abbrev uQ:Stmt:=top 49
abbrev ZH:Stmt:=top 50
abbrev ZG:Stmt:=top 51
abbrev ZF:Stmt:=top 53
abbrev ZE:Stmt:=top 54
abbrev Yn:Stmt:=top 55
abbrev Ym:Stmt:=top 56
abbrev Yl:Stmt:=top 57
abbrev Yk:Stmt:=top 58
abbrev uU:Stmt:=top 59
abbrev Yj:Stmt:=inClass (top 12) 0
abbrev Yi:Stmt:=inClass (top 12) 1
abbrev Yh:Stmt:=inClass (top 12) 3
abbrev Yg:Stmt:=inClass (top 13) 0
abbrev Yf:Stmt:=inClass (top 13) 1
abbrev Ye:Stmt:=inClass (top 13) 3
abbrev Yd:Stmt:=inClass (top 14) 0
abbrev Yc:Stmt:=inClass (top 14) 1
abbrev Yb:Stmt:=inClass (top 14) 3
abbrev Ya:Stmt:=inClass (top 15) 0
abbrev Z9:Stmt:=inClass (top 15) 1
abbrev Z8:Stmt:=inClass (top 15) 3
abbrev Z7:Stmt:=inClass (top 16) 0
abbrev Z6:Stmt:=inClass (top 16) 1
abbrev Z5:Stmt:=inClass (top 16) 3
abbrev Z4:Stmt:=inClass (top 37) 0
abbrev uT:Stmt:=inClass (top 37) 1
abbrev vL:Stmt:=inClass (top 37) 2
abbrev uS:Stmt:=inClass (top 37) 3
abbrev Z3:Stmt:=inClass (top 45) 0
abbrev Z2:Stmt:=inClass (top 45) 1
abbrev uq:Stmt:=inClass (top 45) 2
abbrev w8:Stmt:=inClass (top 45) 3
abbrev w6:Stmt:=inClass (top 45) 5
theorem zjt:FnScope ["web", "program"] ["web", "program"] (defScope Z1):=⟨rfl,rfl,rfl,by decide +kernel,rfl,by decide +kernel,by decide +kernel⟩
theorem sc_qb:FnScope ["web", "program", "worths", "turn", "heard", "hand", "near", "other", "number"] ["web", "program", "worths", "turn"] (defScope Z0):=⟨rfl,rfl,rfl,by decide +kernel,rfl,by decide +kernel,by decide +kernel⟩
theorem sc_qc:FnScope ["web", "program", "worths", "turn", "heard", "found", "hand", "lines", "numbers"] ["web", "program", "worths", "turn", "heard"] (defScope ZZ):=⟨rfl,rfl,rfl,by decide +kernel,rfl,by decide +kernel,by decide +kernel⟩
theorem sc_qd:FnScope ["pieces", "program", "last", "worths", "heard", "web", "rounds", "first", "turn"] ["pieces", "program"] (defScope ZY):=⟨rfl,rfl,rfl,by decide +kernel,rfl,by decide +kernel,by decide +kernel⟩
theorem zjs:FnScope ["pieces", "program"] ["pieces", "program"] (defScope ZX):=⟨rfl,rfl,rfl,by decide +kernel,rfl,by decide +kernel,by decide +kernel⟩
theorem zjr:FnScope ["pieces", "program"] ["pieces", "program"] (defScope ZW):=⟨rfl,rfl,rfl,by decide +kernel,rfl,by decide +kernel,by decide +kernel⟩
theorem zjq:FnScope ["web", "program", "rounds"] ["web", "program", "rounds"] (defScope ZV):=⟨rfl,rfl,rfl,by decide +kernel,rfl,by decide +kernel,by decide +kernel⟩
theorem zjp:FnScope ["web", "program", "rounds"] ["web", "program", "rounds"] (defScope ZU):=⟨rfl,rfl,rfl,by decide +kernel,rfl,by decide +kernel,by decide +kernel⟩
theorem zfw:FnScope ["value"] ["value"] (defScope ZT):=⟨rfl,rfl,rfl,by decide +kernel,rfl,by decide +kernel,by decide +kernel⟩
theorem zjo:FnScope ["value"] ["value"] (defScope ZS):=⟨rfl,rfl,rfl,by decide +kernel,rfl,by decide +kernel,by decide +kernel⟩
theorem zjn:FnScope ["word", "words"] ["word", "words"] (defScope ZR):=⟨rfl,rfl,rfl,by decide +kernel,rfl,by decide +kernel,by decide +kernel⟩
theorem zjm:FnScope ["number"] ["number"] (defScope ZQ):=⟨rfl,rfl,rfl,by decide +kernel,rfl,by decide +kernel,by decide +kernel⟩
theorem sc_qm:FnScope ["parts", "names", "deep", "part"] ["parts", "names", "deep"] (defScope ZP):=⟨rfl,rfl,rfl,by decide +kernel,rfl,by decide +kernel,by decide +kernel⟩
theorem zjl:FnScope ["expr", "names", "deep"] ["expr", "names", "deep"] (defScope ZO):=⟨rfl,rfl,rfl,by decide +kernel,rfl,by decide +kernel,by decide +kernel⟩
theorem zjk:FnScope ["exprs"] ["exprs"] (defScope uR):=⟨rfl,rfl,rfl,by decide +kernel,rfl,by decide +kernel,by decide +kernel⟩
theorem sc_qp:FnScope ["hands", "ahead", "hand"] ["hands"] (defScope ZN):=⟨rfl,rfl,rfl,by decide +kernel,rfl,by decide +kernel,by decide +kernel⟩
theorem zjj:FnScope ["line", "hands"] ["line", "hands"] (defScope ZM):=⟨rfl,rfl,rfl,by decide +kernel,rfl,by decide +kernel,by decide +kernel⟩
theorem sc_qr:FnScope ["lines", "hands", "seen", "line"] ["lines", "hands"] (defScope ZL):=⟨rfl,rfl,rfl,by decide +kernel,rfl,by decide +kernel,by decide +kernel⟩
theorem sc_qs:FnScope ["hands", "lines", "near", "hand", "one", "other"] ["hands", "lines"] (defScope ZK):=⟨rfl,rfl,rfl,by decide +kernel,rfl,by decide +kernel,by decide +kernel⟩
theorem zji:FnScope ["_law_script", "_law_k"] ["_law_script", "_law_k"] (defScope ZJ):=⟨rfl,rfl,rfl,by decide +kernel,rfl,by decide +kernel,by decide +kernel⟩
theorem sc_qu:FnScope ["_law_cell", "_law_many", "_law_found", "_law_rest", "_law_number", "_law_k", "_law_mixed"] ["_law_cell", "_law_many"] (defScope ZI):=⟨rfl,rfl,rfl,by decide +kernel,rfl,by decide +kernel,by decide +kernel⟩
theorem zjh:FnScope ["_law_xs", "_law_size"] ["_law_xs", "_law_size"] (defScope uQ):=⟨rfl,rfl,rfl,by decide +kernel,rfl,by decide +kernel,by decide +kernel⟩
theorem sc_qw:FnScope ["_law_xs", "_law_most", "_law_hand", "_law_found", "_law_k"] ["_law_xs", "_law_most"] (defScope ZH):=⟨rfl,rfl,rfl,by decide +kernel,rfl,by decide +kernel,by decide +kernel⟩
theorem sc_qx:FnScope ["_law_xs", "_law_hands_here", "_law_way", "_law_found", "_law_j", "_law_k", "_law_near_here", "_law_draw", "_law_at"] ["_law_xs", "_law_hands_here"] (defScope ZG):=⟨rfl,rfl,rfl,by decide +kernel,rfl,by decide +kernel,by decide +kernel⟩
theorem sc_qy:FnScope ["_law_xs", "_law_names", "_law_deep", "_law_way", "_law_word"] ["_law_xs", "_law_names", "_law_deep"] (defScope ZF):=⟨rfl,rfl,rfl,by decide +kernel,rfl,by decide +kernel,by decide +kernel⟩
theorem sc_qz:FnScope ["_law_cell", "_law_xs", "_law_first", "_law_send", "_law_when"] ["_law_cell"] (defScope ZE):=⟨rfl,rfl,rfl,by decide +kernel,rfl,by decide +kernel,by decide +kernel⟩
theorem zjO:FnScope [] [] (defScope Yn):=⟨rfl,rfl,rfl,by decide +kernel,rfl,by decide +kernel,by decide +kernel⟩
theorem zjN:FnScope ["_law_told"] ["_law_told"] (defScope Ym):=⟨rfl,rfl,rfl,by decide +kernel,rfl,by decide +kernel,by decide +kernel⟩
theorem zjM:FnScope ["_law_program_here"] ["_law_program_here"] (defScope Yl):=⟨rfl,rfl,rfl,by decide +kernel,rfl,by decide +kernel,by decide +kernel⟩
theorem sc_qD:FnScope ["_law_worths", "_law_heard", "_law_rows", "_law_told"] ["_law_worths", "_law_heard"] (defScope Yk):=⟨rfl,rfl,rfl,by decide +kernel,rfl,by decide +kernel,by decide +kernel⟩
theorem sc_qE:FnScope ["_law_script", "_law_xs", "_law_hands_here", "_law_lines_here", "_law_rounds", "_law_program_here", "_law_other", "_law_web", "_law_kept", "_law_worths", "_law_heard", "_law_due", "_law_told", "_law_row", "_law_none"] ["_law_script"] (defScope uU):=⟨rfl,rfl,rfl,by decide +kernel,rfl,by decide +kernel,by decide +kernel⟩
theorem zjL:FnScope ["self", "value"] ["self", "value"] (defScope Yj):=⟨rfl,rfl,rfl,by decide +kernel,rfl,by decide +kernel,by decide +kernel⟩
theorem zjK:FnScope ["self", "worths"] ["self", "worths"] (defScope Yi):=⟨rfl,rfl,rfl,by decide +kernel,rfl,by decide +kernel,by decide +kernel⟩
theorem zjJ:FnScope ["self"] ["self"] (defScope Yh):=⟨rfl,rfl,rfl,by decide +kernel,rfl,by decide +kernel,by decide +kernel⟩
theorem zjI:FnScope ["self", "word"] ["self", "word"] (defScope Yg):=⟨rfl,rfl,rfl,by decide +kernel,rfl,by decide +kernel,by decide +kernel⟩
theorem zjH:FnScope ["self", "worths"] ["self", "worths"] (defScope Yf):=⟨rfl,rfl,rfl,by decide +kernel,rfl,by decide +kernel,by decide +kernel⟩
theorem zjG:FnScope ["self"] ["self"] (defScope Ye):=⟨rfl,rfl,rfl,by decide +kernel,rfl,by decide +kernel,by decide +kernel⟩
theorem zjF:FnScope ["self", "word", "one", "other"] ["self", "word", "one", "other"] (defScope Yd):=⟨rfl,rfl,rfl,by decide +kernel,rfl,by decide +kernel,by decide +kernel⟩
theorem sc_qM:FnScope ["self", "worths", "one", "other"] ["self", "worths"] (defScope Yc):=⟨rfl,rfl,rfl,by decide +kernel,rfl,by decide +kernel,by decide +kernel⟩
theorem zjE:FnScope ["self"] ["self"] (defScope Yb):=⟨rfl,rfl,rfl,by decide +kernel,rfl,by decide +kernel,by decide +kernel⟩
theorem zjD:FnScope ["self", "inner", "number"] ["self", "inner", "number"] (defScope Ya):=⟨rfl,rfl,rfl,by decide +kernel,rfl,by decide +kernel,by decide +kernel⟩
theorem zjC:FnScope ["self", "worths"] ["self", "worths"] (defScope Z9):=⟨rfl,rfl,rfl,by decide +kernel,rfl,by decide +kernel,by decide +kernel⟩
theorem zjB:FnScope ["self"] ["self"] (defScope Z8):=⟨rfl,rfl,rfl,by decide +kernel,rfl,by decide +kernel,by decide +kernel⟩
theorem zjA:FnScope ["self", "one", "other", "third", "fourth"] ["self", "one", "other", "third", "fourth"] (defScope Z7):=⟨rfl,rfl,rfl,by decide +kernel,rfl,by decide +kernel,by decide +kernel⟩
theorem zjz:FnScope ["self", "worths"] ["self", "worths"] (defScope Z6):=⟨rfl,rfl,rfl,by decide +kernel,rfl,by decide +kernel,by decide +kernel⟩
theorem zjy:FnScope ["self"] ["self"] (defScope Z5):=⟨rfl,rfl,rfl,by decide +kernel,rfl,by decide +kernel,by decide +kernel⟩
theorem zjx:FnScope ["self", "start", "send", "when", "renew"] ["self", "start", "send", "when", "renew"] (defScope Z4):=⟨rfl,rfl,rfl,by decide +kernel,rfl,by decide +kernel,by decide +kernel⟩
theorem zjw:FnScope ["self", "hand", "lines"] ["self", "hand", "lines"] (defScope uT):=⟨rfl,rfl,rfl,by decide +kernel,rfl,by decide +kernel,by decide +kernel⟩
theorem sc_qW:FnScope ["self", "worth", "hand", "turn", "lines", "other", "worths"] ["self", "worth", "hand", "turn", "lines", "other"] (defScope vL):=⟨rfl,rfl,rfl,by decide +kernel,rfl,by decide +kernel,by decide +kernel⟩
theorem sc_qX:FnScope ["self", "worth", "hand", "turn", "lines", "heard", "worths"] ["self", "worth", "hand", "turn", "lines", "heard"] (defScope uS):=⟨rfl,rfl,rfl,by decide +kernel,rfl,by decide +kernel,by decide +kernel⟩
theorem zjv:FnScope ["self", "hands", "lines"] ["self", "hands", "lines"] (defScope Z3):=⟨rfl,rfl,rfl,by decide +kernel,rfl,by decide +kernel,by decide +kernel⟩
theorem zju:FnScope ["self"] ["self"] (defScope Z2):=⟨rfl,rfl,rfl,by decide +kernel,rfl,by decide +kernel,by decide +kernel⟩
theorem zfy:FnScope ["self", "hand"] ["self", "hand"] (defScope w8):=⟨rfl,rfl,rfl,by decide +kernel,rfl,by decide +kernel,by decide +kernel⟩
theorem zfx:FnScope ["self", "hand"] ["self", "hand"] (defScope w6):=⟨rfl,rfl,rfl,by decide +kernel,rfl,by decide +kernel,by decide +kernel⟩
set_option genInjectivity false in
set_option genSizeOf false in
structure Ad where
 f_qa:Addr
 d_qa:FuncData
 f_qb:Addr
 d_qb:FuncData
 f_qc:Addr
 d_qc:FuncData
 f_qd:Addr
 d_qd:FuncData
 f_qe:Addr
 d_qe:FuncData
 f_qf:Addr
 d_qf:FuncData
 f_qg:Addr
 d_qg:FuncData
 f_qh:Addr
 d_qh:FuncData
 f_qi:Addr
 d_qi:FuncData
 f_qj:Addr
 d_qj:FuncData
 f_qk:Addr
 d_qk:FuncData
 f_ql:Addr
 d_ql:FuncData
 f_qm:Addr
 d_qm:FuncData
 f_qn:Addr
 d_qn:FuncData
 f_qo:Addr
 d_qo:FuncData
 f_qp:Addr
 d_qp:FuncData
 f_qq:Addr
 d_qq:FuncData
 f_qr:Addr
 d_qr:FuncData
 f_qs:Addr
 d_qs:FuncData
 f_qt:Addr
 d_qt:FuncData
 f_qu:Addr
 d_qu:FuncData
 f_qv:Addr
 d_qv:FuncData
 f_qw:Addr
 d_qw:FuncData
 f_qx:Addr
 d_qx:FuncData
 f_qy:Addr
 d_qy:FuncData
 f_qz:Addr
 d_qz:FuncData
 f_qA:Addr
 d_qA:FuncData
 f_qB:Addr
 d_qB:FuncData
 f_qC:Addr
 d_qC:FuncData
 f_qD:Addr
 d_qD:FuncData
 f_qE:Addr
 d_qE:FuncData
 f_qF:Addr
 d_qF:FuncData
 f_qG:Addr
 d_qG:FuncData
 f_qH:Addr
 d_qH:FuncData
 f_qI:Addr
 d_qI:FuncData
 f_qJ:Addr
 d_qJ:FuncData
 f_qK:Addr
 d_qK:FuncData
 f_qL:Addr
 d_qL:FuncData
 f_qM:Addr
 d_qM:FuncData
 f_qN:Addr
 d_qN:FuncData
 f_qO:Addr
 d_qO:FuncData
 f_qP:Addr
 d_qP:FuncData
 f_qQ:Addr
 d_qQ:FuncData
 f_qR:Addr
 d_qR:FuncData
 f_qS:Addr
 d_qS:FuncData
 f_qT:Addr
 d_qT:FuncData
 f_qU:Addr
 d_qU:FuncData
 f_qV:Addr
 d_qV:FuncData
 f_qW:Addr
 d_qW:FuncData
 f_qX:Addr
 d_qX:FuncData
 f_qY:Addr
 d_qY:FuncData
 f_qZ:Addr
 d_qZ:FuncData
 f_qa0:Addr
 d_qa0:FuncData
 f_qa1:Addr
 d_qa1:FuncData
 f_qa2:Addr
 d_qa2:FuncData
 c_Num:Addr
 c_Name:Addr
 c_Two:Addr
 c_Mod:Addr
 c_Less:Addr
 c_Program:Addr
 c_Web:Addr
 t_START_NAMES:Addr
 t_SEND_NAMES:Addr
 t_RENEW_NAMES:Addr
 t_TWO_WORDS:Addr
 t_MOST_WORDS:Tok
 t_MOST_DEEP:Tok
 t_MOST_HANDS:Tok
 t_LAST_HAND:Tok
structure Txt (w:World) (K:PySem.W.Frag) (mg:Str→Option Value) (a:Ad):Prop where
 n_len:mg "len" = none
 n_int:mg "int" = none
 n_min:mg "min" = none
 n_max:mg "max" = none
 n_range:mg "range" = none
 n_isinstance:mg "isinstance" = none
 n_list:mg "list" = none
 n_dict:mg "dict" = none
 n_abs:mg "abs" = none
 n_sorted:mg "sorted" = none
 n_str:mg "str" = none
 n_sum:mg "sum" = none
 n_bool:mg "bool" = none
 n_tuple:mg "tuple" = none
 n_ValueError:mg "ValueError" = none
 F_qa:Fun K "first_worths" "first_worths" Z1 a.f_qa a.d_qa
 b_qa:Binds K a.d_qa ["web", "program"] []
 g_qa:mg "first_worths" = some (.ref a.f_qa)
 F_qb:Fun K "heard_in" "heard_in" Z0 a.f_qb a.d_qb
 b_qb:Binds K a.d_qb ["web", "program", "worths", "turn"] []
 g_qb:mg "heard_in" = some (.ref a.f_qb)
 F_qc:Fun K "worths_behind" "worths_behind" ZZ a.f_qc a.d_qc
 b_qc:Binds K a.d_qc ["web", "program", "worths", "turn", "heard"] []
 g_qc:mg "worths_behind" = some (.ref a.f_qc)
 F_qd:Fun K "run_pieces" "run_pieces" ZY a.f_qd a.d_qd
 b_qd:Binds K a.d_qd ["pieces", "program"] []
 g_qd:mg "run_pieces" = some (.ref a.f_qd)
 F_qe:Fun K "worths_by_pieces" "worths_by_pieces" ZX a.f_qe a.d_qe
 b_qe:Binds K a.d_qe ["pieces", "program"] []
 g_qe:mg "worths_by_pieces" = some (.ref a.f_qe)
 F_qf:Fun K "heard_by_pieces" "heard_by_pieces" ZW a.f_qf a.d_qf
 b_qf:Binds K a.d_qf ["pieces", "program"] []
 g_qf:mg "heard_by_pieces" = some (.ref a.f_qf)
 F_qg:Fun K "plain_worths" "plain_worths" ZV a.f_qg a.d_qg
 b_qg:Binds K a.d_qg ["web", "program", "rounds"] []
 g_qg:mg "plain_worths" = some (.ref a.f_qg)
 F_qh:Fun K "plain_heard" "plain_heard" ZU a.f_qh a.d_qh
 b_qh:Binds K a.d_qh ["web", "program", "rounds"] []
 g_qh:mg "plain_heard" = some (.ref a.f_qh)
 F_qi:Fun K "is_whole" "is_whole" ZT a.f_qi a.d_qi
 b_qi:Binds K a.d_qi ["value"] []
 g_qi:mg "is_whole" = some (.ref a.f_qi)
 F_qj:Fun K "is_short_number" "is_short_number" ZS a.f_qj a.d_qj
 b_qj:Binds K a.d_qj ["value"] []
 g_qj:mg "is_short_number" = some (.ref a.f_qj)
 F_qk:Fun K "is_word_of" "is_word_of" ZR a.f_qk a.d_qk
 b_qk:Binds K a.d_qk ["word", "words"] []
 g_qk:mg "is_word_of" = some (.ref a.f_qk)
 F_ql:Fun K "is_divisor" "is_divisor" ZQ a.f_ql a.d_ql
 b_ql:Binds K a.d_ql ["number"] []
 g_ql:mg "is_divisor" = some (.ref a.f_ql)
 F_qm:Fun K "are_sound" "are_sound" ZP a.f_qm a.d_qm
 b_qm:Binds K a.d_qm ["parts", "names", "deep"] []
 g_qm:mg "are_sound" = some (.ref a.f_qm)
 F_qn:Fun K "is_sound" "is_sound" ZO a.f_qn a.d_qn
 b_qn:Binds K a.d_qn ["expr", "names", "deep"] []
 g_qn:mg "is_sound" = some (.ref a.f_qn)
 F_qo:Fun K "count_words" "count_words" uR a.f_qo a.d_qo
 b_qo:Binds K a.d_qo ["exprs"] []
 g_qo:mg "count_words" = some (.ref a.f_qo)
 F_qp:Fun K "are_hands" "are_hands" ZN a.f_qp a.d_qp
 b_qp:Binds K a.d_qp ["hands"] []
 g_qp:mg "are_hands" = some (.ref a.f_qp)
 F_qq:Fun K "is_line" "is_line" ZM a.f_qq a.d_qq
 b_qq:Binds K a.d_qq ["line", "hands"] []
 g_qq:mg "is_line" = some (.ref a.f_qq)
 F_qr:Fun K "are_lines" "are_lines" ZL a.f_qr a.d_qr
 b_qr:Binds K a.d_qr ["lines", "hands"] []
 g_qr:mg "are_lines" = some (.ref a.f_qr)
 F_qs:Fun K "near_by_hand" "near_by_hand" ZK a.f_qs a.d_qs
 b_qs:Binds K a.d_qs ["hands", "lines"] []
 g_qs:mg "near_by_hand" = some (.ref a.f_qs)
 F_qt:Fun K "_law_cell_at" "_law_cell_at" ZJ a.f_qt a.d_qt
 b_qt:Binds K a.d_qt ["_law_script", "_law_k"] []
 g_qt:mg "_law_cell_at" = some (.ref a.f_qt)
 F_qu:Fun K "_law_draws" "_law_draws" ZI a.f_qu a.d_qu
 b_qu:Binds K a.d_qu ["_law_cell", "_law_many"] []
 g_qu:mg "_law_draws" = some (.ref a.f_qu)
 F_qv:Fun K "_law_take" "_law_take" uQ a.f_qv a.d_qv
 b_qv:Binds K a.d_qv ["_law_xs", "_law_size"] []
 g_qv:mg "_law_take" = some (.ref a.f_qv)
 F_qw:Fun K "_law_hands" "_law_hands" ZH a.f_qw a.d_qw
 b_qw:Binds K a.d_qw ["_law_xs", "_law_most"] []
 g_qw:mg "_law_hands" = some (.ref a.f_qw)
 F_qx:Fun K "_law_lines" "_law_lines" ZG a.f_qx a.d_qx
 b_qx:Binds K a.d_qx ["_law_xs", "_law_hands_here"] []
 g_qx:mg "_law_lines" = some (.ref a.f_qx)
 F_qy:Fun K "_law_expr" "_law_expr" ZF a.f_qy a.d_qy
 b_qy:Binds K a.d_qy ["_law_xs", "_law_names", "_law_deep"] []
 g_qy:mg "_law_expr" = some (.ref a.f_qy)
 F_qz:Fun K "_law_program" "_law_program" ZE a.f_qz a.d_qz
 b_qz:Binds K a.d_qz ["_law_cell"] []
 g_qz:mg "_law_program" = some (.ref a.f_qz)
 F_qA:Fun K "_law_heard_names" "_law_heard_names" Yn a.f_qA a.d_qA
 b_qA:Binds K a.d_qA [] []
 g_qA:mg "_law_heard_names" = some (.ref a.f_qA)
 F_qB:Fun K "_law_made" "_law_made" Ym a.f_qB a.d_qB
 b_qB:Binds K a.d_qB ["_law_told"] []
 g_qB:mg "_law_made" = some (.ref a.f_qB)
 F_qC:Fun K "_law_program_made" "_law_program_made" Yl a.f_qC a.d_qC
 b_qC:Binds K a.d_qC ["_law_program_here"] []
 g_qC:mg "_law_program_made" = some (.ref a.f_qC)
 F_qD:Fun K "_law_copied" "_law_copied" Yk a.f_qD a.d_qD
 b_qD:Binds K a.d_qD ["_law_worths", "_law_heard"] []
 g_qD:mg "_law_copied" = some (.ref a.f_qD)
 F_qE:Fun K "law" "law" uU a.f_qE a.d_qE
 b_qE:Binds K a.d_qE ["_law_script"] []
 b0_qE:∀ (s:Shared) (u:Value),BindsTo s a.d_qE ⟨[u],[]⟩ [("_law_script",u)]
 g_qE:mg "law" = some (.ref a.f_qE)
 F_qF:Fun K "__init__" "Num.__init__" Yj a.f_qF a.d_qF
 b_qF:Binds K a.d_qF ["self", "value"] []
 F_qG:Fun K "reckon" "Num.reckon" Yi a.f_qG a.d_qG
 b_qG:Binds K a.d_qG ["self", "worths"] []
 mt_qG:Meth K a.c_Num "reckon" a.f_qG
 F_qH:Fun K "words" "Num.words" Yh a.f_qH a.d_qH
 b_qH:Binds K a.d_qH ["self"] []
 mt_qH:Meth K a.c_Num "words" a.f_qH
 F_qI:Fun K "__init__" "Name.__init__" Yg a.f_qI a.d_qI
 b_qI:Binds K a.d_qI ["self", "word"] []
 F_qJ:Fun K "reckon" "Name.reckon" Yf a.f_qJ a.d_qJ
 b_qJ:Binds K a.d_qJ ["self", "worths"] []
 mt_qJ:Meth K a.c_Name "reckon" a.f_qJ
 F_qK:Fun K "words" "Name.words" Ye a.f_qK a.d_qK
 b_qK:Binds K a.d_qK ["self"] []
 mt_qK:Meth K a.c_Name "words" a.f_qK
 F_qL:Fun K "__init__" "Two.__init__" Yd a.f_qL a.d_qL
 b_qL:Binds K a.d_qL ["self", "word", "one", "other"] []
 F_qM:Fun K "reckon" "Two.reckon" Yc a.f_qM a.d_qM
 b_qM:Binds K a.d_qM ["self", "worths"] []
 mt_qM:Meth K a.c_Two "reckon" a.f_qM
 F_qN:Fun K "words" "Two.words" Yb a.f_qN a.d_qN
 b_qN:Binds K a.d_qN ["self"] []
 mt_qN:Meth K a.c_Two "words" a.f_qN
 F_qO:Fun K "__init__" "Mod.__init__" Ya a.f_qO a.d_qO
 b_qO:Binds K a.d_qO ["self", "inner", "number"] []
 F_qP:Fun K "reckon" "Mod.reckon" Z9 a.f_qP a.d_qP
 b_qP:Binds K a.d_qP ["self", "worths"] []
 mt_qP:Meth K a.c_Mod "reckon" a.f_qP
 F_qQ:Fun K "words" "Mod.words" Z8 a.f_qQ a.d_qQ
 b_qQ:Binds K a.d_qQ ["self"] []
 mt_qQ:Meth K a.c_Mod "words" a.f_qQ
 F_qR:Fun K "__init__" "Less.__init__" Z7 a.f_qR a.d_qR
 b_qR:Binds K a.d_qR ["self", "one", "other", "third", "fourth"] []
 F_qS:Fun K "reckon" "Less.reckon" Z6 a.f_qS a.d_qS
 b_qS:Binds K a.d_qS ["self", "worths"] []
 mt_qS:Meth K a.c_Less "reckon" a.f_qS
 F_qT:Fun K "words" "Less.words" Z5 a.f_qT a.d_qT
 b_qT:Binds K a.d_qT ["self"] []
 mt_qT:Meth K a.c_Less "words" a.f_qT
 F_qU:Fun K "__init__" "Program.__init__" Z4 a.f_qU a.d_qU
 b_qU:Binds K a.d_qU ["self", "start", "send", "when", "renew"] []
 F_qV:Fun K "first_worth" "Program.first_worth" uT a.f_qV a.d_qV
 b_qV:Binds K a.d_qV ["self", "hand", "lines"] []
 mt_qV:Meth K a.c_Program "first_worth" a.f_qV
 F_qW:Fun K "word_to" "Program.word_to" vL a.f_qW a.d_qW
 b_qW:Binds K a.d_qW ["self", "worth", "hand", "turn", "lines", "other"] []
 mt_qW:Meth K a.c_Program "word_to" a.f_qW
 F_qX:Fun K "next_worth" "Program.next_worth" uS a.f_qX a.d_qX
 b_qX:Binds K a.d_qX ["self", "worth", "hand", "turn", "lines", "heard"] []
 mt_qX:Meth K a.c_Program "next_worth" a.f_qX
 F_qY:Fun K "__init__" "Web.__init__" Z3 a.f_qY a.d_qY
 b_qY:Binds K a.d_qY ["self", "hands", "lines"] []
 F_qZ:Fun K "hands" "Web.hands" Z2 a.f_qZ a.d_qZ
 b_qZ:Binds K a.d_qZ ["self"] []
 mt_qZ:Meth K a.c_Web "hands" a.f_qZ
 F_qa0:Fun K "lines" "Web.lines" uq a.f_qa0 a.d_qa0
 b_qa0:Binds K a.d_qa0 ["self"] []
 mt_qa0:Meth K a.c_Web "lines" a.f_qa0
 F_qa1:Fun K "has_hand" "Web.has_hand" w8 a.f_qa1 a.d_qa1
 b_qa1:Binds K a.d_qa1 ["self", "hand"] []
 mt_qa1:Meth K a.c_Web "has_hand" a.f_qa1
 F_qa2:Fun K "neighbours" "Web.neighbours" w6 a.f_qa2 a.d_qa2
 b_qa2:Binds K a.d_qa2 ["self", "hand"] []
 mt_qa2:Meth K a.c_Web "neighbours" a.f_qa2
 g_Num:mg "Num" = some (.ref a.c_Num)
 cl_Num:Cls K a.c_Num
 mk_Num:Mk K a.c_Num a.f_qF
 ty_Num:∀ (H:Hp) (p dx:Addr) (fs:List (Str×V)),H p=some (.ins a.c_Num dx fs)→TyOf K H (.ref p) (.ref a.c_Num)
 na_Num_value:NoAttr K a.c_Num "value"
 g_Name:mg "Name" = some (.ref a.c_Name)
 cl_Name:Cls K a.c_Name
 mk_Name:Mk K a.c_Name a.f_qI
 ty_Name:∀ (H:Hp) (p dx:Addr) (fs:List (Str×V)),H p=some (.ins a.c_Name dx fs)→TyOf K H (.ref p) (.ref a.c_Name)
 na_Name_word:NoAttr K a.c_Name "word"
 g_Two:mg "Two" = some (.ref a.c_Two)
 cl_Two:Cls K a.c_Two
 mk_Two:Mk K a.c_Two a.f_qL
 ty_Two:∀ (H:Hp) (p dx:Addr) (fs:List (Str×V)),H p=some (.ins a.c_Two dx fs)→TyOf K H (.ref p) (.ref a.c_Two)
 na_Two_word:NoAttr K a.c_Two "word"
 na_Two_one:NoAttr K a.c_Two "one"
 na_Two_other:NoAttr K a.c_Two "other"
 g_Mod:mg "Mod" = some (.ref a.c_Mod)
 cl_Mod:Cls K a.c_Mod
 mk_Mod:Mk K a.c_Mod a.f_qO
 ty_Mod:∀ (H:Hp) (p dx:Addr) (fs:List (Str×V)),H p=some (.ins a.c_Mod dx fs)→TyOf K H (.ref p) (.ref a.c_Mod)
 na_Mod_inner:NoAttr K a.c_Mod "inner"
 na_Mod_number:NoAttr K a.c_Mod "number"
 g_Less:mg "Less" = some (.ref a.c_Less)
 cl_Less:Cls K a.c_Less
 mk_Less:Mk K a.c_Less a.f_qR
 ty_Less:∀ (H:Hp) (p dx:Addr) (fs:List (Str×V)),H p=some (.ins a.c_Less dx fs)→TyOf K H (.ref p) (.ref a.c_Less)
 na_Less_one:NoAttr K a.c_Less "one"
 na_Less_other:NoAttr K a.c_Less "other"
 na_Less_third:NoAttr K a.c_Less "third"
 na_Less_fourth:NoAttr K a.c_Less "fourth"
 g_Program:mg "Program" = some (.ref a.c_Program)
 cl_Program:Cls K a.c_Program
 mk_Program:Mk K a.c_Program a.f_qU
 ty_Program:∀ (H:Hp) (p dx:Addr) (fs:List (Str×V)),H p=some (.ins a.c_Program dx fs)→TyOf K H (.ref p) (.ref a.c_Program)
 na_Program_start:NoAttr K a.c_Program "start"
 na_Program_send:NoAttr K a.c_Program "send"
 na_Program_when:NoAttr K a.c_Program "when"
 na_Program_renew:NoAttr K a.c_Program "renew"
 g_Web:mg "Web" = some (.ref a.c_Web)
 cl_Web:Cls K a.c_Web
 mk_Web:Mk K a.c_Web a.f_qY
 ty_Web:∀ (H:Hp) (p dx:Addr) (fs:List (Str×V)),H p=some (.ins a.c_Web dx fs)→TyOf K H (.ref p) (.ref a.c_Web)
 na_Web_own_hands:NoAttr K a.c_Web "own_hands"
 na_Web_own_lines:NoAttr K a.c_Web "own_lines"
 na_Web_near:NoAttr K a.c_Web "near"
 k_Num_Num:PySem.W.kitOne K (.ref a.c_Num) (.ref a.c_Num)=some true
 k_Name_Num:PySem.W.kitOne K (.ref a.c_Name) (.ref a.c_Num)=some false
 k_Name_Name:PySem.W.kitOne K (.ref a.c_Name) (.ref a.c_Name)=some true
 k_Two_Num:PySem.W.kitOne K (.ref a.c_Two) (.ref a.c_Num)=some false
 k_Two_Name:PySem.W.kitOne K (.ref a.c_Two) (.ref a.c_Name)=some false
 k_Two_Two:PySem.W.kitOne K (.ref a.c_Two) (.ref a.c_Two)=some true
 k_Mod_Num:PySem.W.kitOne K (.ref a.c_Mod) (.ref a.c_Num)=some false
 k_Mod_Name:PySem.W.kitOne K (.ref a.c_Mod) (.ref a.c_Name)=some false
 k_Mod_Two:PySem.W.kitOne K (.ref a.c_Mod) (.ref a.c_Two)=some false
 k_Mod_Mod:PySem.W.kitOne K (.ref a.c_Mod) (.ref a.c_Mod)=some true
 k_Less_Num:PySem.W.kitOne K (.ref a.c_Less) (.ref a.c_Num)=some false
 k_Less_Name:PySem.W.kitOne K (.ref a.c_Less) (.ref a.c_Name)=some false
 k_Less_Two:PySem.W.kitOne K (.ref a.c_Less) (.ref a.c_Two)=some false
 k_Less_Mod:PySem.W.kitOne K (.ref a.c_Less) (.ref a.c_Mod)=some false
 k_Less_Less:PySem.W.kitOne K (.ref a.c_Less) (.ref a.c_Less)=some true
 k_tint_tint:PySem.W.kitOne K (.type "int") (.type "int")=some true
 k_tint_tbool:PySem.W.kitOne K (.type "int") (.type "bool")=some false
 k_tstr_tstr:PySem.W.kitOne K (.type "str") (.type "str")=some true
 k_ttuple_ttuple:PySem.W.kitOne K (.type "tuple") (.type "tuple")=some true
 k_tint_ttuple:PySem.W.kitOne K (.type "int") (.type "tuple")=some false
 k_tstr_ttuple:PySem.W.kitOne K (.type "str") (.type "tuple")=some false
 k_tint_tstr:PySem.W.kitOne K (.type "int") (.type "str")=some false
 k_tstr_tint:PySem.W.kitOne K (.type "str") (.type "int")=some false
 k_tstr_tbool:PySem.W.kitOne K (.type "str") (.type "bool")=some false
 k_Program_Program:PySem.W.kitOne K (.ref a.c_Program) (.ref a.c_Program)=some true
 k_tNoneType_tbool:PySem.W.kitOne K (.type "NoneType") (.type "bool")=some false
 k_tlist_tlist:PySem.W.kitOne K (.type "list") (.type "list")=some true
 g_START_NAMES:mg "START_NAMES" = some (.ref a.t_START_NAMES)
 s_START_NAMES:∀ H:Hp,SqT K H a.t_START_NAMES [V.str "me",V.str "lines"]
 g_SEND_NAMES:mg "SEND_NAMES" = some (.ref a.t_SEND_NAMES)
 s_SEND_NAMES:∀ H:Hp,SqT K H a.t_SEND_NAMES [V.str "worth",V.str "me",V.str "round",V.str "lines",V.str "to"]
 g_RENEW_NAMES:mg "RENEW_NAMES" = some (.ref a.t_RENEW_NAMES)
 s_RENEW_NAMES:∀ H:Hp,SqT K H a.t_RENEW_NAMES [V.str "worth",V.str "me",V.str "round",V.str "lines",V.str "sum",V.str "least",V.str "most",V.str "count"]
 g_TWO_WORDS:mg "TWO_WORDS" = some (.ref a.t_TWO_WORDS)
 s_TWO_WORDS:∀ H:Hp,SqT K H a.t_TWO_WORDS [V.str "add",V.str "sub",V.str "min",V.str "max"]
 g_MOST_WORDS:mg "MOST_WORDS" = some (.int 60 a.t_MOST_WORDS)
 g_MOST_DEEP:mg "MOST_DEEP" = some (.int 8 a.t_MOST_DEEP)
 g_MOST_HANDS:mg "MOST_HANDS" = some (.int 12 a.t_MOST_HANDS)
 g_LAST_HAND:mg "LAST_HAND" = some (.int 99 a.t_LAST_HAND)
def Made (a:Ad) (H:Hp):Ex→V→Prop
 |.num i,v=>∃ p dx,v=.ref p∧H p=some (.ins a.c_Num dx [("value",.int i)])
 |.name x,v=>∃ p dx,v=.ref p∧H p=some (.ins a.c_Name dx [("word",.str x)])
 |.two w e f,v=>∃ p dx u1 u2,v=.ref p∧H p=some (.ins a.c_Two dx [("word",.str w),("one",u1),("other",u2)])∧Made a H e u1∧Made a H f u2
 |.mod e n,v=>∃ p dx u1,v=.ref p∧H p=some (.ins a.c_Mod dx [("inner",u1),("number",.int n)])∧Made a H e u1
 |.less e f g h,v=>∃ p dx u1 u2 u3 u4,v=.ref p∧H p=some (.ins a.c_Less dx [("one",u1),("other",u2),("third",u3),("fourth",u4)])∧Made a H e u1∧Made a H f u2∧Made a H g u3∧Made a H h u4
theorem Made.mono {a:Ad}{H H':Hp}(k:∀ b C dx fs,H b=some (.ins C dx fs)→H' b=some (.ins C dx fs)):∀ {e:Ex}{v:V},Made a H e v→Made a H' e v
 |.num _,_,⟨p,dx,e,h⟩=>⟨p,dx,e,k _ _ _ _ h⟩
 |.name _,_,⟨p,dx,e,h⟩=>⟨p,dx,e,k _ _ _ _ h⟩
 |.two _ _ _,_,⟨p,dx,u1,u2,e,h,t1,t2⟩=>⟨p,dx,u1,u2,e,k _ _ _ _ h,t1.mono k,t2.mono k⟩
 |.mod _ _,_,⟨p,dx,u1,e,h,t1⟩=>⟨p,dx,u1,e,k _ _ _ _ h,t1.mono k⟩
 |.less _ _ _ _,_,⟨p,dx,u1,u2,u3,u4,e,h,t1,t2,t3,t4⟩=>⟨p,dx,u1,u2,u3,u4,e,k _ _ _ _ h,t1.mono k,t2.mono k,t3.mono k,t4.mono k⟩
theorem Made.same {a:Ad}{H H':Hp}(k:Same H H'){e:Ex}{v:V}(t:Made a H e v):Made a H' e v:=t.mono fun b C dx fs h=>k b _ h
section
variable {P:Program}{w:World}{K:PySem.W.Frag}{mg:Str→Option Value}{base:Heap}{a:Ad}
def zhn (C:Addr) (x:Str):Sp:=fun vs H Q _=>∃ (p dx:Addr) (v:V),vs=[.ref p,v]∧H p=some (.ins C dx [])∧Q .non (upd H p (.ins C dx [(x,v)]))
def zuz (C:Addr) (x y:Str):Sp:=fun vs H Q _=>∃ (p dx:Addr) (v u:V),vs=[.ref p,v,u]∧H p=some (.ins C dx [])∧Q .non (upd H p (.ins C dx [(x,v),(y,u)]))
def zuy (C:Addr) (x y z:Str):Sp:=fun vs H Q _=>∃ (p dx:Addr) (v u t:V),vs=[.ref p,v,u,t]∧H p=some (.ins C dx [])∧Q .non (upd H p (.ins C dx [(x,v),(y,u),(z,t)]))
def zux (C:Addr) (x y z o:Str):Sp:=fun vs H Q _=>∃ (p dx:Addr) (v u t r:V),vs=[.ref p,v,u,t,r]∧H p=some (.ins C dx [])∧Q .non (upd H p (.ins C dx [(x,v),(y,u),(z,t),(o,r)]))
theorem vW (T:Txt w K mg a):FnOk P w K mg base CX0 1 a.f_qF a.d_qF ["self", "value"] (zhn a.c_Num "value"):=by
 refine T.F_qF.ok zjL (fun vs H Q E h=>?_) (fun cdv A outer s H vs Q E hr h=>?_)
 ·obtain⟨p,dx,v,rfl,_⟩:=h
  rfl
 ·obtain⟨p,dx,v,rfl,hp,k⟩:=h
  refine zB (ze (zL (w_pv 0) (w_pv 1) rfl)) ?_
  refine⟨_,rfl,_,rfl,p,a.c_Num,dx,_,rfl,hp,T.cl_Num,T.na_Num_value,(by show 0<1000;decide),?_⟩
  exact k
theorem vm (T:Txt w K mg a):FnOk P w K mg base CX0 1 a.f_qI a.d_qI ["self", "word"] (zhn a.c_Name "word"):=by
 refine T.F_qI.ok zjI (fun vs H Q E h=>?_) (fun cdv A outer s H vs Q E hr h=>?_)
 ·obtain⟨p,dx,v,rfl,_⟩:=h
  rfl
 ·obtain⟨p,dx,v,rfl,hp,k⟩:=h
  refine zB (ze (zL (w_pv 0) (w_pv 1) rfl)) ?_
  refine⟨_,rfl,_,rfl,p,a.c_Name,dx,_,rfl,hp,T.cl_Name,T.na_Name_word,(by show 0<1000;decide),?_⟩
  exact k
theorem vV (T:Txt w K mg a):FnOk P w K mg base CX0 1 a.f_qL a.d_qL ["self", "word", "one", "other"] (zuy a.c_Two "word" "one" "other"):=by
 refine T.F_qL.ok zjF (fun vs H Q E h=>?_) (fun cdv A outer s H vs Q E hr h=>?_)
 ·obtain⟨p,dx,v,u,t,rfl,_⟩:=h
  rfl
 ·obtain⟨p,dx,v,u,t,rfl,hp,k⟩:=h
  refine zB (w_pss_cons (zL (w_pv 0) (w_pv 1) rfl)
   (w_pss_cons (zL (w_pv 0) (w_pv 2) rfl)
   (ze (zL (w_pv 0) (w_pv 3) rfl)))) ?_
  refine⟨_,rfl,_,rfl,p,a.c_Two,dx,_,rfl,hp,T.cl_Two,T.na_Two_word,(by show 0<1000;decide),?_⟩
  refine⟨_,rfl,_,rfl,p,a.c_Two,dx,_,rfl,upd_same,T.cl_Two,T.na_Two_one,(by show 1<1000;decide),?_⟩
  refine⟨_,rfl,_,rfl,p,a.c_Two,dx,_,rfl,upd_same,T.cl_Two,T.na_Two_other,(by show 2<1000;decide),?_⟩
  rw[yg,yg]
  exact k
theorem vX (T:Txt w K mg a):FnOk P w K mg base CX0 1 a.f_qO a.d_qO ["self", "inner", "number"] (zuz a.c_Mod "inner" "number"):=by
 refine T.F_qO.ok zjD (fun vs H Q E h=>?_) (fun cdv A outer s H vs Q E hr h=>?_)
 ·obtain⟨p,dx,v,u,rfl,_⟩:=h
  rfl
 ·obtain⟨p,dx,v,u,rfl,hp,k⟩:=h
  refine zB (w_pss_cons (zL (w_pv 0) (w_pv 1) rfl)
   (ze (zL (w_pv 0) (w_pv 2) rfl))) ?_
  refine⟨_,rfl,_,rfl,p,a.c_Mod,dx,_,rfl,hp,T.cl_Mod,T.na_Mod_inner,(by show 0<1000;decide),?_⟩
  refine⟨_,rfl,_,rfl,p,a.c_Mod,dx,_,rfl,upd_same,T.cl_Mod,T.na_Mod_number,(by show 1<1000;decide),?_⟩
  rw[yg]
  exact k
theorem vo (T:Txt w K mg a):FnOk P w K mg base CX0 1 a.f_qR a.d_qR ["self", "one", "other", "third", "fourth"] (zux a.c_Less "one" "other" "third" "fourth"):=by
 refine T.F_qR.ok zjA (fun vs H Q E h=>?_) (fun cdv A outer s H vs Q E hr h=>?_)
 ·obtain⟨p,dx,v,u,t,r,rfl,_⟩:=h
  rfl
 ·obtain⟨p,dx,v,u,t,r,rfl,hp,k⟩:=h
  refine zB (w_pss_cons (zL (w_pv 0) (w_pv 1) rfl)
   (w_pss_cons (zL (w_pv 0) (w_pv 2) rfl)
   (w_pss_cons (zL (w_pv 0) (w_pv 3) rfl)
   (ze (zL (w_pv 0) (w_pv 4) rfl))))) ?_
  refine⟨_,rfl,_,rfl,p,a.c_Less,dx,_,rfl,hp,T.cl_Less,T.na_Less_one,(by show 0<1000;decide),?_⟩
  refine⟨_,rfl,_,rfl,p,a.c_Less,dx,_,rfl,upd_same,T.cl_Less,T.na_Less_other,(by show 1<1000;decide),?_⟩
  refine⟨_,rfl,_,rfl,p,a.c_Less,dx,_,rfl,upd_same,T.cl_Less,T.na_Less_third,(by show 2<1000;decide),?_⟩
  refine⟨_,rfl,_,rfl,p,a.c_Less,dx,_,rfl,upd_same,T.cl_Less,T.na_Less_fourth,(by show 3<1000;decide),?_⟩
  rw[yg,yg,yg]
  exact k
def zT (a:Ad) (n:Nat) (Kd:Ex→Prop):Sp:=fun vs H Q _=>∃ (e:Ex) (r:V) (d:Addr) (kvs:List (Key×V)) (names:List Str),vs=[r,.ref d]∧Kd e∧Made a H e r∧e.dep≤n∧e.ok names∧H d=some (.dK kvs)∧Has names kvs∧Q (.int (e.val (rho kvs))) H
abbrev Wy (e:Ex):Prop:=∃ i,e=.num i
abbrev uD (e:Ex):Prop:=∃ x,e=.name x
abbrev Ww (e:Ex):Prop:=∃ w e1 e2,e=.two w e1 e2
abbrev Wz (e:Ex):Prop:=∃ e1 n,e=.mod e1 n
abbrev uE (e:Ex):Prop:=∃ e1 e2 e3 e4,e=.less e1 e2 e3 e4
structure Reckons (P:Program) (w:World) (K:PySem.W.Frag) (mg:Str→Option Value) (base:Heap) (a:Ad) (n:Nat):Prop where
 num:FnOk P w K mg base CX0 (n+1) a.f_qG a.d_qG ["self", "worths"] (zT a n Wy)
 name:FnOk P w K mg base CX0 (n+1) a.f_qJ a.d_qJ ["self", "worths"] (zT a n uD)
 two:FnOk P w K mg base CX0 (n+1) a.f_qM a.d_qM ["self", "worths"] (zT a n Ww)
 mod:FnOk P w K mg base CX0 (n+1) a.f_qP a.d_qP ["self", "worths"] (zT a n Wz)
 less:FnOk P w K mg base CX0 (n+1) a.f_qS a.d_qS ["self", "worths"] (zT a n uE)
theorem Reckons.call {n:Nat}(R:Reckons P w K mg base a n) (T:Txt w K mg a){A:Around}(hr:Room (n+1) A){H:Hp}{e:Ex}{x:V}{d:Addr}{kvs:List (Key×V)}{names:List Str}(hM:Made a H e x) (hd:e.dep≤n) (ho:e.ok names) (h1:H d=some (.dK kvs)) (h2:Has names kvs) :
  ∃ (p C dx:Addr) (fs:List (Str×V)) (f:Addr) (fd:FuncData) (ps:List Str) (k:Nat) (sp:Sp),x=.ref p∧H p=some (.ins C dx fs)∧fs.lookup ("reckon" : Str)=none∧Cls K C∧Meth K C "reckon" f∧FnOk P w K mg base CX0 k f fd ps sp∧Room k A∧Binds K fd ps [] ∧
   ∀ Q:VK,Q (.int (e.val (rho kvs))) H→sp (x::([.ref d]++[])) H Q E0:=by
 cases e with
 |num i =>
  obtain⟨p,dx,rfl,hp⟩:=id hM
  exact⟨p,_,dx,_,_,_,_,_,_,rfl,hp,rfl,T.cl_Num,T.mt_qG,R.num,hr,T.b_qG,fun Q q=>⟨_,_,_,_,_,rfl,⟨_,rfl⟩,hM,hd,ho,h1,h2,q⟩⟩
 |name i =>
  obtain⟨p,dx,rfl,hp⟩:=id hM
  exact⟨p,_,dx,_,_,_,_,_,_,rfl,hp,rfl,T.cl_Name,T.mt_qJ,R.name,hr,T.b_qJ,fun Q q=>⟨_,_,_,_,_,rfl,⟨_,rfl⟩,hM,hd,ho,h1,h2,q⟩⟩
 |two i e1 e2 =>
  obtain⟨p,dx,u1,u2,rfl,hp,_⟩:=id hM
  exact⟨p,_,dx,_,_,_,_,_,_,rfl,hp,rfl,T.cl_Two,T.mt_qM,R.two,hr,T.b_qM,fun Q q=>⟨_,_,_,_,_,rfl,⟨_,_,_,rfl⟩,hM,hd,ho,h1,h2,q⟩⟩
 |mod e1 i =>
  obtain⟨p,dx,u1,rfl,hp,_⟩:=id hM
  exact⟨p,_,dx,_,_,_,_,_,_,rfl,hp,rfl,T.cl_Mod,T.mt_qP,R.mod,hr,T.b_qP,fun Q q=>⟨_,_,_,_,_,rfl,⟨_,_,rfl⟩,hM,hd,ho,h1,h2,q⟩⟩
 |less e1 e2 e3 e4 =>
  obtain⟨p,dx,u1,u2,u3,u4,rfl,hp,_⟩:=id hM
  exact⟨p,_,dx,_,_,_,_,_,_,rfl,hp,rfl,T.cl_Less,T.mt_qS,R.less,hr,T.b_qS,fun Q q=>⟨_,_,_,_,_,rfl,⟨_,_,_,_,rfl⟩,hM,hd,ho,h1,h2,q⟩⟩
theorem wG (T:Txt w K mg a) (n:Nat):FnOk P w K mg base CX0 (n+1) a.f_qG a.d_qG ["self", "worths"] (zT a n Wy):=by
 refine T.F_qG.ok zjK (fun vs H Q E h=>?_) (fun cdv A outer s H vs Q E hr h=>?_)
 ·obtain⟨e,r,d,kvs,names,rfl,_⟩:=h
  rfl
 ·obtain⟨e,r,d,kvs,names,rfl,⟨i,rfl⟩,⟨p,dx,rfl,hp⟩,_,_,_,_,k⟩:=h
  refine zB (ze (zg (w_pe_fld (w_pv 0) rfl))) ?_
  exact⟨_,rfl,p,_,dx,_,_,rfl,hp,T.cl_Num,T.na_Num_value,rfl,k⟩
theorem xX (T:Txt w K mg a) (n:Nat):FnOk P w K mg base CX0 (n+1) a.f_qJ a.d_qJ ["self", "worths"] (zT a n uD):=by
 refine T.F_qJ.ok zjH (fun vs H Q E h=>?_) (fun cdv A outer s H vs Q E hr h=>?_)
 ·obtain⟨e,r,d,kvs,names,rfl,_⟩:=h
  rfl
 ·obtain⟨e,r,d,kvs,names,rfl,⟨x,rfl⟩,⟨p,dx,rfl,hp⟩,_,ho,hd,hh,k⟩:=h
  have hu:=xp hr
  refine zB (ze (zg (yk hu (w_pv 1) (w_pe_fld (w_pv 0) rfl) (fun _ _=>rfl)))) ?_
  refine⟨_,rfl,_,rfl,p,_,dx,_,_,rfl,hp,T.cl_Name,T.na_Name_word,rfl,d,_,rfl,?_,k⟩
  have:=hh.at (show x∈names from ho)
  exact this ▸ DGet.k (k:=Sum.inr x) hd
theorem wF (T:Txt w K mg a){n:Nat}(R:Reckons P w K mg base a n):FnOk P w K mg base CX0 (n+2) a.f_qM a.d_qM ["self", "worths"] (zT a (n+1) Ww):=by
 refine T.F_qM.ok sc_qM (fun vs H Q E h=>?_) (fun cdv A outer s H vs Q E hr h=>?_)
 ·obtain⟨e,r,d,kvs,names,rfl,_⟩:=h
  rfl
 ·obtain⟨e,r,d,kvs,names,rfl,⟨wd,e1,e2,rfl⟩,⟨p,dx,u1,u2,rfl,hp,m1,m2⟩,hdep,⟨hw,o1,o2⟩,hd,hh,k⟩:=h
  have d1:e1.dep≤n:=by have:=Nat.le_max_left e1.dep e2.dep;have:max e1.dep e2.dep+1≤n+1:=hdep;omega
  have d2:e2.dep≤n:=by have:=Nat.le_max_right e1.dep e2.dep;have:max e1.dep e2.dep+1≤n+1:=hdep;omega
  refine zB (w_pss_cons (zi (i:=2) sc_qM.nd rfl (Or.inl rfl) (w_pe_methD (w_pe_fld (w_pv 0) rfl) (w_pa_N (w_pv 1) w_pa_nil)))
   (w_pss_cons (zi (i:=3) sc_qM.nd rfl (Or.inl rfl) (w_pe_methD (w_pe_fld (w_pv 0) rfl) (w_pa_N (w_pv 1) w_pa_nil)))
   (w_pss_cons (w_ps_if (w_pt_cmpR yr (w_pe_fld (w_pv 0) rfl) w_pe_str (zv _))
    (ze (zg (zh ym (w_pv 2) (w_pv 3))))
    zk)
   (w_pss_cons (w_ps_if (w_pt_cmpR yr (w_pe_fld (w_pv 0) rfl) w_pe_str (zv _))
    (ze (zg (zh yf (w_pv 2) (w_pv 3))))
    zk)
   (w_pss_cons (w_ps_if (w_pt_cmpR yr (w_pe_fld (w_pv 0) rfl) w_pe_str (zv _))
    (ze (zg (w_pe_callB (Xd rfl) (by rfl) T.n_min bt_min (w_pa_N (w_pv 2) (w_pa_N (w_pv 3) w_pa_nil)))))
    zk)
   (ze (zg (w_pe_callB (Xe rfl) (by rfl) T.n_max bt_max (w_pa_N (w_pv 2) (w_pa_N (w_pv 3) w_pa_nil)))))))))) ?_
  -- one=self.one.reckon(worths)
  refine⟨_,rfl,p,_,dx,_,_,rfl,hp,T.cl_Two,T.na_Two_one,rfl,?_⟩
  obtain⟨p1,c1,x1,f1,f2,f3,f4,f5,f6,q1,q2,q3,q4,q5,q6,q7,q8,q9⟩:=R.call T hr m1 d1 o1 hd hh
  refine⟨p1,c1,x1,f1,f2,f3,f4,f5,f6,q1,q2,q3,q4,q5,q6,q7,q8,_,rfl,q9 _ ?_⟩
  -- other=self.other.reckon(worths)
  refine⟨_,rfl,p,_,dx,_,_,rfl,hp,T.cl_Two,T.na_Two_other,rfl,?_⟩
  obtain⟨p1,c1,x1,f1,f2,f3,f4,f5,f6,q1,q2,q3,q4,q5,q6,q7,q8,q9⟩:=R.call T hr m2 d2 o2 hd hh
  refine⟨p1,c1,x1,f1,f2,f3,f4,f5,f6,q1,q2,q3,q4,q5,q6,q7,q8,_,rfl,q9 _ ?_⟩
  have k':Q (.int (if wd = "add" then e1.val (rho kvs)+e2.val (rho kvs) else if wd = "sub" then e1.val (rho kvs)-e2.val (rho kvs) else if wd = "min" then(if e2.val (rho kvs)<e1.val (rho kvs) then e2.val (rho kvs) else e1.val (rho kvs)) else(if e2.val (rho kvs)>e1.val (rho kvs) then e2.val (rho kvs) else e1.val (rho kvs)))) H:=k
  generalize e1.val (rho kvs)=x1 at k' ⊢
  generalize e2.val (rho kvs)=x2 at k' ⊢
  -- if self.word == 'add':
  refine⟨_,rfl,p,_,dx,_,_,rfl,hp,T.cl_Two,T.na_Two_word,rfl,rfl,_,rfl,?_⟩
  refine ite2 (fun q=>?_) (fun q=>?_)
  ·have q':wd = "add" := by simpa using q
   rw[if_pos q'] at k'
   exact⟨_,rfl,_,rfl,_,_,rfl,rfl,k'⟩
  have q':¬ wd = "add" := by simpa using q
  rw[if_neg q'] at k'
  refine⟨_,rfl,p,_,dx,_,_,rfl,hp,T.cl_Two,T.na_Two_word,rfl,rfl,_,rfl,?_⟩
  refine ite2 (fun q=>?_) (fun q=>?_)
  ·have q':wd = "sub" := by simpa using q
   rw[if_pos q'] at k'
   exact⟨_,rfl,_,rfl,_,_,rfl,rfl,k'⟩
  have q':¬ wd = "sub" := by simpa using q
  rw[if_neg q'] at k'
  refine⟨_,rfl,p,_,dx,_,_,rfl,hp,T.cl_Two,T.na_Two_word,rfl,rfl,_,rfl,?_⟩
  refine ite2 (fun q=>?_) (fun q=>?_)
  ·have q':wd = "min" := by simpa using q
   rw[if_pos q'] at k'
   exact⟨_,rfl,_,rfl,_,_,rfl,k'⟩
  have q':¬ wd = "min" := by simpa using q
  rw[if_neg q'] at k'
  exact⟨_,rfl,_,rfl,_,_,rfl,k'⟩
theorem wI (T:Txt w K mg a){n:Nat}(R:Reckons P w K mg base a n):FnOk P w K mg base CX0 (n+2) a.f_qP a.d_qP ["self", "worths"] (zT a (n+1) Wz):=by
 refine T.F_qP.ok zjC (fun vs H Q E h=>?_) (fun cdv A outer s H vs Q E hr h=>?_)
 ·obtain⟨e,r,d,kvs,names,rfl,_⟩:=h
  rfl
 ·obtain⟨e,r,d,kvs,names,rfl,⟨e1,i,rfl⟩,⟨p,dx,u1,rfl,hp,m1⟩,hdep,⟨⟨hi,_⟩,o1⟩,hd,hh,k⟩:=h
  have d1:e1.dep≤n:=by have:e1.dep+1≤n+1:=hdep;omega
  refine zB (ze (zg (zh yU (w_pe_methD (w_pe_fld (w_pv 0) rfl) (w_pa_N (w_pv 1) w_pa_nil)) (w_pe_fld (w_pv 0) rfl)))) ?_
  refine⟨_,rfl,p,_,dx,_,_,rfl,hp,T.cl_Mod,T.na_Mod_inner,rfl,?_⟩
  obtain⟨p1,c1,x1,f1,f2,f3,f4,f5,f6,q1,q2,q3,q4,q5,q6,q7,q8,q9⟩:=R.call T hr m1 d1 o1 hd hh
  refine⟨p1,c1,x1,f1,f2,f3,f4,f5,f6,q1,q2,q3,q4,q5,q6,q7,q8,_,rfl,q9 _ ?_⟩
  exact⟨_,rfl,p,_,dx,_,_,rfl,hp,T.cl_Mod,T.na_Mod_number,rfl,_,_,rfl,rfl,(by omega),k⟩
theorem xY (T:Txt w K mg a){n:Nat}(R:Reckons P w K mg base a n):FnOk P w K mg base CX0 (n+2) a.f_qS a.d_qS ["self", "worths"] (zT a (n+1) uE):=by
 refine T.F_qS.ok zjz (fun vs H Q E h=>?_) (fun cdv A outer s H vs Q E hr h=>?_)
 ·obtain⟨e,r,d,kvs,names,rfl,_⟩:=h
  rfl
 ·obtain⟨e,r,d,kvs,names,rfl,⟨e1,e2,e3,e4,rfl⟩,⟨p,dx,u1,u2,u3,u4,rfl,hp,m1,m2,m3,m4⟩,hdep,⟨o1,o2,o3,o4⟩,hd,hh,k⟩:=h
  have hdep:max (max e1.dep e2.dep) (max e3.dep e4.dep)+1≤n+1:=hdep
  have d1:e1.dep≤n:=by omega
  have d2:e2.dep≤n:=by omega
  have d3:e3.dep≤n:=by omega
  have d4:e4.dep≤n:=by omega
  refine zB (w_pss_cons (w_ps_if (w_pt_cmpR xH (w_pe_methD (w_pe_fld (w_pv 0) rfl) (w_pa_N (w_pv 1) w_pa_nil)) (w_pe_methD (w_pe_fld (w_pv 0) rfl) (w_pa_N (w_pv 1) w_pa_nil)) (zv _))
    (ze (zg (w_pe_methD (w_pe_fld (w_pv 0) rfl) (w_pa_N (w_pv 1) w_pa_nil))))
    zk)
   (ze (zg (w_pe_methD (w_pe_fld (w_pv 0) rfl) (w_pa_N (w_pv 1) w_pa_nil))))) ?_
  refine⟨_,rfl,p,_,dx,_,_,rfl,hp,T.cl_Less,T.na_Less_one,rfl,?_⟩
  obtain⟨p1,c1,x1,f1,f2,f3,f4,f5,f6,q1,q2,q3,q4,q5,q6,q7,q8,q9⟩:=R.call T hr m1 d1 o1 hd hh
  refine⟨p1,c1,x1,f1,f2,f3,f4,f5,f6,q1,q2,q3,q4,q5,q6,q7,q8,_,rfl,q9 _ ?_⟩
  refine⟨_,rfl,p,_,dx,_,_,rfl,hp,T.cl_Less,T.na_Less_other,rfl,?_⟩
  obtain⟨p1,c1,x1,f1,f2,f3,f4,f5,f6,q1,q2,q3,q4,q5,q6,q7,q8,q9⟩:=R.call T hr m2 d2 o2 hd hh
  refine⟨p1,c1,x1,f1,f2,f3,f4,f5,f6,q1,q2,q3,q4,q5,q6,q7,q8,_,rfl,q9 _ ?_⟩
  have k':Q (.int (if e1.val (rho kvs)<e2.val (rho kvs) then e3.val (rho kvs) else e4.val (rho kvs))) H:=k
  refine⟨_,_,rfl,rfl,_,rfl,?_⟩
  refine ite2 (fun q=>?_) (fun q=>?_)
  ·have q':e1.val (rho kvs)<e2.val (rho kvs):=of_decide_eq_true q
   rw[if_pos q'] at k'
   refine⟨_,rfl,p,_,dx,_,_,rfl,hp,T.cl_Less,T.na_Less_third,rfl,?_⟩
   obtain⟨p1,c1,x1,f1,f2,f3,f4,f5,f6,q1,q2,q3,q4,q5,q6,q7,q8,q9⟩:=R.call T hr m3 d3 o3 hd hh
   exact⟨p1,c1,x1,f1,f2,f3,f4,f5,f6,q1,q2,q3,q4,q5,q6,q7,q8,_,rfl,q9 _ k'⟩
  ·have q':¬ e1.val (rho kvs)<e2.val (rho kvs):=fun z=>q (decide_eq_true z)
   rw[if_neg q'] at k'
   refine⟨_,rfl,p,_,dx,_,_,rfl,hp,T.cl_Less,T.na_Less_fourth,rfl,?_⟩
   obtain⟨p1,c1,x1,f1,f2,f3,f4,f5,f6,q1,q2,q3,q4,q5,q6,q7,q8,q9⟩:=R.call T hr m4 d4 o4 hd hh
   exact⟨p1,c1,x1,f1,f2,f3,f4,f5,f6,q1,q2,q3,q4,q5,q6,q7,q8,_,rfl,q9 _ k'⟩
theorem vq {f:Addr}{fd:FuncData}{ps:List Str}{Kd:Ex→Prop}{k:Nat}(hl:ps.length=2):FnOk P w K mg base CX0 k f fd ps (zT a 0 Kd) :=
 ⟨fun vs H Q E h=>by
  obtain⟨e,r,d,kvs,names,rfl,_⟩:=h
  exact hl.symm,fun A outer s H args us vs Q E _ _ _ _ h=>by
  obtain⟨e,r,d,kvs,names,_,_,_,hd,_⟩:=h
  have:=e.dep_pos
  omega⟩
theorem xh (T:Txt w K mg a):∀ n,Reckons P w K mg base a n
 |0=>⟨vq rfl,vq rfl,vq rfl,vq rfl,vq rfl⟩
 |n+1=>⟨wG T (n+1),xX T (n+1),wF T (xh T n),wI T (xh T n),xY T (xh T n)⟩
def Vg (K:PySem.W.Frag) (f:V→Bool):Sp:=fun vs H Q _=>∃ v,vs=[v]∧Lf K H v∧Q (.bl (f v)) H
theorem xK (T:Txt w K mg a):FnOk P w K mg base CX0 1 a.f_qi a.d_qi ["value"] (Vg K whole):=by
 refine T.F_qi.ok zfw (fun vs H Q E h=>?_) (fun cdv A outer s H vs Q E hr h=>?_)
 ·obtain⟨v,rfl,_⟩:=h
  rfl
 ·obtain⟨v,rfl,⟨t,ty,k1,k2,_⟩,k⟩:=h
  refine zB (ze (zg (zX (w_pe_callB zP (by rfl) T.n_isinstance zw (w_pa_N (w_pv 0) (w_pa_N (wq T.n_int Vb) w_pa_nil))) (zW (XJ (w_pe_callB zP (by rfl) T.n_isinstance zw (w_pa_N (w_pv 0) (w_pa_N (wq T.n_bool Xg) w_pa_nil)))))))) ?_
  rw[XH] at k
  refine⟨_,rfl,_,_,_,_,_,rfl,rfl,ty,k1,_,rfl,?_⟩
  by_cases q:znF v=true
  ·rw[q] at k
   exact iteB q ⟨_,rfl,_,_,_,_,_,rfl,rfl,ty,k2,_,rfl,k⟩
  ·have q:=Bool.eq_false_iff.mpr q
   rw[q] at k
   exact yh q k
theorem vU (T:Txt w K mg a):FnOk P w K mg base CX0 2 a.f_qj a.d_qj ["value"] (Vg K ur):=by
 have c_qi:Callee P w K mg base "is_whole" a.f_qi a.d_qi ["value"] 1 (Vg K whole):=⟨xK T,T.g_qi,T.F_qi.kp,T.b_qi⟩
 refine T.F_qj.ok zjo (fun vs H Q E h=>?_) (fun cdv A outer s H vs Q E hr h=>?_)
 ·obtain⟨v,rfl,_⟩:=h
  rfl
 ·obtain⟨v,rfl,lf,k⟩:=h
  refine zB (ze (zg (zX (zj c_qi (hr.mono (by omega)) (w_pa_N (w_pv 0) w_pa_nil)) (zW (zG xH (w_pe_callB WK (by rfl) T.n_abs zhh (w_pa_N (w_pv 0) w_pa_nil)) (zh yT zd zd) (zv _)))))) ?_
  refine⟨_,rfl,v,rfl,lf,_,rfl,?_⟩
  by_cases q:whole v=true
  ·obtain⟨i,rfl⟩:=wP q
   refine iteB q ⟨_,rfl,i,rfl,_,_,rfl,rfl,⟨by decide,by decide,by decide⟩,_,_,rfl,rfl,?_⟩
   rw[zjS]
   exact k
  ·have q:=Bool.eq_false_iff.mpr q
   refine yh q ?_
   have e:ur v=false:=by cases v<;>first | rfl | simp[whole] at q
   rw[e] at k
   exact k
theorem wE (T:Txt w K mg a):FnOk P w K mg base CX0 2 a.f_ql a.d_ql ["number"] (Vg K U8):=by
 have c_qi:Callee P w K mg base "is_whole" a.f_qi a.d_qi ["value"] 1 (Vg K whole):=⟨xK T,T.g_qi,T.F_qi.kp,T.b_qi⟩
 refine T.F_ql.ok zjm (fun vs H Q E h=>?_) (fun cdv A outer s H vs Q E hr h=>?_)
 ·obtain⟨v,rfl,_⟩:=h
  rfl
 ·obtain⟨v,rfl,lf,k⟩:=h
  refine zB (ze (zg (zX (zj c_qi (hr.mono (by omega)) (w_pa_N (w_pv 0) w_pa_nil)) (zX (zG zfV (w_pv 0) zd (zv _)) (zW (zG zfU (w_pv 0) (zh yT zd zd) (zv _))))))) ?_
  refine⟨_,rfl,v,rfl,lf,_,rfl,?_⟩
  by_cases q:whole v=true
  ·obtain⟨i,rfl⟩:=wP q
   have k':Q (.bl (decide (1≤i)&&decide (i≤1000000000))) H:=k
   refine iteB q ⟨_,rfl,_,_,rfl,rfl,_,rfl,?_⟩
   by_cases q1:(1:Int)≤i
   ·refine iteB (decide_eq_true q1) ⟨_,rfl,_,_,rfl,rfl,⟨by decide,by decide,by decide⟩,_,_,rfl,rfl,?_⟩
    rw[decide_eq_true q1,Bool.true_and] at k'
    rw[zwT]
    exact k'
   ·refine yh (decide_eq_false q1) ?_
    rw[decide_eq_false q1,Bool.false_and] at k'
    exact k'
  ·have q:=Bool.eq_false_iff.mpr q
   refine yh q ?_
   have e:U8 v=false:=by cases v<;>first | rfl | simp[whole] at q
   rw[e] at k
   exact k
def WR (K:PySem.W.Frag):Sp:=fun vs H Q _=>∃ (v:V) (p:Addr) (ws:List Str),vs=[v,.ref p]∧Lf K H v∧SqT K H p (ws.map V.str)∧Q (.bl (x8 ws v)) H
theorem uZ (T:Txt w K mg a):FnOk P w K mg base CX0 1 a.f_qk a.d_qk ["word", "words"] (WR K):=by
 refine T.F_qk.ok zjn (fun vs H Q E h=>?_) (fun cdv A outer s H vs Q E hr h=>?_)
 ·obtain⟨v,p,ws,rfl,_⟩:=h
  rfl
 ·obtain⟨v,p,ws,rfl,⟨t,ty,_,_,k3⟩,hp,k⟩:=h
  refine zB (ze (zg (zX (w_pe_callB zP (by rfl) T.n_isinstance zw (w_pa_N (w_pv 0) (w_pa_N (wq T.n_str Xf) w_pa_nil))) (zW (zG xI (w_pv 0) (w_pv 1) (by with_unfolding_all rfl)))))) ?_
  refine⟨_,rfl,_,_,_,_,_,rfl,rfl,ty,k3,_,rfl,?_⟩
  by_cases q:zg6 v=true
  ·obtain⟨x,rfl⟩:=Wx q
   exact iteB q ⟨_,rfl,_,rfl,p,_,rfl,.inr hp,rfl,flat_strs ws,k⟩
  ·have q:=Bool.eq_false_iff.mpr q
   refine yh q ?_
   have e:x8 ws v=false:=by cases v<;>first | rfl | simp[zg6] at q
   rw[e] at k
   exact k
theorem TyOf.same {K:PySem.W.Frag}{H H':Hp}{v:V}{t:Value}(s:Same H H') (h:TyOf K H v t):TyOf K H' v t:=by
 cases h with
 |non=>exact .non
 |bl x=>exact .bl x
 |int i=>exact .int i
 |str x=>exact .str x
 |flt x=>exact .flt x
 |lst e=>exact .lst (s _ _ e)
 |frz e=>exact .frz (s _ _ e)
 |tup e=>exact .tup (s _ _ e)
 |dK e=>exact .dK (s _ _ e)
 |dT e=>exact .dT (s _ _ e)
 |ins e cl ha hn htk hm=>exact .ins (s _ _ e) cl ha hn htk hm
theorem Lf.same {K:PySem.W.Frag}{H H':Hp}{v:V}(s:Same H H') (h:Lf K H v):Lf K H' v:=by
 obtain⟨t,ty,k⟩:=h
 exact⟨t,TyOf.same s ty,k⟩
def GMade (K:PySem.W.Frag) (a:Ad) (H:Hp):Gx→V→Prop
 |.num v,r=>∃ p dx,r=.ref p∧H p=some (.ins a.c_Num dx [("value",v)])∧Lf K H v
 |.name v,r=>∃ p dx,r=.ref p∧H p=some (.ins a.c_Name dx [("word",v)])∧Lf K H v
 |.two wd e f,r=>∃ p dx u1 u2,r=.ref p∧H p=some (.ins a.c_Two dx [("word",wd),("one",u1),("other",u2)])∧Lf K H wd∧GMade K a H e u1∧GMade K a H f u2
 |.mod e n,r=>∃ p dx u1,r=.ref p∧H p=some (.ins a.c_Mod dx [("inner",u1),("number",n)])∧Lf K H n∧GMade K a H e u1
 |.less e f g h,r=>∃ p dx u1 u2 u3 u4,r=.ref p∧H p=some (.ins a.c_Less dx [("one",u1),("other",u2),("third",u3),("fourth",u4)])∧GMade K a H e u1∧GMade K a H f u2∧GMade K a H g u3∧GMade K a H h u4
 |.oth v,r=>r=v∧∃ t,TyOf K H v t∧PySem.W.kitOne K t (.ref a.c_Num)=some false∧PySem.W.kitOne K t (.ref a.c_Name)=some false∧PySem.W.kitOne K t (.ref a.c_Two)=some false∧PySem.W.kitOne K t (.ref a.c_Mod)=some false∧PySem.W.kitOne K t (.ref a.c_Less)=some false
theorem GMade.same {H H':Hp}(s:Same H H'):∀ {g:Gx}{r:V},GMade K a H g r→GMade K a H' g r
 |.num _,_,⟨p,dx,e,h,l⟩=>⟨p,dx,e,s _ _ h,l.same s⟩
 |.name _,_,⟨p,dx,e,h,l⟩=>⟨p,dx,e,s _ _ h,l.same s⟩
 |.two _ _ _,_,⟨p,dx,u1,u2,e,h,l,t1,t2⟩=>⟨p,dx,u1,u2,e,s _ _ h,l.same s,t1.same s,t2.same s⟩
 |.mod _ _,_,⟨p,dx,u1,e,h,l,t1⟩=>⟨p,dx,u1,e,s _ _ h,l.same s,t1.same s⟩
 |.less _ _ _ _,_,⟨p,dx,u1,u2,u3,u4,e,h,t1,t2,t3,t4⟩=>⟨p,dx,u1,u2,u3,u4,e,s _ _ h,t1.same s,t2.same s,t3.same s,t4.same s⟩
 |.oth _,_,⟨e,t,ty,k⟩=>⟨e,t,TyOf.same s ty,k⟩
theorem W6 (T:Txt w K mg a){H:Hp}(i:Int):Lf K H (.int i):=⟨_,.int i,T.k_tint_tint,T.k_tint_tbool,T.k_tint_tstr⟩
theorem W5 (T:Txt w K mg a){H:Hp}(x:Str):Lf K H (.str x):=⟨_,.str x,T.k_tstr_tint,T.k_tstr_tbool,T.k_tstr_tstr⟩
theorem Made.gx (T:Txt w K mg a){H:Hp}:∀ {e:Ex}{r:V},Made a H e r→GMade K a H e.gx r
 |.num i,_,⟨p,dx,e,h⟩=>⟨p,dx,e,h,W6 T i⟩
 |.name x,_,⟨p,dx,e,h⟩=>⟨p,dx,e,h,W5 T x⟩
 |.two w _ _,_,⟨p,dx,u1,u2,e,h,t1,t2⟩=>⟨p,dx,u1,u2,e,h,W5 T w,t1.gx T,t2.gx T⟩
 |.mod _ n,_,⟨p,dx,u1,e,h,t1⟩=>⟨p,dx,u1,e,h,W6 T n,t1.gx T⟩
 |.less _ _ _ _,_,⟨p,dx,u1,u2,u3,u4,e,h,t1,t2,t3,t4⟩=>⟨p,dx,u1,u2,u3,u4,e,h,t1.gx T,t2.gx T,t3.gx T,t4.gx T⟩
def GMs (K:PySem.W.Frag) (a:Ad) (H:Hp) (rs:List V) (gs:List Gx):Prop:=rs.length=gs.length∧∀ (i:Nat) r,rs[i]?=some r→∃ g,gs[i]?=some g∧GMade K a H g r
def yv (K:PySem.W.Frag) (a:Ad) (n:Nat):Sp:=fun vs H Q _=>∃ (g:Gx) (r:V) (nm:Addr) (names:List Str) (d:Int),vs=[r,.ref nm,.int d]∧GMade K a H g r∧(∀ H,SqT K H nm (names.map V.str))∧0≤d∧d<n∧∀ H',Same H H'→Q (.bl (g.sound names d.toNat)) H'
def Vi (K:PySem.W.Frag) (a:Ad) (n:Nat):Sp:=fun vs H Q _=>∃ (l:Addr) (rs:List V) (gs:List Gx) (nm:Addr) (names:List Str) (d:Int),vs=[.ref l,.ref nm,.int d]∧H l=some (.lst rs)∧GMs K a H rs gs∧(∀ H,SqT K H nm (names.map V.str))∧0≤d∧d<n∧∀ H',Same H H'→Q (.bl (gs.all (Gx.sound names d.toNat))) H'
theorem W4 (T:Txt w K mg a){n:Nat}(I:FnOk P w K mg base CX0 (2*n+1) a.f_qn a.d_qn ["expr", "names", "deep"] (yv K a n)):FnOk P w K mg base CX0 (2*n+2) a.f_qm a.d_qm ["parts", "names", "deep"] (Vi K a n):=by
 have c_qn:Callee P w K mg base "is_sound" a.f_qn a.d_qn ["expr", "names", "deep"] (2*n+1) (yv K a n):=⟨I,T.g_qn,T.F_qn.kp,T.b_qn⟩
 refine T.F_qm.ok sc_qm (fun vs H Q E h=>?_) (fun cdv A outer s H vs Q E hr h=>?_)
 ·obtain⟨l,rs,gs,nm,names,d,rfl,_⟩:=h
  rfl
 ·obtain⟨l,rs,gs,nm,names,d,rfl,hl,⟨hlen,hgm⟩,hn,d0,d1,k⟩:=h
  refine zB (w_pss_cons (zO PassesOwn.never rfl (zE (w_pv 0)) (zt (i:=3) sc_qm.nd rfl (Or.inl rfl))
    (ze (w_ps_if (yP (zS (zj c_qn (hr.mono (by omega)) (w_pa_N (w_pv 3) (w_pa_N (w_pv 1) (w_pa_N (w_pv 2) w_pa_nil))))))
     (ze (zg yK))
     zk)))
   (ze (zg yK))) ?_
  refine⟨_,rfl,l,rfl,⟨_,SqL.of hl⟩,?_⟩
  refine zR (K:=K) (a:=l) (xs:=rs) (fun i σ H'=>∃ o,σ=[some (.ref l),some (.ref nm),some (.int d),o]∧Same H H'∧(gs.take i).all (Gx.sound names d.toNat)=true) ?_ ?_ ?_ ?_
  ·exact⟨none,rfl,Same.refl H,by simp⟩
  ·rintro i σ H' _ ⟨o,_,sm,_⟩
   exact SqL.of (sm _ _ hl)
  ·rintro i x σ H' hi ⟨o,rfl,sm,ha⟩
   obtain⟨g,hg,gm⟩:=hgm i x hi
   refine⟨_,rfl,_,rfl,_,rfl,g,x,nm,names,d,rfl,gm.same sm,hn,d0,d1,fun H1 s1=>⟨_,rfl,?_⟩⟩
   have hi':i<gs.length:=(List.getElem?_eq_some_iff.mp hg).1
   by_cases q:g.sound names d.toNat=true
   ·refine yh (by rw[q];rfl) ?_
    refine⟨_,rfl,sm.trans s1,?_⟩
    rw[List.take_add_one,hg,List.all_append,ha]
    simp[q]
   ·have q:=Bool.eq_false_iff.mpr q
    refine iteB (by rw[q];rfl) ?_
    have e:gs.all (Gx.sound names d.toNat)=false:=by
     rw[List.all_eq_false]
     exact⟨g,List.mem_of_getElem? hg,by rw[q];simp⟩
    have:=k H1 (sm.trans s1)
    rw[e] at this
    exact this
  ·rintro σ H' ⟨o,rfl,sm,ha⟩
   rw[hlen,List.take_length] at ha
   have:=k H' sm
   rw[ha] at this
   exact this
theorem zwi {H:Hp}{u1 u2:V}{g1 g2:Gx}(h1:GMade K a H g1 u1) (h2:GMade K a H g2 u2):GMs K a H [u1,u2] [g1,g2]:=⟨rfl,fun i r e=>by
 match i,e with
 |0,e=>cases e;exact⟨_,rfl,h1⟩
 |1,e=>cases e;exact⟨_,rfl,h2⟩
 |_+2,e=>simp at e⟩
theorem zxo {H:Hp}{u1 u2 u3 u4:V}{g1 g2 g3 g4:Gx}(h1:GMade K a H g1 u1) (h2:GMade K a H g2 u2) (h3:GMade K a H g3 u3) (h4:GMade K a H g4 u4):GMs K a H [u1,u2,u3,u4] [g1,g2,g3,g4]:=⟨rfl,fun i r e=>by
 match i,e with
 |0,e=>cases e;exact⟨_,rfl,h1⟩
 |1,e=>cases e;exact⟨_,rfl,h2⟩
 |2,e=>cases e;exact⟨_,rfl,h3⟩
 |3,e=>cases e;exact⟨_,rfl,h4⟩
 |_+4,e=>simp at e⟩
theorem vT (T:Txt w K mg a){n:Nat}(I:FnOk P w K mg base CX0 (2*n+1) a.f_qn a.d_qn ["expr", "names", "deep"] (yv K a n)):FnOk P w K mg base CX0 (2*n+3) a.f_qn a.d_qn ["expr", "names", "deep"] (yv K a (n+1)):=by
 have c_qn:Callee P w K mg base "is_sound" a.f_qn a.d_qn ["expr", "names", "deep"] (2*n+1) (yv K a n):=⟨I,T.g_qn,T.F_qn.kp,T.b_qn⟩
 have c_qm:Callee P w K mg base "are_sound" a.f_qm a.d_qm ["parts", "names", "deep"] (2*n+2) (Vi K a n):=⟨W4 T I,T.g_qm,T.F_qm.kp,T.b_qm⟩
 have c_qj:Callee P w K mg base "is_short_number" a.f_qj a.d_qj ["value"] 2 (Vg K ur):=⟨vU T,T.g_qj,T.F_qj.kp,T.b_qj⟩
 have c_ql:Callee P w K mg base "is_divisor" a.f_ql a.d_ql ["number"] 2 (Vg K U8):=⟨wE T,T.g_ql,T.F_ql.kp,T.b_ql⟩
 have c_qk:Callee P w K mg base "is_word_of" a.f_qk a.d_qk ["word", "words"] 1 (WR K):=⟨uZ T,T.g_qk,T.F_qk.kp,T.b_qk⟩
 refine T.F_qn.ok zjl (fun vs H Q E h=>?_) (fun cdv A outer s H vs Q E hr h=>?_)
 ·obtain⟨g,r,nm,names,d,rfl,_⟩:=h
  rfl
 ·obtain⟨g,r,nm,names,d,rfl,gm,hn,d0,d1,k⟩:=h
  refine zB (w_pss_cons (w_ps_if (w_pt_cmpR yr (w_pv 2) zd (zv _))
    (ze (zg yK))
    zk)
   (w_pss_cons (w_ps_if (zS (w_pe_callB zP (by rfl) T.n_isinstance zw (w_pa_N (w_pv 0) (w_pa_N (yQ T.g_Num) w_pa_nil))))
    (ze (zg (zj c_qj (hr.mono (by omega)) (zf (w_pe_fld (w_pv 0) rfl) w_pa_nil))))
    zk)
   (w_pss_cons (w_ps_if (zS (w_pe_callB zP (by rfl) T.n_isinstance zw (w_pa_N (w_pv 0) (w_pa_N (yQ T.g_Name) w_pa_nil))))
    (ze (zg (zj c_qk (hr.mono (by omega)) (zf (w_pe_fld (w_pv 0) rfl) (w_pa_N (w_pv 1) w_pa_nil)))))
    zk)
   (w_pss_cons (w_ps_if (zS (w_pe_callB zP (by rfl) T.n_isinstance zw (w_pa_N (w_pv 0) (w_pa_N (yQ T.g_Two) w_pa_nil))))
    (ze (zg (zX (zj c_qk (hr.mono (by omega)) (zf (w_pe_fld (w_pv 0) rfl) (w_pa_N (ya (v:=.ref a.t_TWO_WORDS) rfl T.g_TWO_WORDS rfl) w_pa_nil))) (zW (zj c_qm (hr.mono (by omega)) (zf (zr (zf (w_pe_fld (w_pv 0) rfl) (zf (w_pe_fld (w_pv 0) rfl) w_pa_nil))) (w_pa_N (w_pv 1) (yb (zh yf (w_pv 2) zd) w_pa_nil))))))))
    zk)
   (w_pss_cons (w_ps_if (zS (w_pe_callB zP (by rfl) T.n_isinstance zw (w_pa_N (w_pv 0) (w_pa_N (yQ T.g_Mod) w_pa_nil))))
    (ze (zg (zX (zj c_ql (hr.mono (by omega)) (zf (w_pe_fld (w_pv 0) rfl) w_pa_nil)) (zW (zj c_qn (hr.mono (by omega)) (zf (w_pe_fld (w_pv 0) rfl) (w_pa_N (w_pv 1) (yb (zh yf (w_pv 2) zd) w_pa_nil))))))))
    zk)
   (w_pss_cons (w_ps_if (zS (w_pe_callB zP (by rfl) T.n_isinstance zw (w_pa_N (w_pv 0) (w_pa_N (yQ T.g_Less) w_pa_nil))))
    (ze (zg (zj c_qm (hr.mono (by omega)) (zf (zr (zf (w_pe_fld (w_pv 0) rfl) (zf (w_pe_fld (w_pv 0) rfl) (zf (w_pe_fld (w_pv 0) rfl) (zf (w_pe_fld (w_pv 0) rfl) w_pa_nil))))) (w_pa_N (w_pv 1) (yb (zh yf (w_pv 2) zd) w_pa_nil))))))
    zk)
   (ze (zg yK)))))))) ?_
  refine⟨_,rfl,rfl,_,rfl,?_⟩
  refine ite2 (fun q=>?_) (fun q=>?_)
  ·have e:d=0:=by simpa using q
   subst e
   exact k H (Same.refl H)
  have hd:d≠0:=fun e=>q (by subst e;rfl)
  have e1:d.toNat=(d-1).toNat+1:=by omega
  rw[e1] at k
  have b0:0≤d-1:=by omega
  have b1:d-1<n:=by omega
  cases g with
  |num v =>
   obtain⟨p,dx,rfl,hp,lf⟩:=gm
   refine⟨_,rfl,_,_,_,_,_,rfl,rfl,T.ty_Num H p dx _ hp,T.k_Num_Num,_,rfl,XF ?_⟩
   exact⟨_,rfl,p,_,dx,_,_,rfl,hp,T.cl_Num,T.na_Num_value,rfl,v,rfl,lf,k H (Same.refl H)⟩
  |name v =>
   obtain⟨p,dx,rfl,hp,lf⟩:=gm
   refine⟨_,rfl,_,_,_,_,_,rfl,rfl,T.ty_Name H p dx _ hp,T.k_Name_Num,_,rfl,vG ?_⟩
   refine⟨_,rfl,_,_,_,_,_,rfl,rfl,T.ty_Name H p dx _ hp,T.k_Name_Name,_,rfl,XF ?_⟩
   exact⟨_,rfl,p,_,dx,_,_,rfl,hp,T.cl_Name,T.na_Name_word,rfl,_,rfl,v,nm,names,rfl,lf,hn H,k H (Same.refl H)⟩
  |two wd g1 g2 =>
   obtain⟨p,dx,u1,u2,rfl,hp,lf,m1,m2⟩:=gm
   refine⟨_,rfl,_,_,_,_,_,rfl,rfl,T.ty_Two H p dx _ hp,T.k_Two_Num,_,rfl,vG ?_⟩
   refine⟨_,rfl,_,_,_,_,_,rfl,rfl,T.ty_Two H p dx _ hp,T.k_Two_Name,_,rfl,vG ?_⟩
   refine⟨_,rfl,_,_,_,_,_,rfl,rfl,T.ty_Two H p dx _ hp,T.k_Two_Two,_,rfl,XF ?_⟩
   refine⟨_,rfl,p,_,dx,_,_,rfl,hp,T.cl_Two,T.na_Two_word,rfl,wd,_,twoWs,rfl,lf,T.s_TWO_WORDS H,_,rfl,?_⟩
   have k':∀ H',Same H H'→Q (.bl (x8 twoWs wd&&([g1,g2].all (Gx.sound names (d-1).toNat)))) H':=k
   by_cases qw:x8 twoWs wd=true
   ·rw[qw] at k'
    refine iteB qw ?_
    refine⟨_,rfl,p,_,dx,_,_,rfl,hp,T.cl_Two,T.na_Two_one,rfl,_,rfl,p,_,dx,_,_,rfl,hp,T.cl_Two,T.na_Two_other,rfl,(by show 2≤sizeLine;decide),fun lp hlp=>?_⟩
    have s1:=Same.new (o:=HO.lst [u1,u2]) hlp
    exact⟨_,rfl,_,rfl,_,_,rfl,rfl,lp,_,_,nm,names,d-1,rfl,upd_same,zwi (m1.same s1) (m2.same s1),hn,b0,b1,fun H2 s2=>k' H2 (s1.trans s2)⟩
   ·have qw:=Bool.eq_false_iff.mpr qw
    rw[qw] at k'
    exact yh qw (k' H (Same.refl H))
  |mod g1 v =>
   obtain⟨p,dx,u1,rfl,hp,lf,m1⟩:=gm
   refine⟨_,rfl,_,_,_,_,_,rfl,rfl,T.ty_Mod H p dx _ hp,T.k_Mod_Num,_,rfl,vG ?_⟩
   refine⟨_,rfl,_,_,_,_,_,rfl,rfl,T.ty_Mod H p dx _ hp,T.k_Mod_Name,_,rfl,vG ?_⟩
   refine⟨_,rfl,_,_,_,_,_,rfl,rfl,T.ty_Mod H p dx _ hp,T.k_Mod_Two,_,rfl,vG ?_⟩
   refine⟨_,rfl,_,_,_,_,_,rfl,rfl,T.ty_Mod H p dx _ hp,T.k_Mod_Mod,_,rfl,XF ?_⟩
   refine⟨_,rfl,p,_,dx,_,_,rfl,hp,T.cl_Mod,T.na_Mod_number,rfl,v,rfl,lf,_,rfl,?_⟩
   have k':∀ H',Same H H'→Q (.bl (U8 v&&g1.sound names (d-1).toNat)) H':=k
   by_cases qw:U8 v=true
   ·rw[qw] at k'
    refine iteB qw ?_
    exact⟨_,rfl,p,_,dx,_,_,rfl,hp,T.cl_Mod,T.na_Mod_inner,rfl,_,rfl,_,rfl,_,_,rfl,rfl,g1,u1,nm,names,d-1,rfl,m1,hn,b0,b1,k'⟩
   ·have qw:=Bool.eq_false_iff.mpr qw
    rw[qw] at k'
    exact yh qw (k' H (Same.refl H))
  |less g1 g2 g3 g4 =>
   obtain⟨p,dx,u1,u2,u3,u4,rfl,hp,m1,m2,m3,m4⟩:=gm
   refine⟨_,rfl,_,_,_,_,_,rfl,rfl,T.ty_Less H p dx _ hp,T.k_Less_Num,_,rfl,vG ?_⟩
   refine⟨_,rfl,_,_,_,_,_,rfl,rfl,T.ty_Less H p dx _ hp,T.k_Less_Name,_,rfl,vG ?_⟩
   refine⟨_,rfl,_,_,_,_,_,rfl,rfl,T.ty_Less H p dx _ hp,T.k_Less_Two,_,rfl,vG ?_⟩
   refine⟨_,rfl,_,_,_,_,_,rfl,rfl,T.ty_Less H p dx _ hp,T.k_Less_Mod,_,rfl,vG ?_⟩
   refine⟨_,rfl,_,_,_,_,_,rfl,rfl,T.ty_Less H p dx _ hp,T.k_Less_Less,_,rfl,XF ?_⟩
   refine⟨_,rfl,p,_,dx,_,_,rfl,hp,T.cl_Less,T.na_Less_one,rfl,_,rfl,p,_,dx,_,_,rfl,hp,T.cl_Less,T.na_Less_other,rfl,_,rfl,p,_,dx,_,_,rfl,hp,T.cl_Less,T.na_Less_third,rfl,_,rfl,p,_,dx,_,_,rfl,hp,T.cl_Less,T.na_Less_fourth,rfl,(by show 4≤sizeLine;decide),fun lp hlp=>?_⟩
   have s1:=Same.new (o:=HO.lst [u1,u2,u3,u4]) hlp
   exact⟨_,rfl,_,rfl,_,_,rfl,rfl,lp,_,_,nm,names,d-1,rfl,upd_same,zxo (m1.same s1) (m2.same s1) (m3.same s1) (m4.same s1),hn,b0,b1,fun H2 s2=>k H2 (s1.trans s2)⟩
  |oth v =>
   obtain⟨rfl,t,ty,n1,n2,n3,n4,n5⟩:=gm
   refine⟨_,rfl,_,_,_,_,_,rfl,rfl,ty,n1,_,rfl,vG ?_⟩
   refine⟨_,rfl,_,_,_,_,_,rfl,rfl,ty,n2,_,rfl,vG ?_⟩
   refine⟨_,rfl,_,_,_,_,_,rfl,rfl,ty,n3,_,rfl,vG ?_⟩
   refine⟨_,rfl,_,_,_,_,_,rfl,rfl,ty,n4,_,rfl,vG ?_⟩
   refine⟨_,rfl,_,_,_,_,_,rfl,rfl,ty,n5,_,rfl,vG ?_⟩
   exact k H (Same.refl H)
theorem zfv {k:Nat}:FnOk P w K mg base CX0 k a.f_qn a.d_qn ["expr", "names", "deep"] (yv K a 0) :=
 ⟨fun vs H Q E h=>by
  obtain⟨g,r,nm,names,d,rfl,_⟩:=h
  rfl,fun A outer s H args us vs Q E _ _ _ _ h=>by
  obtain⟨g,r,nm,names,d,_,_,_,d0,d1,_⟩:=h
  exact absurd d1 (by simp;omega)⟩
theorem Yt (T:Txt w K mg a):∀ n,FnOk P w K mg base CX0 (2*n+1) a.f_qn a.d_qn ["expr", "names", "deep"] (yv K a n)
 |0=>zfv
 |n+1=>vT T (Yt T n)
theorem YQ {i:Int}(h : -100000000000000000000<i∧i<100000000000000000000):i.natAbs.log2<1920:=by
 by_cases h0:i.natAbs=0
 ·rw[h0];decide
 ·have:=(Nat.log2_lt h0 (k:=67)).mpr (Nat.lt_of_le_of_lt (show i.natAbs≤100000000000000000000 by omega) (by decide))
  omega
def ye (a:Ad) (n:Nat) (Kd:Ex→Prop):Sp:=fun vs H Q _=>∃ (e:Ex) (r:V) (names:List Str),vs=[r]∧Kd e∧Made a H e r∧e.ok names∧e.dep≤n∧e.size≤sizeLine∧∀ p H',H' p=some (.lst (e.words.map V.str))→Same H H'→Q (.ref p) H'
structure Wordss (P:Program) (w:World) (K:PySem.W.Frag) (mg:Str→Option Value) (base:Heap) (a:Ad) (n:Nat):Prop where
 num:FnOk P w K mg base CX0 (n+1) a.f_qH a.d_qH ["self"] (ye a n Wy)
 name:FnOk P w K mg base CX0 (n+1) a.f_qK a.d_qK ["self"] (ye a n uD)
 two:FnOk P w K mg base CX0 (n+1) a.f_qN a.d_qN ["self"] (ye a n Ww)
 mod:FnOk P w K mg base CX0 (n+1) a.f_qQ a.d_qQ ["self"] (ye a n Wz)
 less:FnOk P w K mg base CX0 (n+1) a.f_qT a.d_qT ["self"] (ye a n uE)
theorem Wordss.call {n:Nat}(R:Wordss P w K mg base a n) (T:Txt w K mg a){A:Around}(hr:Room (n+1) A){H:Hp}{e:Ex}{x:V}{names:List Str}(hM:Made a H e x) (ho:e.ok names) (hd:e.dep≤n) (hs:e.size≤sizeLine) :
  ∃ (p C dx:Addr) (fs:List (Str×V)) (f:Addr) (fd:FuncData) (ps:List Str) (k:Nat) (sp:Sp),x=.ref p∧H p=some (.ins C dx fs)∧fs.lookup ("words" : Str)=none∧Cls K C∧Meth K C "words" f∧FnOk P w K mg base CX0 k f fd ps sp∧Room k A∧Binds K fd ps [] ∧
   ∀ Q:VK,(∀ p H',H' p=some (.lst (e.words.map V.str))→Same H H'→Q (.ref p) H')→sp (x::([]++[])) H Q E0:=by
 cases e with
 |num i =>
  obtain⟨p,dx,rfl,hp⟩:=id hM
  exact⟨p,_,dx,_,_,_,_,_,_,rfl,hp,rfl,T.cl_Num,T.mt_qH,R.num,hr,T.b_qH,fun Q q=>⟨_,_,names,rfl,⟨_,rfl⟩,hM,ho,hd,hs,q⟩⟩
 |name i =>
  obtain⟨p,dx,rfl,hp⟩:=id hM
  exact⟨p,_,dx,_,_,_,_,_,_,rfl,hp,rfl,T.cl_Name,T.mt_qK,R.name,hr,T.b_qK,fun Q q=>⟨_,_,names,rfl,⟨_,rfl⟩,hM,ho,hd,hs,q⟩⟩
 |two i e1 e2 =>
  obtain⟨p,dx,u1,u2,rfl,hp,_⟩:=id hM
  exact⟨p,_,dx,_,_,_,_,_,_,rfl,hp,rfl,T.cl_Two,T.mt_qN,R.two,hr,T.b_qN,fun Q q=>⟨_,_,names,rfl,⟨_,_,_,rfl⟩,hM,ho,hd,hs,q⟩⟩
 |mod e1 i =>
  obtain⟨p,dx,u1,rfl,hp,_⟩:=id hM
  exact⟨p,_,dx,_,_,_,_,_,_,rfl,hp,rfl,T.cl_Mod,T.mt_qQ,R.mod,hr,T.b_qQ,fun Q q=>⟨_,_,names,rfl,⟨_,_,rfl⟩,hM,ho,hd,hs,q⟩⟩
 |less e1 e2 e3 e4 =>
  obtain⟨p,dx,u1,u2,u3,u4,rfl,hp,_⟩:=id hM
  exact⟨p,_,dx,_,_,_,_,_,_,rfl,hp,rfl,T.cl_Less,T.mt_qT,R.less,hr,T.b_qT,fun Q q=>⟨_,_,names,rfl,⟨_,_,_,_,rfl⟩,hM,ho,hd,hs,q⟩⟩
theorem vk (T:Txt w K mg a) (n:Nat):FnOk P w K mg base CX0 (n+1) a.f_qH a.d_qH ["self"] (ye a n Wy):=by
 refine T.F_qH.ok zjJ (fun vs H Q E h=>?_) (fun cdv A outer s H vs Q E hr h=>?_)
 ·obtain⟨e,r,names,rfl,_⟩:=h
  rfl
 ·obtain⟨e,r,names,rfl,⟨i,rfl⟩,⟨p,dx,rfl,hp⟩,ho,_,_,k⟩:=h
  refine zB (ze (zg (zr (zx (zI xo (by rfl) T.n_str Xf (zf (w_pe_fld (w_pv 0) rfl) w_pa_nil)) w_pa_nil)))) ?_
  refine⟨_,rfl,p,_,dx,_,_,rfl,hp,T.cl_Num,T.na_Num_value,rfl,i,rfl,YQ ho,(by show 1≤sizeLine;decide),fun q hq=>?_⟩
  exact k _ _ upd_same (Same.new hq)
theorem wH (T:Txt w K mg a) (n:Nat):FnOk P w K mg base CX0 (n+1) a.f_qK a.d_qK ["self"] (ye a n uD):=by
 refine T.F_qK.ok zjG (fun vs H Q E h=>?_) (fun cdv A outer s H vs Q E hr h=>?_)
 ·obtain⟨e,r,names,rfl,_⟩:=h
  rfl
 ·obtain⟨e,r,names,rfl,⟨i,rfl⟩,⟨p,dx,rfl,hp⟩,ho,_,_,k⟩:=h
  refine zB (ze (zg (zr (zf (w_pe_fld (w_pv 0) rfl) w_pa_nil)))) ?_
  refine⟨_,rfl,p,_,dx,_,_,rfl,hp,T.cl_Name,T.na_Name_word,rfl,(by show 1≤sizeLine;decide),fun q hq=>?_⟩
  exact k _ _ upd_same (Same.new hq)
theorem vj (T:Txt w K mg a){n:Nat}(R:Wordss P w K mg base a n):FnOk P w K mg base CX0 (n+2) a.f_qN a.d_qN ["self"] (ye a (n+1) Ww):=by
 refine T.F_qN.ok zjE (fun vs H Q E h=>?_) (fun cdv A outer s H vs Q E hr h=>?_)
 ·obtain⟨e,r,names,rfl,_⟩:=h
  rfl
 ·obtain⟨e,r,names,rfl,⟨wd,e1,e2,rfl⟩,⟨p,dx,u1,u2,rfl,hp,m1,m2⟩,⟨_,o1,o2⟩,hdep,hz,k⟩:=h
  have hdep:max e1.dep e2.dep+1≤n+1:=hdep
  have hz:1+e1.size+e2.size≤sizeLine:=hz
  have l1:=e1.words_len
  have l2:=e2.words_len
  refine zB (ze (zg (zh yV (zh yV (zr (zf (w_pe_fld (w_pv 0) rfl) w_pa_nil)) (zz (w_pe_fld (w_pv 0) rfl))) (zz (w_pe_fld (w_pv 0) rfl))))) ?_
  refine⟨_,rfl,p,_,dx,_,_,rfl,hp,T.cl_Two,T.na_Two_word,rfl,(by show 1≤sizeLine;decide),fun q0 hq0=>?_⟩
  have s0:=Same.new (o:=HO.lst [V.str wd]) hq0
  refine⟨_,rfl,p,_,dx,_,_,rfl,s0 _ _ hp,T.cl_Two,T.na_Two_one,rfl,?_⟩
  obtain⟨p1,c1,x1,f1,f2,f3,f4,f5,f6,q1,q2,q3,q4,q5,q6,q7,q8,q9⟩:=R.call T hr (m1.same s0) o1 (by omega) (by omega)
  refine⟨p1,c1,x1,f1,f2,f3,f4,f5,f6,q1,q2,q3,q4,q5,q6,q7,q8,q9 _ fun w1 H1 t1 s1=>?_⟩
  refine⟨q0,w1,_,_,rfl,rfl,s1 _ _ upd_same,t1,(by simp[l1];omega),fun q2 hq2=>?_⟩
  have s2:=s0.trans (s1.trans (Same.new (o:=HO.lst ([V.str wd]++e1.words.map V.str)) hq2))
  refine⟨_,rfl,p,_,dx,_,_,rfl,s2 _ _ hp,T.cl_Two,T.na_Two_other,rfl,?_⟩
  obtain⟨p1,c1,x1,f1,f2,f3,f4,f5,f6,z1,z2,z3,z4,z5,z6,z7,z8,z9⟩:=R.call T hr (m2.same s2) o2 (by omega) (by omega)
  refine⟨p1,c1,x1,f1,f2,f3,f4,f5,f6,z1,z2,z3,z4,z5,z6,z7,z8,z9 _ fun w2 H2 t2 s3=>?_⟩
  refine⟨q2,w2,_,_,rfl,rfl,s3 _ _ upd_same,t2,(by simp[l1,l2];omega),fun q4 hq4=>?_⟩
  refine k _ _ ?_ (s2.trans (s3.trans (Same.new hq4)))
  rw[upd_same]
  simp[Ex.words]
theorem vn (T:Txt w K mg a){n:Nat}(R:Wordss P w K mg base a n):FnOk P w K mg base CX0 (n+2) a.f_qQ a.d_qQ ["self"] (ye a (n+1) Wz):=by
 refine T.F_qQ.ok zjB (fun vs H Q E h=>?_) (fun cdv A outer s H vs Q E hr h=>?_)
 ·obtain⟨e,r,names,rfl,_⟩:=h
  rfl
 ·obtain⟨e,r,names,rfl,⟨e1,i,rfl⟩,⟨p,dx,u1,rfl,hp,m1⟩,⟨⟨i1,i2⟩,o1⟩,hdep,hz,k⟩:=h
  have hdep:e1.dep+1≤n+1:=hdep
  have hz:2+e1.size≤sizeLine:=hz
  have l1:=e1.words_len
  refine zB (ze (zg (zh yV (zh yV (zr (zl w_pe_str w_pa_nil)) (zz (w_pe_fld (w_pv 0) rfl))) (zr (zx (zI xo (by rfl) T.n_str Xf (zf (w_pe_fld (w_pv 0) rfl) w_pa_nil)) w_pa_nil))))) ?_
  refine⟨by show 1≤sizeLine;decide,fun q0 hq0=>?_⟩
  have s0:=Same.new (o:=HO.lst [V.str "mod"]) hq0
  refine⟨_,rfl,p,_,dx,_,_,rfl,s0 _ _ hp,T.cl_Mod,T.na_Mod_inner,rfl,?_⟩
  obtain⟨p1,c1,x1,f1,f2,f3,f4,f5,f6,q1,q2,q3,q4,q5,q6,q7,q8,q9⟩:=R.call T hr (m1.same s0) o1 (by omega) (by omega)
  refine⟨p1,c1,x1,f1,f2,f3,f4,f5,f6,q1,q2,q3,q4,q5,q6,q7,q8,q9 _ fun w1 H1 t1 s1=>?_⟩
  refine⟨q0,w1,_,_,rfl,rfl,s1 _ _ upd_same,t1,(by simp[l1];omega),fun q2 hq2=>?_⟩
  have s2:=s0.trans (s1.trans (Same.new (o:=HO.lst ([V.str "mod"]++e1.words.map V.str)) hq2))
  refine⟨_,rfl,p,_,dx,_,_,rfl,s2 _ _ hp,T.cl_Mod,T.na_Mod_number,rfl,i,rfl,YQ (by omega),(by show 1≤sizeLine;decide),fun q3 hq3=>?_⟩
  refine⟨q2,q3,_,_,rfl,rfl,(Same.new hq3) _ _ upd_same,upd_same,(by simp[l1];omega),fun q4 hq4=>?_⟩
  refine k _ _ ?_ (s2.trans ((Same.new hq3).trans (Same.new hq4)))
  rw[upd_same]
  simp[Ex.words]
theorem wJ (T:Txt w K mg a){n:Nat}(R:Wordss P w K mg base a n):FnOk P w K mg base CX0 (n+2) a.f_qT a.d_qT ["self"] (ye a (n+1) uE):=by
 refine T.F_qT.ok zjy (fun vs H Q E h=>?_) (fun cdv A outer s H vs Q E hr h=>?_)
 ·obtain⟨e,r,names,rfl,_⟩:=h
  rfl
 ·obtain⟨e,r,names,rfl,⟨e1,e2,e3,e4,rfl⟩,⟨p,dx,u1,u2,u3,u4,rfl,hp,m1,m2,m3,m4⟩,⟨o1,o2,o3,o4⟩,hdep,hz,k⟩:=h
  have hdep:max (max e1.dep e2.dep) (max e3.dep e4.dep)+1≤n+1:=hdep
  have hz:1+e1.size+e2.size+e3.size+e4.size≤sizeLine:=hz
  have l1:=e1.words_len
  have l2:=e2.words_len
  have l3:=e3.words_len
  have l4:=e4.words_len
  refine zB (ze (zg (zh yV (zh yV (zh yV (zh yV (zr (zl w_pe_str w_pa_nil)) (zz (w_pe_fld (w_pv 0) rfl))) (zz (w_pe_fld (w_pv 0) rfl))) (zz (w_pe_fld (w_pv 0) rfl))) (zz (w_pe_fld (w_pv 0) rfl))))) ?_
  refine⟨by show 1≤sizeLine;decide,fun q0 hq0=>?_⟩
  have s0:=Same.new (o:=HO.lst [V.str "less"]) hq0
  refine⟨_,rfl,p,_,dx,_,_,rfl,s0 _ _ hp,T.cl_Less,T.na_Less_one,rfl,?_⟩
  obtain⟨p1,c1,x1,f1,f2,f3,f4,f5,f6,z1,z2,z3,z4,z5,z6,z7,z8,z9⟩:=R.call T hr (m1.same s0) o1 (by omega) (by omega)
  refine⟨p1,c1,x1,f1,f2,f3,f4,f5,f6,z1,z2,z3,z4,z5,z6,z7,z8,z9 _ fun w1 H1 t1 y1=>?_⟩
  refine⟨q0,w1,_,_,rfl,rfl,y1 _ _ upd_same,t1,(by simp[l1,l2,l3,l4];omega),fun q1 hq1=>?_⟩
  have s1:=s0.trans (y1.trans (Same.new (o:=HO.lst ([V.str "less"]++e1.words.map V.str)) hq1))
  refine⟨_,rfl,p,_,dx,_,_,rfl,s1 _ _ hp,T.cl_Less,T.na_Less_other,rfl,?_⟩
  obtain⟨p1,c1,x1,f1,f2,f3,f4,f5,f6,z1,z2,z3,z4,z5,z6,z7,z8,z9⟩:=R.call T hr (m2.same s1) o2 (by omega) (by omega)
  refine⟨p1,c1,x1,f1,f2,f3,f4,f5,f6,z1,z2,z3,z4,z5,z6,z7,z8,z9 _ fun w2 H2 t2 y2=>?_⟩
  refine⟨q1,w2,_,_,rfl,rfl,y2 _ _ upd_same,t2,(by simp[l1,l2,l3,l4];omega),fun q2 hq2=>?_⟩
  have s2:=s1.trans (y2.trans (Same.new (o:=HO.lst (([V.str "less"]++e1.words.map V.str)++e2.words.map V.str)) hq2))
  refine⟨_,rfl,p,_,dx,_,_,rfl,s2 _ _ hp,T.cl_Less,T.na_Less_third,rfl,?_⟩
  obtain⟨p1,c1,x1,f1,f2,f3,f4,f5,f6,z1,z2,z3,z4,z5,z6,z7,z8,z9⟩:=R.call T hr (m3.same s2) o3 (by omega) (by omega)
  refine⟨p1,c1,x1,f1,f2,f3,f4,f5,f6,z1,z2,z3,z4,z5,z6,z7,z8,z9 _ fun w3 H3 t3 y3=>?_⟩
  refine⟨q2,w3,_,_,rfl,rfl,y3 _ _ upd_same,t3,(by simp[l1,l2,l3,l4];omega),fun q3 hq3=>?_⟩
  have s3:=s2.trans (y3.trans (Same.new (o:=HO.lst ((([V.str "less"]++e1.words.map V.str)++e2.words.map V.str)++e3.words.map V.str)) hq3))
  refine⟨_,rfl,p,_,dx,_,_,rfl,s3 _ _ hp,T.cl_Less,T.na_Less_fourth,rfl,?_⟩
  obtain⟨p1,c1,x1,f1,f2,f3,f4,f5,f6,z1,z2,z3,z4,z5,z6,z7,z8,z9⟩:=R.call T hr (m4.same s3) o4 (by omega) (by omega)
  refine⟨p1,c1,x1,f1,f2,f3,f4,f5,f6,z1,z2,z3,z4,z5,z6,z7,z8,z9 _ fun w4 H4 t4 y4=>?_⟩
  refine⟨q3,w4,_,_,rfl,rfl,y4 _ _ upd_same,t4,(by simp[l1,l2,l3,l4];omega),fun q4 hq4=>?_⟩
  refine k _ _ ?_ (s3.trans (y4.trans (Same.new hq4)))
  rw[upd_same]
  simp[Ex.words]
theorem xL {f:Addr}{fd:FuncData}{ps:List Str}{Kd:Ex→Prop}{k:Nat}(hl:ps.length=1):FnOk P w K mg base CX0 k f fd ps (ye a 0 Kd) :=
 ⟨fun vs H Q E h=>by
  obtain⟨e,r,names,rfl,_⟩:=h
  exact hl.symm,fun A outer s H args us vs Q E _ _ _ _ h=>by
  obtain⟨e,r,names,_,_,_,_,hd,_⟩:=h
  have:=e.dep_pos
  omega⟩
theorem uf (T:Txt w K mg a):∀ n,Wordss P w K mg base a n
 |0=>⟨xL rfl,xL rfl,xL rfl,xL rfl,xL rfl⟩
 |n+1=>⟨vk T (n+1),wH T (n+1),vj T (uf T n),vn T (uf T n),wJ T (uf T n)⟩
def Ua (a:Ad) (H:Hp) (n:Nat) (rs:List V) (es:List Ex):Prop:=rs.length=es.length∧∀ (i:Nat) r,rs[i]?=some r→∃ e names,es[i]?=some e∧Made a H e r∧e.ok names∧e.dep≤n∧e.size≤sizeLine
def xV (es:List Ex):List Int:=es.map fun e=>(e.size:Int)
def Ys (a:Ad) (n:Nat):Sp:=fun vs H Q _=>∃ (l:Addr) (rs:List V) (es:List Ex),vs=[.ref l]∧H l=some (.lst rs)∧rs.length≤1000∧Ua a H n rs es∧∀ H',Same H H'→Q (.int (xV es).sum) H'
theorem Wc (T:Txt w K mg a) (n:Nat):FnOk P w K mg base CX0 (n+2) a.f_qo a.d_qo ["exprs"] (Ys a n):=by
 have WW:Wordss P w K mg base a n:=uf T n
 refine T.F_qo.ok zjk (fun vs H Q E h=>?_) (fun cdv A outer s H vs Q E hr h=>?_)
 ·obtain⟨l,rs,es,rfl,_⟩:=h
  rfl
 ·obtain⟨l,rs,es,rfl,hl,hz,⟨hlen,hm⟩,k⟩:=h
  refine zB (ze (zg (w_pe_callB (call_sumI rfl) (by rfl) T.n_sum Va (zf (yd rfl (N':=["expr"]) (t:=1) (caps:=[]) ⟨rfl,rfl,rfl⟩ (zE (w_pv 0)) (fun _=>(zt (i:=0) (show(["expr"]:List Str).Nodup by decide +kernel) rfl (Or.inl rfl))) (fun _=>zZ) (fun _=>(w_pe_callB zn (by rfl) T.n_len zU (zx (zz (w_pv 0)) w_pa_nil)))) w_pa_nil)))) ?_
  refine⟨_,rfl,l,rfl,⟨_,SqL.of hl⟩,fun D hD _=>?_⟩
  refine yo (K:=K) (a:=l) (xs:=rs) (fun i zs τ H'=>∃ o,τ=[o]∧i≤rs.length∧zs=((xV es).take i).map V.int∧H' D=some (.lst zs)∧Same H H') ?_ ?_ ?_ ?_
  ·exact⟨none,rfl,Nat.zero_le _,by simp,upd_same,Same.new hD⟩
  ·rintro i zs τ H' ⟨o,_,_,_,_,sm⟩
   exact SqL.of (sm _ _ hl)
  ·rintro i x zs τ H' hi ⟨o,rfl,_,rfl,hD',sm⟩
   obtain⟨e,names,he,m,ok,dd,sz⟩:=hm i x hi
   have hi':i<rs.length:=(List.getElem?_eq_some_iff.mp hi).1
   refine gn_if ?_
   refine⟨_,rfl,?_⟩
   obtain⟨p1,c1,x1,f1,f2,f3,f4,f5,f6,z1,z2,z3,z4,z5,z6,z7,z8,z9⟩:=WW.call T (A:=A.deeper (PyProof.Rows.envOfC "count_words" (defScope uR) s.heap.objs.size a.f_qo cdv)) hr (m.same sm) ok dd sz
   refine⟨p1,c1,x1,f1,f2,f3,f4,f5,f6,z1,z2,z3,z4,z5,z6,z7,z8,z9 _ fun p H1 t1 s1=>?_⟩
   have ez:(xV es)[i]?=some ((e.size:Nat):Int):=by unfold xV;rw[List.getElem?_map,he];rfl
   refine⟨p,_,rfl,.inl (SqL.of t1),s1 _ _ hD',?_,some x,rfl,hi',?_,upd_same,?_⟩
   ·rw[List.length_map]
    exact zm (Nat.le_trans (List.length_take_le _ _) (by omega))
   ·rw[List.take_add_one,ez,List.map_append,List.length_map,e.words_len]
    rfl
   ·have s2:=sm.trans s1
    intro b o e
    have hb:b≠D:=ne_of_none e hD
    rw[upd_ne hb]
    exact s2 b o e
  ·rintro zs τ H' ⟨o,rfl,_,rfl,hD',sm⟩
   have el:(xV es).take rs.length=xV es:=List.take_of_length_le (by unfold xV;rw[List.length_map,hlen];exact Nat.le_refl _)
   rw[el] at hD'
   exact⟨D,xV es,rfl,SqL.of hD',k H' sm⟩
noncomputable abbrev xc:List Str:=["me", "lines"]
noncomputable abbrev yE:List Str:=["worth", "me", "round", "lines", "to"]
noncomputable abbrev xf:List Str:=["worth", "me", "round", "lines", "sum", "least", "most", "count"]
def zwk (a:Ad) (H:Hp) (e1 e2 e3 e4:Ex) (r1 r2 r3 r4:V):Prop :=
 (Made a H e1 r1∧e1.ok xc∧e1.dep≤8)∧(Made a H e2 r2∧e2.ok yE∧e2.dep≤8)∧(Made a H e3 r3∧e3.ok yE∧e3.dep≤8)∧(Made a H e4 r4∧e4.ok xf∧e4.dep≤8)∧e1.size+e2.size+e3.size+e4.size≤60
def WS (a:Ad):Sp:=fun vs H Q _=>∃ (p dx:Addr) (r1 r2 r3 r4:V) (e1 e2 e3 e4:Ex),vs=[.ref p,r1,r2,r3,r4]∧H p=some (.ins a.c_Program dx [])∧zwk a H e1 e2 e3 e4 r1 r2 r3 r4 ∧
 ∀ H',Same H H'→Q .non (upd H' p (.ins a.c_Program dx [("start",r1),("send",r2),("when",r3),("renew",r4)]))
theorem VJ (T:Txt w K mg a):FnOk P w K mg base CX0 22 a.f_qU a.d_qU ["self", "start", "send", "when", "renew"] (WS a):=by
 have c_qn:Callee P w K mg base "is_sound" a.f_qn a.d_qn ["expr", "names", "deep"] 19 (yv K a 9):=⟨Yt T 9,T.g_qn,T.F_qn.kp,T.b_qn⟩
 have c_qm:Callee P w K mg base "are_sound" a.f_qm a.d_qm ["parts", "names", "deep"] 20 (Vi K a 9):=⟨W4 T (Yt T 9),T.g_qm,T.F_qm.kp,T.b_qm⟩
 have c_qo:Callee P w K mg base "count_words" a.f_qo a.d_qo ["exprs"] 10 (Ys a 8):=⟨Wc T 8,T.g_qo,T.F_qo.kp,T.b_qo⟩
 refine T.F_qU.ok zjx (fun vs H Q E h=>?_) (fun cdv A outer s H vs Q E hr h=>?_)
 ·obtain⟨p,dx,r1,r2,r3,r4,e1,e2,e3,e4,rfl,_⟩:=h
  rfl
 ·obtain⟨p,dx,r1,r2,r3,r4,e1,e2,e3,e4,rfl,hp,⟨⟨m1,o1,d1⟩,⟨m2,o2,d2⟩,⟨m3,o3,d3⟩,⟨m4,o4,d4⟩,hz⟩,k⟩:=h
  have q1:e1.gx.sound xc (8:Int).toNat=true:=Ex.sound o1 d1
  have q2:e2.gx.sound yE (8:Int).toNat=true:=Ex.sound o2 d2
  have q3:e3.gx.sound yE (8:Int).toNat=true:=Ex.sound o3 d3
  have q4:e4.gx.sound xf (8:Int).toNat=true:=Ex.sound o4 d4
  refine zB (w_pss_cons (w_ps_if (yP (zS (zj c_qn (hr.mono (by omega)) (w_pa_N (w_pv 1) (w_pa_N (ya (v:=.ref a.t_START_NAMES) rfl T.g_START_NAMES rfl) (w_pa_N (ya (v:=.int 8) rfl T.g_MOST_DEEP ⟨_,rfl⟩) w_pa_nil))))))
    (ze yj)
    zk)
   (w_pss_cons (w_ps_if (yP (zS (zj c_qm (hr.mono (by omega)) (zf (zr (w_pa_N (w_pv 2) (w_pa_N (w_pv 3) w_pa_nil))) (w_pa_N (ya (v:=.ref a.t_SEND_NAMES) rfl T.g_SEND_NAMES rfl) (w_pa_N (ya (v:=.int 8) rfl T.g_MOST_DEEP ⟨_,rfl⟩) w_pa_nil))))))
    (ze yj)
    zk)
   (w_pss_cons (w_ps_if (yP (zS (zj c_qn (hr.mono (by omega)) (w_pa_N (w_pv 4) (w_pa_N (ya (v:=.ref a.t_RENEW_NAMES) rfl T.g_RENEW_NAMES rfl) (w_pa_N (ya (v:=.int 8) rfl T.g_MOST_DEEP ⟨_,rfl⟩) w_pa_nil))))))
    (ze yj)
    zk)
   (w_pss_cons (w_ps_if (w_pt_cmpR op_gt (zj c_qo (hr.mono (by omega)) (zf (zr (w_pa_N (w_pv 1) (w_pa_N (w_pv 2) (w_pa_N (w_pv 3) (w_pa_N (w_pv 4) w_pa_nil))))) w_pa_nil)) (ya (v:=.int 60) rfl T.g_MOST_WORDS ⟨_,rfl⟩) (zv _))
    (ze yj)
    zk)
   (w_pss_cons (zL (w_pv 0) (w_pv 1) rfl)
   (w_pss_cons (zL (w_pv 0) (w_pv 2) rfl)
   (w_pss_cons (zL (w_pv 0) (w_pv 3) rfl)
   (ze (zL (w_pv 0) (w_pv 4) rfl))))))))) ?_
  refine⟨_,rfl,e1.gx,r1,_,xc,8,rfl,m1.gx T,T.s_START_NAMES,by decide,by decide,fun H1 s1=>⟨_,rfl,yh (by rw[q1];rfl) ?_⟩⟩
  refine⟨_,rfl,_,rfl,(by show 2≤sizeLine;decide),fun lp hlp=>?_⟩
  have s2:=s1.trans (Same.new (o:=HO.lst [r2,r3]) hlp)
  refine⟨lp,_,_,_,yE,8,rfl,upd_same,zwi ((m2.same s2).gx T) ((m3.same s2).gx T),T.s_SEND_NAMES,by decide,by decide,fun H3 s3=>⟨_,rfl,yh (by rw[List.all_cons,List.all_cons,q2,q3];rfl) ?_⟩⟩
  have s3:=s2.trans s3
  refine⟨_,rfl,e4.gx,r4,_,xf,8,rfl,(m4.same s3).gx T,T.s_RENEW_NAMES,by decide,by decide,fun H4 s4=>⟨_,rfl,yh (by rw[q4];rfl) ?_⟩⟩
  have s4:=s3.trans s4
  refine⟨_,rfl,_,rfl,_,rfl,_,rfl,(by show 4≤sizeLine;decide),fun lq hlq=>?_⟩
  have s5:=s4.trans (Same.new (o:=HO.lst [r1,r2,r3,r4]) hlq)
  have big:60≤sizeLine:=by decide
  refine⟨lq,_,[e1,e2,e3,e4],rfl,upd_same,by simp,⟨rfl,fun i r hi=>?_⟩,fun H6 s6=>⟨_,_,rfl,rfl,_,rfl,yh ?_ ?_⟩⟩
  ·match i,hi with
   |0,hi=>cases hi;exact⟨e1,_,rfl,m1.same s5,o1,d1,by omega⟩
   |1,hi=>cases hi;exact⟨e2,_,rfl,m2.same s5,o2,d2,by omega⟩
   |2,hi=>cases hi;exact⟨e3,_,rfl,m3.same s5,o3,d3,by omega⟩
   |3,hi=>cases hi;exact⟨e4,_,rfl,m4.same s5,o4,d4,by omega⟩
   |_+4,hi=>simp at hi
  ·refine decide_eq_false ?_
   show ¬ ((xV [e1,e2,e3,e4]).sum>60)
   simp[xV]
   omega
  ·have s6:=s5.trans s6
   refine⟨_,rfl,_,rfl,p,a.c_Program,dx,_,rfl,s6 _ _ hp,T.cl_Program,T.na_Program_start,(by show 0<1000;decide),?_⟩
   refine⟨_,rfl,_,rfl,p,a.c_Program,dx,_,rfl,upd_same,T.cl_Program,T.na_Program_send,(by show 1<1000;decide),?_⟩
   refine⟨_,rfl,_,rfl,p,a.c_Program,dx,_,rfl,upd_same,T.cl_Program,T.na_Program_when,(by show 2<1000;decide),?_⟩
   refine⟨_,rfl,_,rfl,p,a.c_Program,dx,_,rfl,upd_same,T.cl_Program,T.na_Program_renew,(by show 3<1000;decide),?_⟩
   rw[yg,yg,yg]
   exact k H6 s6
def Yo (a:Ad) (n:Nat):Sp:=fun vs H Q _=>∃ (e:Ex) (v:V) (names:List Str),vs=[v]∧Told H e v∧e.dep≤n∧e.ok names∧∀ r H',Made a H' e r→Same H H'→Q r H'
theorem YI (T:Txt w K mg a):∀ n,FnOk P w K mg base CX0 (n+2) a.f_qB a.d_qB ["_law_told"] (Yo a n)
 |0=>⟨fun vs H Q E h=>by
   obtain⟨e,v,names,rfl,_⟩:=h
   rfl,fun A outer s H args us vs Q E _ _ _ _ h=>by
   obtain⟨e,v,names,_,_,hd,_⟩:=h
   have:=e.dep_pos
   omega⟩
 |n+1=>by
  have c_qB:Callee P w K mg base "_law_made" a.f_qB a.d_qB ["_law_told"] (n+2) (Yo a n):=⟨YI T n,T.g_qB,T.F_qB.kp,T.b_qB⟩
  have m_Num:Maker P w K mg base "Num" a.c_Num a.f_qF a.d_qF ["self", "value"] 1 (zhn a.c_Num "value"):=⟨vW T,T.g_Num,T.mk_Num,T.b_qF⟩
  have m_Name:Maker P w K mg base "Name" a.c_Name a.f_qI a.d_qI ["self", "word"] 1 (zhn a.c_Name "word"):=⟨vm T,T.g_Name,T.mk_Name,T.b_qI⟩
  have m_Two:Maker P w K mg base "Two" a.c_Two a.f_qL a.d_qL ["self", "word", "one", "other"] 1 (zuy a.c_Two "word" "one" "other"):=⟨vV T,T.g_Two,T.mk_Two,T.b_qL⟩
  have m_Mod:Maker P w K mg base "Mod" a.c_Mod a.f_qO a.d_qO ["self", "inner", "number"] 1 (zuz a.c_Mod "inner" "number"):=⟨vX T,T.g_Mod,T.mk_Mod,T.b_qO⟩
  have m_Less:Maker P w K mg base "Less" a.c_Less a.f_qR a.d_qR ["self", "one", "other", "third", "fourth"] 1 (zux a.c_Less "one" "other" "third" "fourth"):=⟨vo T,T.g_Less,T.mk_Less,T.b_qR⟩
  refine T.F_qB.ok zjN (fun vs H Q E h=>?_) (fun cdv A outer s H vs Q E hr h=>?_)
  ·obtain⟨e,v,names,rfl,_⟩:=h
   rfl
  ·obtain⟨e,v,names,rfl,ht,hdep,ho,k⟩:=h
   refine zB (w_pss_cons (w_ps_if (w_pt_cmpR yr (zq zH (w_pv 0) zd (fun _ _=>rfl)) w_pe_str (zv _))
    (ze (zg (xm m_Num (hr.mono (by omega)) (zf (zq zH (w_pv 0) zd (fun _ _=>rfl)) w_pa_nil))))
    zk)
   (w_pss_cons (w_ps_if (w_pt_cmpR yr (zq zH (w_pv 0) zd (fun _ _=>rfl)) w_pe_str (zv _))
    (ze (zg (xm m_Name (hr.mono (by omega)) (zf (zq zH (w_pv 0) zd (fun _ _=>rfl)) w_pa_nil))))
    zk)
   (w_pss_cons (w_ps_if (w_pt_cmpR yr (zq zH (w_pv 0) zd (fun _ _=>rfl)) w_pe_str (zv _))
    (ze (zg (xm m_Mod (hr.mono (by omega)) (zx (zj c_qB (hr.mono (by omega)) (zf (zq zH (w_pv 0) zd (fun _ _=>rfl)) w_pa_nil)) (zf (zq zH (w_pv 0) zd (fun _ _=>rfl)) w_pa_nil)))))
    zk)
   (w_pss_cons (w_ps_if (w_pt_cmpR yr (zq zH (w_pv 0) zd (fun _ _=>rfl)) w_pe_str (zv _))
    (ze (zg (xm m_Less (hr.mono (by omega)) (zx (zj c_qB (hr.mono (by omega)) (zf (zq zH (w_pv 0) zd (fun _ _=>rfl)) w_pa_nil)) (zx (zj c_qB (hr.mono (by omega)) (zf (zq zH (w_pv 0) zd (fun _ _=>rfl)) w_pa_nil)) (zx (zj c_qB (hr.mono (by omega)) (zf (zq zH (w_pv 0) zd (fun _ _=>rfl)) w_pa_nil)) (zx (zj c_qB (hr.mono (by omega)) (zf (zq zH (w_pv 0) zd (fun _ _=>rfl)) w_pa_nil)) w_pa_nil)))))))
    zk)
   (ze (zg (xm m_Two (hr.mono (by omega)) (zf (zq zH (w_pv 0) zd (fun _ _=>rfl)) (zx (zj c_qB (hr.mono (by omega)) (zf (zq zH (w_pv 0) zd (fun _ _=>rfl)) w_pa_nil)) (zx (zj c_qB (hr.mono (by omega)) (zf (zq zH (w_pv 0) zd (fun _ _=>rfl)) w_pa_nil)) w_pa_nil)))))))))) ?_
   cases e with
   |num i =>
    obtain⟨p,rfl,hp⟩:=ht
    refine⟨_,rfl,p,_,0,_,rfl,rfl,SqT.of hp,rfl,rfl,_,rfl,iteB (by decide +kernel) ?_⟩
    refine⟨_,rfl,p,_,1,_,rfl,rfl,SqT.of hp,rfl,fun x dx nx ndx nex=>⟨x,dx,_,rfl,upd_same,rfl,?_⟩⟩
    exact k _ _ ⟨x,dx,rfl,upd_same⟩ (Same.made nx ndx)
   |name i =>
    obtain⟨p,rfl,hp⟩:=ht
    refine⟨_,rfl,p,_,0,_,rfl,rfl,SqT.of hp,rfl,rfl,_,rfl,yh (by decide +kernel) ?_⟩
    refine⟨_,rfl,p,_,0,_,rfl,rfl,SqT.of hp,rfl,rfl,_,rfl,iteB (by decide +kernel) ?_⟩
    refine⟨_,rfl,p,_,1,_,rfl,rfl,SqT.of hp,rfl,fun x dx nx ndx nex=>⟨x,dx,_,rfl,upd_same,rfl,?_⟩⟩
    exact k _ _ ⟨x,dx,rfl,upd_same⟩ (Same.made nx ndx)
   |mod e1 i =>
    obtain⟨p,u1,rfl,hp,t1⟩:=ht
    obtain⟨_,o1⟩:=ho
    have hdep:e1.dep+1≤n+1:=hdep
    refine⟨_,rfl,p,_,0,_,rfl,rfl,SqT.of hp,rfl,rfl,_,rfl,yh (by decide +kernel) ?_⟩
    refine⟨_,rfl,p,_,0,_,rfl,rfl,SqT.of hp,rfl,rfl,_,rfl,yh (by decide +kernel) ?_⟩
    refine⟨_,rfl,p,_,0,_,rfl,rfl,SqT.of hp,rfl,rfl,_,rfl,iteB (by decide +kernel) ?_⟩
    refine⟨_,rfl,p,_,1,_,rfl,rfl,SqT.of hp,rfl,e1,_,names,rfl,t1,by omega,o1,fun r1 H1 m1 s1=>?_⟩
    refine⟨_,rfl,p,_,2,_,rfl,rfl,SqT.of (s1 _ _ hp),rfl,fun x dx nx ndx nex=>⟨x,dx,_,_,rfl,upd_same,rfl,?_⟩⟩
    exact k _ _ ⟨x,dx,r1,rfl,upd_same,m1.same (Same.made nx ndx)⟩ (s1.trans (Same.made nx ndx))
   |less e1 e2 e3 e4 =>
    obtain⟨p,u1,u2,u3,u4,rfl,hp,t1,t2,t3,t4⟩:=ht
    obtain⟨o1,o2,o3,o4⟩:=ho
    have hdep:max (max e1.dep e2.dep) (max e3.dep e4.dep)+1≤n+1:=hdep
    refine⟨_,rfl,p,_,0,_,rfl,rfl,SqT.of hp,rfl,rfl,_,rfl,yh (by decide +kernel) ?_⟩
    refine⟨_,rfl,p,_,0,_,rfl,rfl,SqT.of hp,rfl,rfl,_,rfl,yh (by decide +kernel) ?_⟩
    refine⟨_,rfl,p,_,0,_,rfl,rfl,SqT.of hp,rfl,rfl,_,rfl,yh (by decide +kernel) ?_⟩
    refine⟨_,rfl,p,_,0,_,rfl,rfl,SqT.of hp,rfl,rfl,_,rfl,iteB (by decide +kernel) ?_⟩
    refine⟨_,rfl,p,_,1,_,rfl,rfl,SqT.of hp,rfl,e1,_,names,rfl,t1,by omega,o1,fun r1 H1 m1 s1=>?_⟩
    refine⟨_,rfl,p,_,2,_,rfl,rfl,SqT.of (s1 _ _ hp),rfl,e2,_,names,rfl,t2.same s1,by omega,o2,fun r2 H2 m2 s2=>?_⟩
    have s12:=s1.trans s2
    refine⟨_,rfl,p,_,3,_,rfl,rfl,SqT.of (s12 _ _ hp),rfl,e3,_,names,rfl,t3.same s12,by omega,o3,fun r3 H3 m3 s3=>?_⟩
    have s123:=s12.trans s3
    refine⟨_,rfl,p,_,4,_,rfl,rfl,SqT.of (s123 _ _ hp),rfl,e4,_,names,rfl,t4.same s123,by omega,o4,fun r4 H4 m4 s4=>?_⟩
    refine fun x dx nx ndx nex=>⟨x,dx,_,_,_,_,rfl,upd_same,rfl,?_⟩
    have s5:Same H4 _:=Same.made (C:=a.c_Less) (fs:=[("one",r1),("other",r2),("third",r3),("fourth",r4)]) (fs':=[]) nx ndx
    exact k _ _ ⟨x,dx,r1,r2,r3,r4,rfl,upd_same,m1.same (s2.trans (s3.trans (s4.trans s5))),m2.same (s3.trans (s4.trans s5)),m3.same (s4.trans s5),m4.same s5⟩ (s123.trans (s4.trans s5))
   |two wd e1 e2 =>
    obtain⟨p,u1,u2,rfl,hp,t1,t2⟩:=ht
    obtain⟨hw,o1,o2⟩:=ho
    have hdep:max e1.dep e2.dep+1≤n+1:=hdep
    obtain⟨w1,w2,w3,w4⟩:=zag hw
    refine⟨_,rfl,p,_,0,_,rfl,rfl,SqT.of hp,rfl,rfl,_,rfl,yh w1 ?_⟩
    refine⟨_,rfl,p,_,0,_,rfl,rfl,SqT.of hp,rfl,rfl,_,rfl,yh w2 ?_⟩
    refine⟨_,rfl,p,_,0,_,rfl,rfl,SqT.of hp,rfl,rfl,_,rfl,yh w3 ?_⟩
    refine⟨_,rfl,p,_,0,_,rfl,rfl,SqT.of hp,rfl,rfl,_,rfl,yh w4 ?_⟩
    refine⟨_,rfl,p,_,0,_,rfl,rfl,SqT.of hp,rfl,?_⟩
    refine⟨_,rfl,p,_,1,_,rfl,rfl,SqT.of hp,rfl,e1,_,names,rfl,t1,by omega,o1,fun r1 H1 m1 s1=>?_⟩
    refine⟨_,rfl,p,_,2,_,rfl,rfl,SqT.of (s1 _ _ hp),rfl,e2,_,names,rfl,t2.same s1,by omega,o2,fun r2 H2 m2 s2=>?_⟩
    refine fun x dx nx ndx nex=>⟨x,dx,_,_,_,rfl,upd_same,rfl,?_⟩
    have s5:Same H2 _:=Same.made (C:=a.c_Two) (fs:=[("word",V.str wd),("one",r1),("other",r2)]) (fs':=[]) nx ndx
    exact k _ _ ⟨x,dx,r1,r2,rfl,upd_same,m1.same (s2.trans s5),m2.same s5⟩ ((s1.trans s2).trans s5)
noncomputable abbrev ky (x:Str):Key:=Sum.inr x
noncomputable abbrev kvF (hand lines:Int):List (Key×V):=[(ky "me",.int hand),(ky "lines",.int lines)]
noncomputable abbrev kvS (worth hand turn lines other:Int):List (Key×V):=[(ky "worth",.int worth),(ky "me",.int hand),(ky "round",.int turn),(ky "lines",.int lines),(ky "to",.int other)]
noncomputable abbrev kvR (worth hand turn lines sum mn mx ct:Int):List (Key×V):=[(ky "worth",.int worth),(ky "me",.int hand),(ky "round",.int turn),(ky "lines",.int lines),(ky "sum",.int sum),(ky "least",.int mn),(ky "most",.int mx),(ky "count",.int ct)]
theorem zxn {h l:Int}:Has xc (kvF h l):=fun x hx=>by
 simp only[List.mem_cons,List.not_mem_nil,or_false] at hx
 rcases hx with rfl | rfl
 ·exact⟨h,rfl⟩
 ·exact⟨l,rfl⟩
theorem zwh {q h t l o:Int}:Has yE (kvS q h t l o):=fun x hx=>by
 simp only[List.mem_cons,List.not_mem_nil,or_false] at hx
 rcases hx with rfl | rfl | rfl | rfl | rfl
 ·exact⟨q,rfl⟩
 ·exact⟨h,rfl⟩
 ·exact⟨t,rfl⟩
 ·exact⟨l,rfl⟩
 ·exact⟨o,rfl⟩
theorem zxm {q h t l s mn mx c:Int}:Has xf (kvR q h t l s mn mx c):=fun x hx=>by
 simp only[List.mem_cons,List.not_mem_nil,or_false] at hx
 rcases hx with rfl | rfl | rfl | rfl | rfl | rfl | rfl | rfl
 ·exact⟨q,rfl⟩
 ·exact⟨h,rfl⟩
 ·exact⟨t,rfl⟩
 ·exact⟨l,rfl⟩
 ·exact⟨s,rfl⟩
 ·exact⟨mn,rfl⟩
 ·exact⟨mx,rfl⟩
 ·exact⟨c,rfl⟩
def LstN (ns:List Int) (m:Int):Prop:=(ns=[]∧m=0)∨(m∈ns∧∀ y∈ns,m≤y)
def MstN (ns:List Int) (m:Int):Prop:=(ns=[]∧m=0)∨(m∈ns∧∀ y∈ns,y≤m)
theorem Reckons.call2 {n:Nat}(R:Reckons P w K mg base a n) (T:Txt w K mg a){A:Around}(hr:Room (n+1) A){H:Hp}{e:Ex}{x:V}{names:List Str}(hM:Made a H e x) (hd:e.dep≤n) (ho:e.ok names) :
  ∃ (p C dx:Addr) (fs:List (Str×V)) (f:Addr) (fd:FuncData) (ps:List Str) (k:Nat) (sp:Sp),x=.ref p∧H p=some (.ins C dx fs)∧fs.lookup ("reckon" : Str)=none∧Cls K C∧Meth K C "reckon" f∧FnOk P w K mg base CX0 k f fd ps sp∧Room k A∧Binds K fd ps [] ∧
   ∀ (H1:Hp) (d:Addr) (kvs:List (Key×V)),Same H H1→H1 d=some (.dK kvs)→Has names kvs→∀ Q:VK,Q (.int (e.val (rho kvs))) H1→sp (x::([.ref d]++[])) H1 Q E0:=by
 cases e with
 |num i =>
  obtain⟨p,dx,rfl,hp⟩:=id hM
  exact⟨p,_,dx,_,_,_,_,_,_,rfl,hp,rfl,T.cl_Num,T.mt_qG,R.num,hr,T.b_qG,fun H1 d kvs sm h1 h2 Q q=>⟨_,_,_,_,_,rfl,⟨_,rfl⟩,hM.same sm,hd,ho,h1,h2,q⟩⟩
 |name i =>
  obtain⟨p,dx,rfl,hp⟩:=id hM
  exact⟨p,_,dx,_,_,_,_,_,_,rfl,hp,rfl,T.cl_Name,T.mt_qJ,R.name,hr,T.b_qJ,fun H1 d kvs sm h1 h2 Q q=>⟨_,_,_,_,_,rfl,⟨_,rfl⟩,hM.same sm,hd,ho,h1,h2,q⟩⟩
 |two i e1 e2 =>
  obtain⟨p,dx,u1,u2,rfl,hp,_⟩:=id hM
  exact⟨p,_,dx,_,_,_,_,_,_,rfl,hp,rfl,T.cl_Two,T.mt_qM,R.two,hr,T.b_qM,fun H1 d kvs sm h1 h2 Q q=>⟨_,_,_,_,_,rfl,⟨_,_,_,rfl⟩,hM.same sm,hd,ho,h1,h2,q⟩⟩
 |mod e1 i =>
  obtain⟨p,dx,u1,rfl,hp,_⟩:=id hM
  exact⟨p,_,dx,_,_,_,_,_,_,rfl,hp,rfl,T.cl_Mod,T.mt_qP,R.mod,hr,T.b_qP,fun H1 d kvs sm h1 h2 Q q=>⟨_,_,_,_,_,rfl,⟨_,_,rfl⟩,hM.same sm,hd,ho,h1,h2,q⟩⟩
 |less e1 e2 e3 e4 =>
  obtain⟨p,dx,u1,u2,u3,u4,rfl,hp,_⟩:=id hM
  exact⟨p,_,dx,_,_,_,_,_,_,rfl,hp,rfl,T.cl_Less,T.mt_qS,R.less,hr,T.b_qS,fun H1 d kvs sm h1 h2 Q q=>⟨_,_,_,_,_,rfl,⟨_,_,_,_,rfl⟩,hM.same sm,hd,ho,h1,h2,q⟩⟩
def ProgAt (a:Ad) (H:Hp) (e1 e2 e3 e4:Ex) (r:V):Prop:=∃ (p dx:Addr) (r1 r2 r3 r4:V),r=.ref p∧H p=some (.ins a.c_Program dx [("start",r1),("send",r2),("when",r3),("renew",r4)])∧zwk a H e1 e2 e3 e4 r1 r2 r3 r4
def Vh (a:Ad):Sp:=fun vs H Q _=>∃ (r:V) (e1 e2 e3 e4:Ex) (hand lines:Int),vs=[r,.int hand,.int lines]∧ProgAt a H e1 e2 e3 e4 r∧∀ H',Same H H'→Q (.int (e1.val (rho (kvF hand lines)))) H'
def XS (a:Ad):Sp:=fun vs H Q _=>∃ (r:V) (e1 e2 e3 e4:Ex) (worth hand turn lines other:Int),vs=[r,.int worth,.int hand,.int turn,.int lines,.int other]∧ProgAt a H e1 e2 e3 e4 r ∧
 ∀ H',Same H H'→Q (if e3.val (rho (kvS worth hand turn lines other))>0 then .int (e2.val (rho (kvS worth hand turn lines other))) else .non) H'
def zft (a:Ad):Sp:=fun vs H Q _=>∃ (r:V) (e1 e2 e3 e4:Ex) (worth hand turn lines:Int) (hl:Addr) (ns:List Int),vs=[r,.int worth,.int hand,.int turn,.int lines,.ref hl]∧ProgAt a H e1 e2 e3 e4 r∧H hl=some (.lst (ns.map V.int)) ∧
 ∀ H' mn mx,Same H H'→LstN ns mn→MstN ns mx→Q (.int (e4.val (rho (kvR worth hand turn lines ns.sum mn mx ns.length)))) H'
theorem Wa (T:Txt w K mg a):FnOk P w K mg base CX0 10 a.f_qV a.d_qV ["self", "hand", "lines"] (Vh a):=by
 have RR:Reckons P w K mg base a 8:=xh T 8
 refine T.F_qV.ok zjw (fun vs H Q E h=>?_) (fun cdv A outer s H vs Q E hr h=>?_)
 ·obtain⟨r,e1,e2,e3,e4,hand,lines,rfl,_⟩:=h
  rfl
 ·obtain⟨r,e1,e2,e3,e4,hand,lines,rfl,⟨p,dx,r1,r2,r3,r4,rfl,hp,⟨m1,o1,d1⟩,_⟩,k⟩:=h
  refine zB (ze (zg (w_pe_methD (w_pe_fld (w_pv 0) rfl) (zf (xC (zK w_pe_str (w_pv 1) (zK w_pe_str (w_pv 2) xz)) rfl rfl (by intro z;cases z) (by decide)) w_pa_nil)))) ?_
  refine⟨_,rfl,p,_,dx,_,_,rfl,hp,T.cl_Program,T.na_Program_start,rfl,?_⟩
  obtain⟨p1,c1,x1,f1,f2,f3,f4,f5,f6,q1,q2,q3,q4,q5,q6,q7,q8,q9⟩:=RR.call2 T (A:=A.deeper (PyProof.Rows.envOfC "Program.first_worth" (defScope uT) s.heap.objs.size a.f_qV cdv)) hr m1 d1 o1
  refine⟨p1,c1,x1,f1,f2,f3,f4,f5,f6,q1,q2,q3,q4,q5,q6,q7,q8,fun pd hpd=>⟨_,rfl,_,rfl,upd_same,kvF hand lines,rfl,(by show 2≤15;decide),?_⟩⟩
  have sm:Same H (upd (upd H pd (.dK [])) pd (.dK (mergeK [] (kvF hand lines)))):=fun b o e=>by
   have hb:=ne_of_none e hpd
   rw[upd_ne hb,upd_ne hb]
   exact e
  exact q9 _ pd (kvF hand lines) sm upd_same zxn _ (k _ sm)
theorem uY (T:Txt w K mg a):FnOk P w K mg base CX0 10 a.f_qW a.d_qW ["self", "worth", "hand", "turn", "lines", "other"] (XS a):=by
 have RR:Reckons P w K mg base a 8:=xh T 8
 refine T.F_qW.ok sc_qW (fun vs H Q E h=>?_) (fun cdv A outer s H vs Q E hr h=>?_)
 ·obtain⟨r,e1,e2,e3,e4,worth,hand,turn,lines,other,rfl,_⟩:=h
  rfl
 ·obtain⟨r,e1,e2,e3,e4,worth,hand,turn,lines,other,rfl,⟨p,dx,r1,r2,r3,r4,rfl,hp,_,⟨m2,o2,d2⟩,⟨m3,o3,d3⟩,_⟩,k⟩:=h
  refine zB (w_pss_cons (zi (i:=6) sc_qW.nd rfl (Or.inl rfl) (xC (zK w_pe_str (w_pv 1) (zK w_pe_str (w_pv 2) (zK w_pe_str (w_pv 3) (zK w_pe_str (w_pv 4) (zK w_pe_str (w_pv 5) xz))))) rfl rfl (by intro z;cases z) (by decide)))
   (w_pss_cons (w_ps_if (w_pt_cmpR op_gt (w_pe_methD (w_pe_fld (w_pv 0) rfl) (w_pa_N (w_pv 6) w_pa_nil)) zd (zv _))
    (ze (zg (w_pe_methD (w_pe_fld (w_pv 0) rfl) (w_pa_N (w_pv 6) w_pa_nil))))
    zk)
   (ze (zg ui)))) ?_
  refine fun pd hpd=>⟨_,rfl,_,rfl,_,rfl,_,rfl,_,rfl,upd_same,kvS worth hand turn lines other,rfl,(by show 5≤15;decide),?_⟩
  have sm:Same H (upd (upd H pd (.dK [])) pd (.dK (mergeK [] (kvS worth hand turn lines other)))):=fun b o e=>by
   have hb:=ne_of_none e hpd
   rw[upd_ne hb,upd_ne hb]
   exact e
  have hdd:upd (upd H pd (.dK [])) pd (.dK (mergeK [] (kvS worth hand turn lines other))) pd=some (.dK (kvS worth hand turn lines other)):=upd_same
  generalize upd (upd H pd (.dK [])) pd (.dK (mergeK [] (kvS worth hand turn lines other)))=H1 at sm hdd ⊢
  refine⟨_,rfl,p,_,dx,_,_,rfl,sm _ _ hp,T.cl_Program,T.na_Program_when,rfl,?_⟩
  obtain⟨p1,c1,x1,f1,f2,f3,f4,f5,f6,q1,q2,q3,q4,q5,q6,q7,q8,q9⟩:=RR.call2 T (A:=A.deeper (PyProof.Rows.envOfC "Program.word_to" (defScope vL) s.heap.objs.size a.f_qW cdv)) hr (m3.same sm) d3 o3
  refine⟨p1,c1,x1,f1,f2,f3,f4,f5,f6,q1,q2,q3,q4,q5,q6,q7,q8,_,rfl,q9 H1 pd _ (Same.refl H1) hdd zwh _ ?_⟩
  refine⟨_,_,rfl,rfl,_,rfl,?_⟩
  have k':=k H1 sm
  refine ite2 (fun q=>?_) (fun q=>?_)
  ·have q':e3.val (rho (kvS worth hand turn lines other))>0:=of_decide_eq_true q
   rw[if_pos q'] at k'
   refine⟨_,rfl,p,_,dx,_,_,rfl,sm _ _ hp,T.cl_Program,T.na_Program_send,rfl,?_⟩
   obtain⟨p1,c1,x1,f1,f2,f3,f4,f5,f6,q1,q2,q3,q4,q5,q6,q7,q8,q9⟩:=RR.call2 T (A:=A.deeper (PyProof.Rows.envOfC "Program.word_to" (defScope vL) s.heap.objs.size a.f_qW cdv)) hr (m2.same sm) d2 o2
   exact⟨p1,c1,x1,f1,f2,f3,f4,f5,f6,q1,q2,q3,q4,q5,q6,q7,q8,_,rfl,q9 H1 pd _ (Same.refl H1) hdd zwh _ k'⟩
  ·have q':¬ e3.val (rho (kvS worth hand turn lines other))>0:=fun z=>q (decide_eq_true z)
   rw[if_neg q'] at k'
   exact k'
theorem VL (T:Txt w K mg a):FnOk P w K mg base CX0 10 a.f_qX a.d_qX ["self", "worth", "hand", "turn", "lines", "heard"] (zft a):=by
 have RR:Reckons P w K mg base a 8:=xh T 8
 refine T.F_qX.ok sc_qX (fun vs H Q E h=>?_) (fun cdv A outer s H vs Q E hr h=>?_)
 ·obtain⟨r,e1,e2,e3,e4,worth,hand,turn,lines,hl,ns,rfl,_⟩:=h
  rfl
 ·obtain⟨r,e1,e2,e3,e4,worth,hand,turn,lines,hl,ns,rfl,⟨p,dx,r1,r2,r3,r4,rfl,hp,_,_,_,⟨m4,o4,d4⟩,_⟩,hh,k⟩:=h
  have hu:=xp hr
  refine zB (w_pss_cons (zi (i:=6) sc_qX.nd rfl (Or.inl rfl) (xC (zK w_pe_str (w_pv 1) (zK w_pe_str (w_pv 2) (zK w_pe_str (w_pv 3) (zK w_pe_str (w_pv 4) xz)))) rfl rfl (by intro z;cases z) (by decide)))
   (w_pss_cons (w_ps_dput hu (w_pv 6) w_pe_str (w_pe_callB (call_sumI rfl) (by rfl) T.n_sum Va (w_pa_N (w_pv 5) w_pa_nil)) rfl)
   (w_pss_cons (w_ps_dput hu (w_pv 6) w_pe_str (Zo rfl (by rfl) T.n_min (w_pa_N (w_pv 5) w_pa_nil) zd) rfl)
   (w_pss_cons (w_ps_dput hu (w_pv 6) w_pe_str (Zp rfl (by rfl) T.n_max (w_pa_N (w_pv 5) w_pa_nil) zd) rfl)
   (w_pss_cons (w_ps_dput hu (w_pv 6) w_pe_str (w_pe_callB zn (by rfl) T.n_len zU (w_pa_N (w_pv 5) w_pa_nil)) rfl)
   (ze (zg (w_pe_methD (w_pe_fld (w_pv 0) rfl) (w_pa_N (w_pv 6) w_pa_nil))))))))) ?_
  refine fun pd hpd=>⟨_,rfl,_,rfl,_,rfl,_,rfl,upd_same,[(ky "worth",.int worth),(ky "me",.int hand),(ky "round",.int turn),(ky "lines",.int lines)],rfl,(by show 4≤15;decide),?_⟩
  have hne:hl≠pd:=ne_of_none hh hpd
  have up:∀ {Hx:Hp}{o:HO},Hx hl=some (.lst (ns.map V.int))→upd Hx pd o hl=some (.lst (ns.map V.int)):=fun h=>by rw[upd_ne hne];exact h
  have h1:=up (o:=.dK (mergeK [] [(ky "worth",.int worth),(ky "me",.int hand),(ky "round",.int turn),(ky "lines",.int lines)])) (up (o:=.dK []) hh)
  refine⟨_,rfl,hl,ns,rfl,SqL.of h1,_,rfl,pd,_,rfl,DPut.k (k:=ky "sum") upd_same (zm (by show 4≤1000;decide)),?_⟩
  refine⟨_,rfl,hl,ns,0,rfl,rfl,SqL.of (up h1),fun mn hmn=>⟨_,rfl,pd,_,rfl,DPut.k (k:=ky "least") upd_same (zm (by show 5≤1000;decide)),?_⟩⟩
  refine⟨_,rfl,hl,ns,0,rfl,rfl,SqL.of (up (up h1)),fun mx hmx=>⟨_,rfl,pd,_,rfl,DPut.k (k:=ky "most") upd_same (zm (by show 6≤1000;decide)),?_⟩⟩
  refine⟨_,rfl,hl,_,rfl,.inl (SqL.of (up (up (up h1)))),_,rfl,pd,_,rfl,DPut.k (k:=ky "count") upd_same (zm (by show 7≤1000;decide)),?_⟩
  rw[List.length_map]
  simp only[yg]
  have hdd:upd H pd (.dK (putK (putK (putK (putK (mergeK [] [(ky "worth",.int worth),(ky "me",.int hand),(ky "round",.int turn),(ky "lines",.int lines)]) (ky "sum") (.int ns.sum)) (ky "least") (.int mn)) (ky "most") (.int mx)) (ky "count") (.int ns.length))) pd=some (.dK (kvR worth hand turn lines ns.sum mn mx ns.length)):=upd_same
  have sm:=Same.new (o:=.dK (putK (putK (putK (putK (mergeK [] [(ky "worth",.int worth),(ky "me",.int hand),(ky "round",.int turn),(ky "lines",.int lines)]) (ky "sum") (.int ns.sum)) (ky "least") (.int mn)) (ky "most") (.int mx)) (ky "count") (.int ns.length))) hpd
  generalize upd H pd (.dK (putK (putK (putK (putK (mergeK [] [(ky "worth",.int worth),(ky "me",.int hand),(ky "round",.int turn),(ky "lines",.int lines)]) (ky "sum") (.int ns.sum)) (ky "least") (.int mn)) (ky "most") (.int mx)) (ky "count") (.int ns.length)))=H1 at sm hdd ⊢
  refine⟨_,rfl,p,_,dx,_,_,rfl,sm _ _ hp,T.cl_Program,T.na_Program_renew,rfl,?_⟩
  obtain⟨p1,c1,x1,f1,f2,f3,f4,f5,f6,q1,q2,q3,q4,q5,q6,q7,q8,q9⟩:=RR.call2 T (A:=A.deeper (PyProof.Rows.envOfC "Program.next_worth" (defScope uS) s.heap.objs.size a.f_qX cdv)) hr (m4.same sm) d4 o4
  exact⟨p1,c1,x1,f1,f2,f3,f4,f5,f6,q1,q2,q3,q4,q5,q6,q7,q8,_,rfl,q9 H1 pd _ (Same.refl H1) hdd zxm _ (k H1 mn mx sm hmn hmx)⟩
def LnAt (H:Hp) (rs:List V) (ls:List (Int×Int)):Prop:=rs.length=ls.length∧∀ (i:Nat) r p,rs[i]?=some r→ls[i]?=some p→∃ q,r=.ref q∧H q=some (.tup [.int p.1,.int p.2])
theorem LnAt.same {H H':Hp}{rs:List V}{ls:List (Int×Int)}(h:LnAt H rs ls) (s:Same H H'):LnAt H' rs ls:=⟨h.1,fun i r p h1 h2=>by
 obtain⟨q,e,t⟩:=h.2 i r p h1 h2
 exact⟨q,e,s _ _ t⟩⟩
theorem LnAt.get {H:Hp}{rs:List V}{ls:List (Int×Int)}(h:LnAt H rs ls){i:Nat}{r:V}(e:rs[i]?=some r):∃ p q,ls[i]?=some p∧r=.ref q∧H q=some (.tup [.int p.1,.int p.2]):=by
 have hi:i<ls.length:=by rw[← h.1];exact(List.getElem?_eq_some_iff.mp e).1
 have hp:ls[i]?=some ls[i]:=by simp[hi]
 obtain⟨q,e1,e2⟩:=h.2 i r _ e hp
 exact⟨_,q,hp,e1,e2⟩
theorem v7 {x:Int}:∀ {ns:List Int},inV (.int x) (ns.map V.int)=decide (x∈ns)
 |[]=>by simp[inV]
 |n::ns=>by
  have ih:=v7 (x:=x) (ns:=ns)
  unfold inV at ih ⊢
  rw[List.map_cons,List.any_cons,ih]
  show((n == x)||decide (x∈ns))=decide (x∈n::ns)
  by_cases e:n=x
  ·simp[e]
  ·have e':¬ x=n:=fun z=>e z.symm
   simp[e,e']
theorem vy (ns:List Int):(ns.map V.int).all yM=true:=by
 rw[List.all_eq_true]
 intro v hv
 obtain⟨x,_,rfl⟩:=List.mem_map.mp hv
 rfl
def wv:Sp:=fun vs H Q _=>∃ i:Int,vs=[.int i]∧Q (.bl true) H
theorem wD (T:Txt w K mg a):FnOk P w K mg base CX0 1 a.f_qi a.d_qi ["value"] wv:=by
 refine T.F_qi.ok zfw (fun vs H Q E h=>?_) (fun cdv A outer s H vs Q E hr h=>?_)
 ·obtain⟨i,rfl,_⟩:=h
  rfl
 ·obtain⟨i,rfl,k⟩:=h
  refine⟨_,(zM (yt (uy (zY zP (by rfl) T.n_isinstance zw (xn (pv 0) (xn (wc T.n_int Vb) zQ))) (YC (WY (zY zP (by rfl) T.n_isinstance zw (xn (pv 0) (xn (wc T.n_bool Xg) zQ)))))))),?_⟩
  refine⟨_,rfl,_,_,_,_,_,rfl,rfl,.int i,T.k_tint_tint,_,rfl,XF ?_⟩
  exact⟨_,rfl,_,_,_,_,_,rfl,rfl,.int i,T.k_tint_tbool,_,rfl,k⟩
def Yq:Sp:=fun vs H Q _=>∃ (h:Addr) (hs:List Int),vs=[.ref h]∧H h=some (.lst (hs.map V.int))∧Hs hs∧Q (.bl true) H
theorem X9 (T:Txt w K mg a):FnOk P w K mg base CX0 2 a.f_qp a.d_qp ["hands"] Yq:=by
 have c_qi:Callee P w K mg base "is_whole" a.f_qi a.d_qi ["value"] 1 wv:=⟨wD T,T.g_qi,T.F_qi.kp,T.b_qi⟩
 refine T.F_qp.ok sc_qp (fun vs H Q E h=>?_) (fun cdv A outer s H vs Q E hr h=>?_)
 ·obtain⟨h,hs,rfl,_⟩:=h
  rfl
 ·obtain⟨h,hs,rfl,hh,W,k⟩:=h
  have w1:=W.l1
  have w12:=W.l12
  refine⟨_,(zA (wz (PW.pt (vf (yG (yF (zY zP (by rfl) T.n_isinstance zw (xn (pv 0) (xn (wc T.n_list xS) zQ))))) (vf (xi xH (zY zn (by rfl) T.n_len zU (xn (pv 0) zQ)) yH (zv _)) (wb (xi op_gt (zY zn (by rfl) T.n_len zU (xn (pv 0) zQ)) (wB (v:=.int 12) rfl T.g_MOST_HANDS ⟨_,rfl⟩) (zv _))))))
    (zM (yt xW))
    yp)
   (zA (vg (i:=1) sc_qp.nd rfl (Or.inl rfl) (zfM wX yH))
   (zA (vh PassesOwn.never rfl (xG (pv 0)) (xj (i:=2) sc_qp.nd rfl (Or.inl rfl))
    (zA (wz (PW.pt (vf (yG (yF (W0 c_qi (hr.mono (by omega)) (xn (pv 2) zQ)))) (vf (xi zfU (pv 2) (pv 1) (zv _)) (wb (xi op_gt (pv 2) (wB (v:=.int 99) rfl T.g_LAST_HAND ⟨_,rfl⟩) (zv _))))))
     (zM (yt xW))
     yp)
    (zM (vg (i:=1) sc_qp.nd rfl (Or.inl rfl) (pv 2)))))
   (zM (yt xW))))),?_⟩
  refine⟨_,rfl,_,_,_,_,_,rfl,rfl,.lst hh,T.k_tlist_tlist,_,rfl,yh rfl ?_⟩
  refine⟨_,rfl,h,_,rfl,.inl (SqL.of hh),_,_,rfl,rfl,_,rfl,yh (decide_eq_false (by rw[List.length_map];omega)) ?_⟩
  refine⟨_,rfl,h,_,rfl,.inl (SqL.of hh),_,_,rfl,rfl,_,rfl,yh (decide_eq_false (by rw[List.length_map];omega)) ?_⟩
  refine⟨1,rfl,_,rfl,h,rfl,⟨_,SqL.of hh⟩,?_⟩
  refine zR (K:=K) (a:=h) (xs:=hs.map V.int) (fun i σ H'=>H'=H∧∃ (m:Int) (o:Option V),σ=[some (.ref h),some (.int m),o]∧-1≤m∧∀ j x,i≤j→hs[j]?=some x→m<x) ?_ ?_ ?_ ?_
  ·refine⟨rfl,-1,none,rfl,Int.le_refl _,fun j x _ hx=>?_⟩
   have:=W.lo x (List.mem_of_getElem? hx)
   omega
  ·rintro i σ H' _ ⟨rfl,_⟩
   exact SqL.of hh
  ·rintro i x σ H' hi ⟨rfl,m,o,rfl,hm,hall⟩
   rw[List.getElem?_map] at hi
   obtain⟨y,hy,rfl⟩:=Option.map_eq_some_iff.mp hi
   have y1:=hall i y (Nat.le_refl _) hy
   have y2:=W.hi y (List.mem_of_getElem? hy)
   refine⟨_,rfl,y,rfl,_,rfl,yh rfl ?_⟩
   refine⟨_,rfl,_,rfl,_,_,rfl,rfl,_,rfl,yh (decide_eq_false (by omega)) ?_⟩
   refine⟨_,rfl,_,_,rfl,rfl,_,rfl,yh (decide_eq_false (by omega)) ?_⟩
   refine⟨_,rfl,rfl,y,_,rfl,by omega,fun j z hj hz=>?_⟩
   have hlt:i<j:=by omega
   obtain⟨b1,e1⟩:=List.getElem?_eq_some_iff.mp hy
   obtain⟨b2,e2⟩:=List.getElem?_eq_some_iff.mp hz
   rw[← e1,← e2]
   exact List.pairwise_iff_getElem.mp W.up i j b1 b2 hlt
  ·rintro σ H' ⟨rfl,_⟩
   exact k
def spLine:Sp:=fun vs H Q _=>∃ (q h:Addr) (hs:List Int) (p:Int×Int),vs=[.ref q,.ref h]∧H q=some (.tup [.int p.1,.int p.2])∧H h=some (.lst (hs.map V.int))∧(p.1∈hs∧p.2∈hs∧p.1<p.2)∧Q (.bl true) H
theorem VO (T:Txt w K mg a):FnOk P w K mg base CX0 2 a.f_qq a.d_qq ["line", "hands"] spLine:=by
 have c_qi:Callee P w K mg base "is_whole" a.f_qi a.d_qi ["value"] 1 wv:=⟨wD T,T.g_qi,T.F_qi.kp,T.b_qi⟩
 refine T.F_qq.ok zjj (fun vs H Q E h=>?_) (fun cdv A outer s H vs Q E hr h=>?_)
 ·obtain⟨q,h,hs,p,rfl,_⟩:=h
  rfl
 ·obtain⟨q,h,hs,⟨x,y⟩,rfl,hq,hh,⟨h1,h2,h3⟩,k⟩:=h
  dsimp only at hq h1 h2 h3
  refine⟨_,(zA (wz (PW.pt (vf (yG (yF (zY zP (by rfl) T.n_isinstance zw (xn (pv 0) (xn (wc T.n_tuple uL) zQ))))) (wb (xi zjX (zY zn (by rfl) T.n_len zU (xn (pv 0) zQ)) yH (zv _)))))
    (zM (yt xW))
    yp)
   (zA (wz (PW.pt (vf (yG (yF (W0 c_qi (hr.mono (by omega)) (yq (vR zH (pv 0) yH (fun _ _=>rfl)) zQ)))) (wb (yG (yF (W0 c_qi (hr.mono (by omega)) (yq (vR zH (pv 0) yH (fun _ _=>rfl)) zQ)))))))
    (zM (yt xW))
    yp)
   (zM (yt (uy (wC xI (vR zH (pv 0) yH (fun _ _=>rfl)) (pv 1) (by with_unfolding_all rfl)) (uy (wC xI (vR zH (pv 0) yH (fun _ _=>rfl)) (pv 1) (by with_unfolding_all rfl)) (YC (wC xH (vR zH (pv 0) yH (fun _ _=>rfl)) (vR zH (pv 0) yH (fun _ _=>rfl)) (zv _))))))))),?_⟩
  refine⟨_,rfl,_,_,_,_,_,rfl,rfl,.tup hq,T.k_ttuple_ttuple,_,rfl,yh rfl ?_⟩
  refine⟨_,rfl,q,_,rfl,.inr (SqT.of hq),rfl,_,rfl,yh rfl ?_⟩
  refine⟨_,rfl,q,_,0,_,rfl,rfl,SqT.of hq,rfl,x,rfl,_,rfl,yh rfl ?_⟩
  refine⟨_,rfl,q,_,1,_,rfl,rfl,SqT.of hq,rfl,y,rfl,_,rfl,yh rfl ?_⟩
  refine⟨_,rfl,q,_,0,_,rfl,rfl,SqT.of hq,rfl,_,rfl,h,_,rfl,.inl (SqL.of hh),rfl,vy hs,_,rfl,iteB (by show inV (.int x) _=true;rw[v7];exact decide_eq_true h1) ?_⟩
  refine⟨_,rfl,q,_,1,_,rfl,rfl,SqT.of hq,rfl,_,rfl,h,_,rfl,.inl (SqL.of hh),rfl,vy hs,_,rfl,iteB (by show inV (.int y) _=true;rw[v7];exact decide_eq_true h2) ?_⟩
  refine⟨_,rfl,q,_,0,_,rfl,rfl,SqT.of hq,rfl,_,rfl,q,_,1,_,rfl,rfl,SqT.of hq,rfl,_,_,rfl,rfl,?_⟩
  show Q (.bl (decide (x<y))) H
  rw[decide_eq_true h3]
  exact k
section
variable {κ:Type} [DecidableEq κ]
theorem wW {kvs:List (κ×V)}{k:κ}:(xu kvs k).isSome=decide (k∈kvs.map (·.1)):=by
 rw[← xt]
 by_cases h:k∈kvs.map (·.1)
 ·rw[decide_eq_true h,List.any_eq_true]
  obtain⟨p,hp,rfl⟩:=List.mem_map.mp h
  exact⟨p,hp,decide_eq_true rfl⟩
 ·rw[decide_eq_false h,List.any_eq_false]
  intro p hp e
  exact h (List.mem_map.mpr ⟨p,hp,of_decide_eq_true e⟩)
theorem valV_no {kvs:List (κ×V)}{k:κ}(h:k∉kvs.map (·.1)):(xu kvs k).isSome=false:=by rw[wW];exact decide_eq_false h
theorem putK_new {kvs:List (κ×V)}{k:κ}{v:V}(h:k∉kvs.map (·.1)):putK kvs k v=kvs++[(k,v)]:=by
 unfold putK
 rw[if_neg]
 rw[xt,wW,decide_eq_true_iff]
 exact h
end
theorem _root_.L2.Same.updF {p:Addr}{H H':Hp}{o:HO}(x:Same H H') (h:H p=none):Same H (L2.upd H' p o):=fun b u e=>by
 rw[upd_ne (ne_of_none e h)];exact x b u e
noncomputable abbrev V2 (p:Int×Int):List Key:=[Sum.inl p.1,Sum.inl p.2]
theorem Wv {p q:Int×Int}(h:V2 p=V2 q):p=q:=by
 obtain⟨a,b⟩:=p
 obtain⟨c,d⟩:=q
 simp[V2] at h
 rw[h.1,h.2]
theorem xk {α:Type}{xs:List α}{i:Nat}{x:α}(h:xs.Nodup) (e:xs[i]?=some x):x∉xs.take i:=by
 intro m
 obtain⟨j,hj,ej⟩:=List.getElem_of_mem m
 obtain⟨hi,ei⟩:=List.getElem?_eq_some_iff.mp e
 rw[List.getElem_take] at ej
 rw[List.length_take] at hj
 have:=(List.nodup_iff_pairwise_ne.mp h)
 exact List.pairwise_iff_getElem.mp this j i (by omega) hi (by omega) (ej.trans ei.symm)
def Yp:Sp:=fun vs H Q _=>∃ (l h:Addr) (rs:List V) (hs:List Int) (ls:List (Int×Int)),vs=[.ref l,.ref h]∧H l=some (.lst rs)∧LnAt H rs ls∧H h=some (.lst (hs.map V.int))∧Ls hs ls∧∀ H',Same H H'→Q (.bl true) H'
theorem X8 (T:Txt w K mg a):FnOk P w K mg base CX0 3 a.f_qr a.d_qr ["lines", "hands"] Yp:=by
 have c_qq:Callee P w K mg base "is_line" a.f_qq a.d_qq ["line", "hands"] 2 spLine:=⟨VO T,T.g_qq,T.F_qq.kp,T.b_qq⟩
 refine T.F_qr.ok sc_qr (fun vs H Q E h=>?_) (fun cdv A outer s H vs Q E hr h=>?_)
 ·obtain⟨l,h,rs,hs,ls,rfl,_⟩:=h
  rfl
 ·obtain⟨l,h,rs,hs,ls,rfl,hl,hrs,hh,L,k⟩:=h
  have l66:=L.le
  have hu:=xp hr
  refine⟨_,(zA (wz (yG (yF (zY zP (by rfl) T.n_isinstance zw (xn (pv 0) (xn (wc T.n_list xS) zQ)))))
    (zM (yt xW))
    yp)
   (zA (vg (i:=2) sc_qr.nd rfl (Or.inl rfl) X6)
   (zA (vh PassesOwn.never rfl (xG (pv 0)) (xj (i:=3) sc_qr.nd rfl (Or.inl rfl))
    (zA (wz (PW.pt (vf (yG (yF (W0 c_qq (hr.mono (by omega)) (xn (pv 3) (xn (pv 1) zQ))))) (wb (zfI (W1 hu (pv 3) (pv 2))))))
     (zM (yt xW))
     yp)
    (zM (vQ hu (pv 2) (pv 3) xW rfl))))
   (zM (yt xW))))),?_⟩
  refine⟨_,rfl,_,_,_,_,_,rfl,rfl,.lst hl,T.k_tlist_tlist,_,rfl,yh rfl ?_⟩
  refine fun d hd=>?_
  refine⟨_,rfl,l,rfl,⟨_,SqL.of (Same.new hd _ _ hl)⟩,?_⟩
  refine zR (K:=K) (a:=l) (xs:=rs) (fun i σ H'=>∃ (kvs:List (List Key×V)) (o:Option V),σ=[some (.ref l),some (.ref h),some (.ref d),o]∧H' d=some (.dT kvs)∧kvs.map (·.1)=(ls.take i).map V2∧Same H H') ?_ ?_ ?_ ?_
  ·exact⟨[],none,rfl,upd_same,by simp,Same.new hd⟩
  ·rintro i σ H' _ ⟨kvs,o,_,_,_,sm⟩
   exact SqL.of (sm _ _ hl)
  ·rintro i x σ H' hi ⟨kvs,o,rfl,hd',hk,sm⟩
   obtain⟨p,q,hp,rfl,hq⟩:=(hrs.same sm).get hi
   have hm:p∈ls:=List.mem_of_getElem? hp
   refine⟨_,rfl,_,rfl,q,h,hs,p,rfl,hq,sm _ _ hh,L.ok p hm,_,rfl,yh rfl ?_⟩
   have hnew:V2 p∉kvs.map (·.1):=by
    rw[hk]
    intro z
    obtain⟨p',m',e'⟩:=List.mem_map.mp z
    rw[Wv e'] at m'
    exact xk L.nd hp m'
   have hz:kvs.length≤1000:=by
    have:=congrArg List.length hk
    rw[List.length_map,List.length_map,List.length_take] at this
    omega
   refine⟨_,rfl,_,rfl,d,_,rfl,DGet.t (k:=V2 p) hd' hq,_,rfl,yh ?_ ?_⟩
   ·exact valV_no hnew
   ·refine⟨_,rfl,_,rfl,d,_,rfl,DPut.t (k:=V2 p) hd' hq (zm hz),?_⟩
    refine⟨_,_,rfl,upd_same,?_,sm.updF hd⟩
    rw[putK_new hnew,List.map_append,hk,List.take_add_one,hp,List.map_append]
    rfl
  ·rintro σ H' ⟨kvs,o,_,_,_,sm⟩
   exact k H' sm
def tab (ad:Int→Addr) (us:List Int):List (Key×V):=us.map fun h=>(Sum.inl h,V.ref (ad h))
theorem wt {ad:Int→Addr}{us:List Int}:(tab ad us).map (·.1)=us.map Sum.inl:=by
 unfold tab;rw[List.map_map];rfl
theorem Zv {ad:Int→Addr}{x:Int}:∀ {us:List Int},x∈us→xu (tab ad us) (Sum.inl x:Key)=some (V.ref (ad x))
 |u::us,h=>by
  show xu ((Sum.inl u,V.ref (ad u))::tab ad us) _=_
  by_cases e:u=x
  ·subst e;rw[xq rfl]
  ·rw[xr (fun z=>e (by injection z)),Zv]
   rcases List.mem_cons.mp h with z | z
   ·exact absurd z.symm e
   ·exact z
theorem xb {H:Hp}{d:Addr}{ad:Int→Addr}{us:List Int}{x:Int}(e:H d=some (.dK (tab ad us))) (h:x∈us):DGet H d (V.int x) (some (V.ref (ad x))):=by
 have:=DGet.k (k:=Sum.inl x) e
 rw[Zv h] at this
 exact this
theorem Y0 {x:Int}{us:List Int}:(Sum.inl x:Key)∈us.map (Sum.inl:Int→Key)↔x∈us:=by
 rw[List.mem_map]
 exact⟨fun⟨y,h,e⟩=>by injection e with e;exact e ▸ h,fun h=>⟨x,h,rfl⟩⟩
noncomputable def Uc (ad:Int→Addr) (y:Int) (p:Addr):Int→Addr:=fun x=>if x=y then p else ad x
theorem putA_at {ad:Int→Addr}{x y:Int}{p:Addr}(e:x=y):Uc ad y p x=p:=if_pos e
theorem putA_ne {ad:Int→Addr}{x y:Int}{p:Addr}(e:¬ x=y):Uc ad y p x=ad x:=if_neg e
structure Near (H:Hp) (d:Addr) (hs:List Int) (ls:List (Int×Int)) (ad:Int→Addr):Prop where
 d:H d=some (.dK (tab ad hs))
 nb:∀ h∈hs,H (ad h)=some (.lst ((nbs ls h).map V.int))
theorem Near.same {H H':Hp}{d:Addr}{hs:List Int}{ls:List (Int×Int)}{ad:Int→Addr}(n:Near H d hs ls ad) (s:Same H H'):Near H' d hs ls ad:=⟨s _ _ n.d,fun h m=>s _ _ (n.nb h m)⟩
def WT:Sp:=fun vs H Q _=>∃ (h l:Addr) (rs:List V) (hs:List Int) (ls:List (Int×Int)),vs=[.ref h,.ref l]∧H h=some (.lst (hs.map V.int))∧H l=some (.lst rs)∧LnAt H rs ls∧Hs hs∧Ls hs ls ∧
 ∀ (d:Addr) (ad:Int→Addr) H',Same H H'→H d=none→(∀ x∈hs,H (ad x)=none)→Near H' d hs ls ad→Q (.ref d) H'
theorem VM (T:Txt w K mg a):FnOk P w K mg base CX0 1 a.f_qs a.d_qs ["hands", "lines"] WT:=by
 refine T.F_qs.ok sc_qs (fun vs H Q E h=>?_) (fun cdv A outer s H vs Q E hr h=>?_)
 ·obtain⟨h,l,rs,hs,ls,rfl,_⟩:=h
  rfl
 ·obtain⟨h,l,rs,hs,ls,rfl,hh,hl,hrs,W,L,k⟩:=h
  have l66:=L.le
  have l12:=W.l12
  have hu:=xp hr
  refine⟨_,(zA (vg (i:=2) sc_qs.nd rfl (Or.inl rfl) uw)
   (zA (vh PassesOwn.never rfl (xG (pv 0)) (xj (i:=3) sc_qs.nd rfl (Or.inl rfl))
    (zM (vQ hu (pv 2) (pv 3) (WZ zQ) rfl)))
   (zA (vh PassesOwn.never rfl (xG (pv 1)) (WX rfl (wA (xj (i:=4) sc_qs.nd rfl (Or.inl rfl)) (wA (xj (i:=5) sc_qs.nd rfl (Or.inl rfl)) YB)))
    (zA (vP (VF PySem.F.plainAttrs_list PySem.F.slot_list_append PySem.F.type_list_append zC (vS hu (pv 2) (pv 4) (fun _ _=>rfl)) (xn (pv 5) zQ)))
    (zM (vP (VF PySem.F.plainAttrs_list PySem.F.slot_list_append PySem.F.type_list_append zC (vS hu (pv 2) (pv 5) (fun _ _=>rfl)) (xn (pv 4) zQ))))))
   (zM (yt (pv 2)))))),?_⟩
  refine fun d hd=>?_
  refine⟨_,rfl,h,rfl,⟨_,SqL.of (Same.new hd _ _ hh)⟩,?_⟩
  refine zR (K:=K) (a:=h) (xs:=hs.map V.int) (fun i σ H'=>∃ (ad:Int→Addr) (o:Option V),σ=[some (.ref h),some (.ref l),some (.ref d),o,none,none]∧H' d=some (.dK (tab ad (hs.take i))) ∧
   (∀ x∈hs.take i,H' (ad x)=some (.lst [])∧H (ad x)=none)∧(∀ x∈hs.take i,∀ y∈hs.take i,ad x=ad y→x=y)∧Same H H') ?_ ?_ ?_ ?_
  ·exact⟨fun _=>0,none,rfl,upd_same,fun x hx=>by simp at hx,fun x hx=>by simp at hx,Same.new hd⟩
  ·rintro i σ H' _ ⟨ad,o,_,_,_,_,sm⟩
   exact SqL.of (sm _ _ hh)
  ·rintro i x σ H' hi ⟨ad,o,rfl,hd',hat,hinj,sm⟩
   rw[List.getElem?_map] at hi
   obtain⟨y,hy,rfl⟩:=Option.map_eq_some_iff.mp hi
   have hnew:y∉hs.take i:=xk (XQ W.up) hy
   refine⟨(by show 0≤sizeLine;decide),fun p hp=>?_⟩
   have hpd:p≠d:=fun z=>by rw[z,hd'] at hp;cases hp
   have hd2:(upd H' p (.lst [])) d=some (.dK (tab ad (hs.take i))):=by rw[upd_ne hpd.symm];exact hd'
   refine⟨_,rfl,_,rfl,d,_,rfl,DPut.k (k:=Sum.inl y) hd2 (zm ?_),?_⟩
   ·unfold tab
    rw[List.length_map,List.length_take];omega
   ·have et:hs.take (i+1)=hs.take i++[y]:=by rw[List.take_add_one,hy];rfl
    have hp0:H p=none:=sm.free hp
    have hne:∀ x∈hs.take i,ad x≠p:=fun x hx z=>by
     have:=(hat x hx).1
     rw[z,hp] at this;cases this
    have had:∀ x∈hs.take i,ad x≠d:=fun x hx z=>by
     have:=(hat x hx).1
     rw[z,hd'] at this;cases this
    refine⟨Uc ad y p,_,rfl,?_,?_,?_,(sm.updF hp0).updF hd⟩
    ·rw[upd_same,K04.putK_new (by rw[wt,Y0];exact hnew),et]
     unfold tab
     rw[List.map_append]
     congr 3
     ·refine List.map_congr_left fun x hx=>?_
      rw[putA_ne (fun z=>hnew (by rw[← z];exact hx))]
     ·show _=[(Sum.inl y,V.ref (Uc ad y p y))]
      rw[putA_at rfl]
    ·intro x hx
     rw[et,List.mem_append,List.mem_singleton] at hx
     by_cases e:x=y
     ·rw[putA_at e,upd_ne hpd,upd_same]
      exact⟨rfl,hp0⟩
     ·rw[putA_ne e]
      have hx:=hx.resolve_right e
      rw[upd_ne (had x hx),upd_ne (hne x hx)]
      exact hat x hx
    ·intro x hx z hz
     rw[et,List.mem_append,List.mem_singleton] at hx hz
     by_cases e1:x=y
     ·by_cases e2:z=y
      ·intro _;rw[e1,e2]
      ·rw[putA_at e1,putA_ne e2]
       intro q;exact absurd q.symm (hne z (hz.resolve_right e2))
     ·by_cases e2:z=y
      ·rw[putA_ne e1,putA_at e2]
       intro q;exact absurd q (hne x (hx.resolve_right e1))
      ·rw[putA_ne e1,putA_ne e2]
       exact hinj x (hx.resolve_right e1) z (hz.resolve_right e2)
  ·rintro σ H1 ⟨ad,o,rfl,hd',hat,hinj,sm⟩
   rw[List.length_map,List.take_length] at hd' hat hinj
   refine⟨_,rfl,l,rfl,⟨_,SqL.of (sm _ _ hl)⟩,?_⟩
   refine zR (K:=K) (a:=l) (xs:=rs) (fun i σ H'=>∃ (o1 o2:Option V),σ=[some (.ref h),some (.ref l),some (.ref d),o,o1,o2]∧Near H' d hs (ls.take i) ad∧Same H H') ?_ ?_ ?_ ?_
   ·exact⟨none,none,rfl,⟨hd',fun x hx=>by rw[List.take_zero];exact(hat x hx).1⟩,sm⟩
   ·rintro i σ H' _ ⟨o1,o2,_,_,sm'⟩
    exact SqL.of (sm' _ _ hl)
   ·rintro i x σ H' hi ⟨o1,o2,rfl,N,sm'⟩
    obtain⟨⟨x,y⟩,q,hp,rfl,hq⟩:=(hrs.same sm').get hi
    obtain⟨hx,hy,hxy⟩:=L.ok _ (List.mem_of_getElem? hp)
    dsimp only at hq hx hy hxy
    refine⟨q,_,rfl,SqT.of hq,rfl,_,_,rfl,_,_,rfl,rfl,?_⟩
    have len:∀ z,((nbs (ls.take i) z).map V.int).length<sizeLine:=fun z=>by
     rw[List.length_map]
     have:=YM (h:=z) (ls:=ls.take i)
     rw[List.length_take] at this
     exact zm (by omega)
    have hdx:ad x≠d:=fun z=>by
     have:=N.nb x hx
     rw[z,N.d] at this;cases this
    have hdy:ad y≠d:=fun z=>by
     have:=N.nb y hy
     rw[z,N.d] at this;cases this
    have hne:ad y≠ad x:=fun z=>by have:=hinj y hy x hx z;omega
    refine⟨_,rfl,_,rfl,d,V.ref (ad x),rfl,xb N.d hx,.inl ⟨rfl,_,SqL.of (N.nb x hx)⟩,_,rfl,_,_,_,rfl,rfl,N.nb x hx,len x,?_⟩
    have nd2:(upd H' (ad x) (.lst ((nbs (ls.take i) x).map V.int++[V.int y]))) d=some (.dK (tab ad hs)):=by rw[upd_ne hdx.symm];exact N.d
    have ny2:(upd H' (ad x) (.lst ((nbs (ls.take i) x).map V.int++[V.int y]))) (ad y)=some (.lst ((nbs (ls.take i) y).map V.int)):=by rw[upd_ne hne];exact N.nb y hy
    refine⟨_,rfl,_,rfl,d,V.ref (ad y),rfl,xb nd2 hy,.inl ⟨rfl,_,SqL.of ny2⟩,_,rfl,_,_,_,rfl,rfl,ny2,len y,?_⟩
    refine⟨_,_,rfl,⟨?_,fun z hz=>?_⟩,(sm'.updF (hat x hx).2).updF (hat y hy).2⟩
    ·rw[upd_ne hdy.symm];exact nd2
    ·rw[Wk hp]
     by_cases e2:z=y
     ·subst e2
      rw[upd_same,if_neg (by show ¬ x=z;omega),if_pos rfl,List.map_append]
      rfl
     ·rw[upd_ne (fun q=>e2 (hinj z hz y hy q))]
      by_cases e1:z=x
      ·subst e1
       rw[upd_same,if_pos rfl,if_neg (by show ¬ y=z;omega),List.map_append]
       rfl
      ·rw[upd_ne (fun q=>e1 (hinj z hz x hx q)),if_neg (fun q=>e1 q.symm),if_neg (fun q=>e2 q.symm),List.append_nil,List.append_nil]
       exact N.nb z hz
   ·rintro σ H' ⟨o1,o2,rfl,N,sm'⟩
    rw[hrs.1,List.take_length] at N
    exact⟨_,rfl,k d ad H' sm' hd (fun x hx=>(hat x hx).2) N⟩
open L2.Srt (wk)
theorem Near.ext {H H':Hp}{d p dx C:Addr}{fs:List (Str×V)}{hs:List Int}{ls:List (Int×Int)}{ad:Int→Addr}(n:Near H d hs ls ad) (hp:H p=some (.ins C dx fs)) (s:Ext p H H'):Near H' d hs ls ad :=
 ⟨s _ _ n.d (fun z=>by rw[← z,n.d] at hp;cases hp),fun h m=>s _ _ (n.nb h m) (fun z=>by rw[← z,n.nb h m] at hp;cases hp)⟩
theorem LnAt.ext {H H':Hp}{p dx C:Addr}{fs:List (Str×V)}{rs:List V}{ls:List (Int×Int)}(h:LnAt H rs ls) (hp:H p=some (.ins C dx fs)) (s:Ext p H H'):LnAt H' rs ls:=⟨h.1,fun i r q h1 h2=>by
 obtain⟨t,e,ht⟩:=h.2 i r q h1 h2
 exact⟨t,e,s _ _ ht fun z=>by rw[← z,ht] at hp;cases hp⟩⟩
theorem LnAt.mem {H:Hp}{rs:List V}{ls:List (Int×Int)}(h:LnAt H rs ls){y:V}(hy:y∈rs):∃ q i j,y=.ref q∧H q=some (.tup [.int i,.int j]):=by
 obtain⟨i,hi,e⟩:=List.getElem_of_mem hy
 obtain⟨p,q,_,e1,e2⟩:=h.get (i:=i) (r:=y) (by rw[List.getElem?_eq_getElem hi,e])
 exact⟨q,_,_,e1,e2⟩
theorem Ext.free {l p:Addr}{H H':Hp}(k:Ext l H H') (n:p≠l) (h:H' p=none):H p=none:=by
 cases e:H p with
 |none=>rfl
 |some o=>have:=k _ _ e n;rw[h] at this;cases this
structure WebAt (a:Ad) (H:Hp) (p:Addr) (hs:List Int) (ls:List (Int×Int)) (dx oh ol d:Addr) (ad:Int→Addr):Prop where
 p:H p=some (.ins a.c_Web dx [("own_hands",.ref oh),("own_lines",.ref ol),("near",.ref d)])
 oh:H oh=some (.lst (hs.map V.int))
 nr:Near H d hs ls ad
theorem WebAt.same {H H':Hp}{p dx oh ol d:Addr}{hs:List Int}{ls:List (Int×Int)}{ad:Int→Addr}(w:WebAt a H p hs ls dx oh ol d ad) (s:Same H H'):WebAt a H' p hs ls dx oh ol d ad:=⟨s _ _ w.p,s _ _ w.oh,w.nr.same s⟩
def zfr (a:Ad):Sp:=fun vs H Q _=>∃ (p dx h l:Addr) (rs:List V) (hs:List Int) (ls:List (Int×Int)),vs=[.ref p,.ref h,.ref l]∧H p=some (.ins a.c_Web dx [])∧H h=some (.lst (hs.map V.int))∧H l=some (.lst rs)∧LnAt H rs ls∧Hs hs∧Ls hs ls ∧
 ∀ (oh ol d:Addr) (ad:Int→Addr) H',H oh=none→H d=none→(∀ x∈hs,H (ad x)=none)→Ext p H H'→WebAt a H' p hs ls dx oh ol d ad→Q .non H'
theorem zfY (T:Txt w K mg a):FnOk P w K mg base CX0 4 a.f_qY a.d_qY ["self", "hands", "lines"] (zfr a):=by
 have c_qp:Callee P w K mg base "are_hands" a.f_qp a.d_qp ["hands"] 2 Yq:=⟨X9 T,T.g_qp,T.F_qp.kp,T.b_qp⟩
 have c_qr:Callee P w K mg base "are_lines" a.f_qr a.d_qr ["lines", "hands"] 3 Yp:=⟨X8 T,T.g_qr,T.F_qr.kp,T.b_qr⟩
 have c_qs:Callee P w K mg base "near_by_hand" a.f_qs a.d_qs ["hands", "lines"] 1 WT:=⟨VM T,T.g_qs,T.F_qs.kp,T.b_qs⟩
 refine T.F_qY.ok zjv (fun vs H Q E h=>?_) (fun cdv A outer s H vs Q E hr h=>?_)
 ·obtain⟨p,dx,h,l,rs,hs,ls,rfl,_⟩:=h
  rfl
 ·obtain⟨p,dx,h,l,rs,hs,ls,rfl,hp,hh,hl,hrs,W,L,k⟩:=h
  have l66:=L.le
  have np:∀ {b:Addr}{xs:List V},H b=some (.lst xs)→b≠p:=fun e z=>by rw[z,hp] at e;cases e
  refine⟨_,(zA (wz (yG (yF (W0 c_qp (hr.mono (by omega)) (xn (pv 1) zQ))))
    (zM wy)
    yp)
   (zA (wz (yG (yF (W0 c_qr (hr.mono (by omega)) (xn (pv 2) (xn (pv 1) zQ)))))
    (zM wy)
    yp)
   (zA (uu (pv 0) (vi yy (by rfl) T.n_list xS (xn (pv 1) zQ)) rfl)
   (zA (uu (pv 0) (zY wk (by rfl) T.n_sorted y0 (xn (pv 2) zQ)) rfl)
   (zM (uu (pv 0) (W0 c_qs (hr.mono (by omega)) (xn (pv 1) (xn (pv 2) zQ))) rfl)))))),?_⟩
  refine⟨_,rfl,h,hs,rfl,hh,W,_,rfl,yh rfl ?_⟩
  refine⟨_,rfl,_,rfl,l,h,rs,hs,ls,rfl,hl,hrs,hh,L,fun H1 s1=>⟨_,rfl,yh rfl ?_⟩⟩
  refine⟨_,rfl,h,_,rfl,.inl (SqL.of (s1 _ _ hh)),fun oh hoh=>?_⟩
  have ohp:oh≠p:=fun z=>by rw[z,s1 _ _ hp] at hoh;cases hoh
  refine⟨_,rfl,p,a.c_Web,dx,_,rfl,(upd_ne ohp.symm).trans (s1 _ _ hp),T.cl_Web,T.na_Web_own_hands,(by show 0<1000;decide),?_⟩
  have x3:=((Ext.same (l:=p) s1).trans (Ext.new (l:=p) (o:=.lst (hs.map V.int)) hoh)).trans (Ext.at (l:=p) (o:=.ins a.c_Web dx [("own_hands",.ref oh)]))
  refine⟨_,rfl,l,rs,rfl,SqL.of (x3 _ _ hl (np hl)),by rw[hrs.1];exact l66,fun y hy=>(hrs.ext hp x3).mem hy,fun ol zs hol z1 z2=>?_⟩
  have olp:ol≠p:=fun z=>by rw[z,upd_same] at hol;cases hol
  refine⟨_,rfl,p,a.c_Web,dx,_,rfl,(upd_ne olp.symm).trans upd_same,T.cl_Web,T.na_Web_own_lines,(by show 1<1000;decide),?_⟩
  have x35:=(Ext.new (l:=p) (o:=.lst zs) hol).trans (Ext.at (l:=p) (o:=.ins a.c_Web dx [("own_hands",.ref oh),("own_lines",.ref ol)]))
  have x5:=x3.trans x35
  refine⟨_,rfl,_,rfl,h,l,rs,hs,ls,rfl,x5 _ _ hh (np hh),x5 _ _ hl (np hl),hrs.ext hp x5,W,L,fun d ad H6 s6 hd had N=>?_⟩
  have hp6:=s6 _ _ (upd_same (a:=p))
  refine⟨_,rfl,p,a.c_Web,dx,_,rfl,hp6,T.cl_Web,T.na_Web_near,(by show 2<1000;decide),?_⟩
  have nfr:∀ b,(upd (upd (upd (upd H1 oh (.lst (hs.map V.int))) p (.ins a.c_Web dx [("own_hands",.ref oh)])) ol (.lst zs)) p (.ins a.c_Web dx [("own_hands",.ref oh),("own_lines",.ref ol)])) b=none→H b=none:=fun b e=>x5.free (fun z=>by rw[z,upd_same] at e;cases e) e
  refine k oh ol d ad _ (s1.free hoh) (nfr d hd) (fun x hx=>nfr _ (had x hx)) ((x5.trans (Ext.same s6)).trans Ext.at) ⟨upd_same,?_,N.ext hp6 Ext.at⟩
  rw[upd_ne ohp]
  exact s6 _ _ (x35 _ _ ((upd_ne ohp).trans upd_same) ohp)
theorem YK {x:Int}:∀ {ls:List (Int×Int)},ls.Nodup→(∀ p∈ls,p.1<p.2)→(nbs ls x).Nodup
 |[],_,_=>List.nodup_nil
 |p::ls,nd,ok=>by
  obtain⟨n1,n2⟩:=List.nodup_cons.mp nd
  have ih:=YK (x:=x) n2 fun q hq=>ok q (List.mem_cons_of_mem _ hq)
  have lt:=ok p (List.mem_cons_self ..)
  have e:nbs (p::ls) x=((if p.1=x then[p.2] else[])++if p.2=x then[p.1] else[])++nbs ls x:=by unfold nbs;rw[List.flatMap_cons]
  have no:∀ y,Adj ls x y→y∉((if p.1=x then[p.2] else[])++if p.2=x then[p.1] else[]):=by
   intro y hy hm
   have key:∀ q∈ls,q≠p:=fun q hq z=>n1 (z ▸ hq)
   rcases List.mem_append.mp hm with h | h
   ·by_cases c:p.1=x
    ·rw[if_pos c] at h
     have ey:y=p.2:=List.mem_singleton.mp h
     rcases hy with z | z
     ·exact key _ z (by rw[ey,← c])
     ·have:=ok _ (List.mem_cons_of_mem _ z)
      simp at this
      omega
    ·rw[if_neg c] at h;cases h
   ·by_cases c:p.2=x
    ·rw[if_pos c] at h
     have ey:y=p.1:=List.mem_singleton.mp h
     rcases hy with z | z
     ·have:=ok _ (List.mem_cons_of_mem _ z)
      simp at this
      omega
     ·exact key _ z (by rw[ey,← c])
    ·rw[if_neg c] at h;cases h
  rw[e,List.nodup_append]
  refine⟨?_,ih,fun a ha b hb z=>no b (mem_nbs.mp hb) (z ▸ ha)⟩
  by_cases c1:p.1=x
  ·have c2:¬ p.2=x:=by omega
   rw[if_pos c1,if_neg c2]
   simp
  ·rw[if_neg c1]
   by_cases c2:p.2=x
   ·rw[if_pos c2];simp
   ·rw[if_neg c2];simp
theorem VU {hs:List Int}{ls:List (Int×Int)}{x:Int}(W:Hs hs) (L:Ls hs ls):(nbs ls x).length≤12:=by
 have nd:=YK (x:=x) L.nd fun p hp=>(L.ok p hp).2.2
 have sub:∀ y∈nbs ls x,y∈hs:=fun y hy=>by
  rcases mem_nbs.mp hy with z | z
  ·exact(L.ok _ z).2.1
  ·exact(L.ok _ z).1
 have:=zgZ nd sub
 have:=W.l12
 omega
theorem WM:∀ {as bs:List Int},as.Pairwise (· < ·)→bs.Pairwise (· < ·)→(∀ x,x∈as↔x∈bs)→as=bs
 |[],[],_,_,_=>rfl
 |[],b::bs,_,_,h=>by have:=(h b).mpr (List.mem_cons_self ..);cases this
 |a::as,[],_,_,h=>by have:=(h a).mp (List.mem_cons_self ..);cases this
 |a::as,b::bs,ha,hb,h=>by
  obtain⟨a1,a2⟩:=List.pairwise_cons.mp ha
  obtain⟨b1,b2⟩:=List.pairwise_cons.mp hb
  have e:a=b:=by
   rcases List.mem_cons.mp ((h a).mp (List.mem_cons_self ..)) with e | e
   ·exact e
   ·rcases List.mem_cons.mp ((h b).mpr (List.mem_cons_self ..)) with e' | e'
    ·exact e'.symm
    ·have:=b1 a e
     have:=a1 b e'
     omega
  subst e
  rw[WM a2 b2 fun x=>⟨fun hx=>by
   rcases List.mem_cons.mp ((h x).mp (List.mem_cons_of_mem _ hx)) with e | e
   ·have:=a1 x hx;omega
   ·exact e,fun hx=>by
   rcases List.mem_cons.mp ((h x).mpr (List.mem_cons_of_mem _ hx)) with e | e
   ·have:=b1 x hx;omega
   ·exact e⟩]
noncomputable def adB (ls:List (Int×Int)) (x y:Int):Bool:=decide ((x,y)∈ls)||decide ((y,x)∈ls)
theorem V9 {ls:List (Int×Int)}{x y:Int}:decide (y∈nbs ls x)=adB ls x y:=by
 unfold adB
 rw[Bool.eq_iff_iff,Bool.or_eq_true,decide_eq_true_eq,decide_eq_true_eq,decide_eq_true_eq]
 exact mem_nbs
theorem XU {hs:List Int}{ls:List (Int×Int)}{x:Int}{ms:List Int}(W:Hs hs) (L:Ls hs ls) (pm:ms.Perm (nbs ls x)) (sd:ms.Pairwise (· ≤ ·)):ms=hs.filter (adB ls x):=by
 have nd:ms.Nodup:=pm.nodup_iff.mpr (YK L.nd fun p hp=>(L.ok p hp).2.2)
 have up:ms.Pairwise (· < ·):=(sd.and (List.nodup_iff_pairwise_ne.mp nd)).imp fun h=>by
  have h1:=h.1
  have h2:=h.2
  omega
 refine WM up (W.up.filter _) fun y=>?_
 rw[pm.mem_iff,List.mem_filter,← V9,decide_eq_true_eq]
 refine⟨fun h=>⟨?_,h⟩,fun h=>h.2⟩
 rcases mem_nbs.mp h with z | z
 ·exact(L.ok _ z).2.1
 ·exact(L.ok _ z).1
def zjg (a:Ad):Sp:=fun vs H Q _=>∃ (p:Addr) (x:Int) (hs:List Int) (ls:List (Int×Int)) (dx oh ol d:Addr) (ad:Int→Addr),vs=[.ref p,.int x]∧WebAt a H p hs ls dx oh ol d ad∧x∈hs∧Q (.bl true) H
theorem zf2 (T:Txt w K mg a):FnOk P w K mg base CX0 2 a.f_qa1 a.d_qa1 ["self", "hand"] (zjg a):=by
 have c_qi:Callee P w K mg base "is_whole" a.f_qi a.d_qi ["value"] 1 wv:=⟨wD T,T.g_qi,T.F_qi.kp,T.b_qi⟩
 refine T.F_qa1.ok zfy (fun vs H Q E h=>?_) (fun cdv A outer s H vs Q E hr h=>?_)
 ·obtain⟨p,x,hs,ls,dx,oh,ol,d,ad,rfl,_⟩:=h
  rfl
 ·obtain⟨p,x,hs,ls,dx,oh,ol,d,ad,rfl,W,hx,k⟩:=h
  have hu:=xp hr
  refine zB (ze (zg (zX (zj c_qi (hr.mono (by omega)) (w_pa_N (w_pv 1) w_pa_nil)) (zW (XM (XO hu (w_pv 1) (w_pe_fld (w_pv 0) rfl))))))) ?_
  refine⟨_,rfl,x,rfl,_,rfl,XF ?_⟩
  exact⟨_,rfl,_,rfl,p,_,dx,_,_,rfl,W.p,T.cl_Web,T.na_Web_near,rfl,d,some (V.ref (ad x)),rfl,xb W.nr.d hx,k⟩
def XT (a:Ad):Sp:=fun vs H Q _=>∃ (p:Addr) (hs:List Int) (ls:List (Int×Int)) (dx oh ol d:Addr) (ad:Int→Addr),vs=[.ref p]∧WebAt a H p hs ls dx oh ol d ad∧∀ q,H q=none→Q (.ref q) (upd H q (.lst (hs.map V.int)))
theorem yW (T:Txt w K mg a):FnOk P w K mg base CX0 1 a.f_qZ a.d_qZ ["self"] (XT a):=by
 refine T.F_qZ.ok zju (fun vs H Q E h=>?_) (fun cdv A outer s H vs Q E hr h=>?_)
 ·obtain⟨p,hs,ls,dx,oh,ol,d,ad,rfl,_⟩:=h
  rfl
 ·obtain⟨p,hs,ls,dx,oh,ol,d,ad,rfl,W,k⟩:=h
  refine zB (ze (zg (zI yy (by rfl) T.n_list xS (zf (w_pe_fld (w_pv 0) rfl) w_pa_nil)))) ?_
  exact⟨_,rfl,p,_,dx,_,_,rfl,W.p,T.cl_Web,T.na_Web_own_hands,rfl,oh,_,rfl,.inl (SqL.of W.oh),k⟩
def zwK (a:Ad):Sp:=fun vs H Q _=>∃ (p:Addr) (x:Int) (hs:List Int) (ls:List (Int×Int)) (dx oh ol d:Addr) (ad:Int→Addr),vs=[.ref p,.int x]∧WebAt a H p hs ls dx oh ol d ad∧Hs hs∧Ls hs ls∧x∈hs ∧
 ∀ (q:Addr),H q=none→Q (.ref q) (upd H q (.lst ((hs.filter (adB ls x)).map V.int)))
theorem VN (T:Txt w K mg a):FnOk P w K mg base CX0 3 a.f_qa2 a.d_qa2 ["self", "hand"] (zwK a):=by
 refine T.F_qa2.ok zfx (fun vs H Q E h=>?_) (fun cdv A outer s H vs Q E hr h=>?_)
 ·obtain⟨p,x,hs,ls,dx,oh,ol,d,ad,rfl,_⟩:=h
  rfl
 ·obtain⟨p,x,hs,ls,dx,oh,ol,d,ad,rfl,W,wh,wl,hx,k⟩:=h
  have hu:=xp hr
  refine zB (w_pss_cons (w_ps_if (yP (zS (w_pe_methD (w_pv 0) (w_pa_N (w_pv 1) w_pa_nil))))
    (ze yj)
    zk)
   (ze (zg (w_pe_callB wm (by rfl) T.n_sorted y0 (zf (yk hu (w_pe_fld (w_pv 0) rfl) (w_pv 1) (fun _ _=>rfl)) w_pa_nil))))) ?_
  refine⟨_,rfl,p,_,dx,_,_,_,_,_,_,rfl,W.p,rfl,T.cl_Web,T.mt_qa1,zf2 (P:=P) (w:=w) T,hr.mono (by omega),T.b_qa1,_,rfl,p,x,hs,ls,dx,oh,ol,d,ad,rfl,W,hx,_,rfl,yh rfl ?_⟩
  have few:=VU (x:=x) wh wl
  exact⟨_,rfl,p,_,dx,_,_,rfl,W.p,T.cl_Web,T.na_Web_near,rfl,_,rfl,d,V.ref (ad x),rfl,xb W.nr.d hx,ad x,_,rfl,SqL.of (W.nr.nb x hx),by omega,fun q ms hq pm sd=>by rw[XU wh wl pm sd];exact k q hq⟩
theorem merge_app:∀ {kvs acc:List (Key×V)},((acc++kvs).map (·.1)).Nodup→mergeK acc kvs=acc++kvs
 |[],acc,_=>by simp[mergeK]
 |kv::kvs,acc,h=>by
  have hn:kv.1∉acc.map (·.1):=by
   rw[List.map_append,List.nodup_append] at h
   intro z
   exact h.2.2 _ z _ (by simp) rfl
  show mergeK (putK acc kv.1 kv.2) kvs=_
  rw[putK_new hn,merge_app (by simpa using h)]
  simp
theorem wK {kvs:List (Key×V)}(h:(kvs.map (·.1)).Nodup):mergeK [] kvs=kvs:=by
 have:=merge_app (kvs:=kvs) (acc:=[]) (by simpa using h)
 simpa using this
def tabI (f:Int→Int) (us:List Int):List (Key×V):=us.map fun h=>(Sum.inl h,V.int (f h))
theorem wY {f:Int→Int}{us:List Int}:(tabI f us).map (·.1)=us.map Sum.inl:=by
 unfold tabI
 rw[List.map_map]
 rfl
theorem YZ {us:List Int}(h:us.Nodup):(us.map (Sum.inl:Int→Key)).Nodup:=by
 rw[List.nodup_iff_pairwise_ne,List.pairwise_map]
 exact(List.nodup_iff_pairwise_ne.mp h).imp fun {a b} n z=>n (by injection z)
theorem vK {f:Int→Int}{x:Int}:∀ {us:List Int},x∈us→xu (tabI f us) (Sum.inl x:Key)=some (V.int (f x))
 |u::us,h=>by
  unfold tabI xu
  rw[List.map_cons,List.find?_cons]
  by_cases e:u=x
  ·subst e;simp
  ·have:¬ ((Sum.inl u:Key)=Sum.inl x):=fun z=>e (by injection z)
   simp only[decide_eq_false this]
   have:=vK (f:=f) ((List.mem_cons.mp h).resolve_left fun z=>e z.symm)
   unfold tabI xu at this
   exact this
theorem um {H:Hp}{d:Addr}{f:Int→Int}{us:List Int}{x:Int}(e:H d=some (.dK (tabI f us))) (h:x∈us):DGet H d (V.int x) (some (V.int (f x))):=by
 have:=DGet.k (k:=.inl x) e
 rw[vK h] at this
 exact this
theorem v8 {hs:List Int}(W:Hs hs):hs.Nodup:=List.nodup_iff_pairwise_ne.mpr (W.up.imp fun {a b} h=>by omega)
theorem ProgAt.same {a:Ad}{H H':Hp}{e1 e2 e3 e4:Ex}{r:V}(s:Same H H') (h:ProgAt a H e1 e2 e3 e4 r):ProgAt a H' e1 e2 e3 e4 r:=by
 obtain⟨p,dx,r1,r2,r3,r4,e,hp,⟨⟨a1,b1⟩,⟨a2,b2⟩,⟨a3,b3⟩,⟨a4,b4⟩,z⟩⟩:=h
 exact⟨p,dx,r1,r2,r3,r4,e,s _ _ hp,⟨⟨a1.same s,b1⟩,⟨a2.same s,b2⟩,⟨a3.same s,b3⟩,⟨a4.same s,b4⟩,z⟩⟩
def deg (hs:List Int) (ls:List (Int×Int)) (x:Int):Int:=(((hs.filter (adB ls x)).map V.int).length:Int)
def w0 (hs:List Int) (ls:List (Int×Int)) (e1:Ex) (x:Int):Int:=e1.val (rho (kvF x (deg hs ls x)))
structure WbP (a:Ad) (H:Hp) (p:Addr) (hs:List Int) (ls:List (Int×Int)):Prop where
 wh:Hs hs
 wl:Ls hs ls
 at_:∃ dx oh ol d ad,WebAt a H p hs ls dx oh ol d ad
theorem WbP.same {H H':Hp}{p:Addr}{hs:List Int}{ls:List (Int×Int)}(h:WbP a H p hs ls) (s:Same H H'):WbP a H' p hs ls:=⟨h.wh,h.wl,let ⟨dx,oh,ol,d,ad,W⟩:=h.at_;⟨dx,oh,ol,d,ad,W.same s⟩⟩
def zuC (a:Ad):Sp:=fun vs H Q _=>∃ (p:Addr) (hs:List Int) (ls:List (Int×Int)) (r:V) (e1 e2 e3 e4:Ex),vs=[.ref p,r]∧WbP a H p hs ls∧ProgAt a H e1 e2 e3 e4 r ∧
 ∀ q H',H q=none→Same H H'→H' q=some (.dK (tabI (w0 hs ls e1) hs))→Q (.ref q) H'
theorem zj7 (T:Txt w K mg a):FnOk P w K mg base CX0 11 a.f_qa a.d_qa ["web", "program"] (zuC a):=by
 refine T.F_qa.ok zjt (fun vs H Q E h=>?_) (fun cdv A outer s H vs Q E hr h=>?_)
 ·obtain⟨p,hs,ls,r,e1,e2,e3,e4,rfl,_⟩:=h
  rfl
 ·obtain⟨p,hs,ls,r,e1,e2,e3,e4,rfl,W,hP,k⟩:=h
  have hu:=xp hr
  refine zB (ze (zg (zI (xl rfl) (by rfl) T.n_dict xT (zf (yd rfl (N':=["hand", "program", "web"]) (t:=1) (caps:=[1,0]) ⟨rfl,rfl,rfl⟩ (zE (zz (w_pv 0))) (fun _=>(zt (i:=0) (show(["hand", "program", "web"]:List Str).Nodup by decide +kernel) rfl (Or.inl rfl))) (fun _=>zZ) (fun _=>(zF (w_pa_N (w_pv 0) (zx (w_pe_methD (w_pv 1) (w_pa_N (w_pv 0) (zx (w_pe_callB zn (by rfl) T.n_len zU (zx (w_pe_methD (w_pv 2) (w_pa_N (w_pv 0) w_pa_nil)) w_pa_nil)) w_pa_nil))) w_pa_nil))))) w_pa_nil)))) ?_
  obtain⟨dx,oh,ol,d,ad,Wb⟩:=W.at_
  refine⟨_,rfl,p,_,dx,_,_,_,_,_,_,rfl,Wb.p,rfl,T.cl_Web,T.mt_qZ,yW (P:=P) (w:=w) T,hr.mono (by omega),T.b_qZ,p,hs,ls,dx,oh,ol,d,ad,rfl,Wb,fun ph hph=>?_⟩
  have s1:=Same.new (o:=HO.lst (hs.map V.int)) hph
  refine⟨ph,rfl,⟨_,SqL.of upd_same⟩,fun D hD _=>?_⟩
  generalize hH1:upd H ph (HO.lst (hs.map V.int))=H1 at *
  have hph1:H1 ph=some (.lst (hs.map V.int)):=by rw[← hH1];exact upd_same
  have l12:=W.wh.l12
  refine yo (K:=K) (a:=ph) (xs:=hs.map V.int) (fun i zs τ H'=>∃ (o:Option V) (qs:List Addr),τ=[o,some r,some (.ref p)]∧zs=qs.map V.ref∧qs.length=i∧(∀ (j:Nat) (q:Addr) (x:Int),qs[j]?=some q→hs[j]?=some x→H' q=some (.tup [.int x,.int (w0 hs ls e1 x)]))∧H' D=some (.lst zs)∧Same H1 H') ?_ ?_ ?_ ?_
  ·exact⟨none,[],rfl,rfl,rfl,fun j q x h=>by simp at h,upd_same,Same.new hD⟩
  ·rintro i zs τ H' ⟨o,qs,_,_,_,_,_,sm⟩
   exact SqL.of (sm _ _ hph1)
  ·rintro i v zs τ H' hi ⟨o,qs,rfl,rfl,lq,hq,hD',sm⟩
   obtain⟨x,hx,rfl⟩:∃ x,hs[i]?=some x∧v=.int x:=by
    rw[List.getElem?_map] at hi
    obtain⟨x,h1,h2⟩:=Option.map_eq_some_iff.mp hi
    exact⟨x,h1,h2.symm⟩
   have hxm:=List.mem_of_getElem? hx
   have hil:i<hs.length:=(List.getElem?_eq_some_iff.mp hx).1
   have sH:=s1.trans sm
   have Wb':=Wb.same sH
   have hP':=ProgAt.same sH hP
   obtain⟨pp,pdx,r1,r2,r3,r4,hre,hpp,hF⟩:=id hP'
   refine gn_if ?_
   refine⟨_,rfl,_,rfl,pp,_,pdx,_,_,_,_,_,_,hre,hpp,rfl,T.cl_Program,T.mt_qV,Wa (P:=P) (w:=w) T,hr.mono (by omega),T.b_qV,_,rfl,_,rfl,p,_,dx,_,_,_,_,_,_,rfl,Wb'.p,rfl,T.cl_Web,T.mt_qa2,VN (P:=P) (w:=w) T,hr.mono (by omega),T.b_qa2,_,rfl,p,x,hs,ls,dx,oh,ol,d,ad,rfl,Wb',W.wh,W.wl,hxm,fun q1 hq1=>?_⟩
   have n1:=Same.new (o:=HO.lst ((hs.filter (adB ls x)).map V.int)) hq1
   refine⟨q1,_,rfl,.inl (SqL.of upd_same),r,e1,e2,e3,e4,x,_,rfl,ProgAt.same n1 hP',fun H2 s2=>⟨(by show 2≤sizeLine;decide),fun pt hpt=>?_⟩⟩
   have n2:=n1.trans (s2.trans (Same.new (o:=HO.tup [V.int x,V.int (w0 hs ls e1 x)]) hpt))
   refine⟨n2 _ _ hD',by rw[List.length_map,lq];exact zm (by omega),some (.int x),qs++[pt],rfl,by simp,by simp[lq],fun j q y hj hy=>?_,upd_same,Same.updF (sm.trans n2) hD⟩
   have old:∀ b o,H' b=some o→b≠D→upd (upd H2 pt (HO.tup [V.int x,V.int (w0 hs ls e1 x)])) D (HO.lst (qs.map V.ref++[V.ref pt])) b=some o:=fun b o e nb=>by
    rw[upd_ne nb]
    exact n2 _ _ e
   by_cases hji:j<i
   ·rw[List.getElem?_append_left (by omega)] at hj
    have h1:=hq j q y hj hy
    exact old q _ h1 (fun z=>by rw[z,hD'] at h1;cases h1)
   ·rw[List.getElem?_append_right (by omega)] at hj
    have:j=i:=by
     have:=(List.getElem?_eq_some_iff.mp hj).1
     simp at this
     omega
    subst this
    rw[lq,Nat.sub_self] at hj
    cases hj
    rw[hx] at hy
    cases hy
    rw[upd_ne (fun z=>by rw[z] at hpt;rw[s2 _ _ (n1 _ _ hD')] at hpt;cases hpt)]
    exact upd_same
  ·rintro zs τ H2 ⟨o,qs,rfl,rfl,lq,hq,hD2,sm⟩
   rw[List.length_map] at lq
   refine⟨D,qs,tabI (w0 hs ls e1) hs,rfl,hD2,by rw[lq];unfold tabI;rw[List.length_map],by unfold tabI;rw[List.length_map];omega,fun i q kv h1 h2=>?_,fun pd hpd=>?_⟩
   ·unfold tabI at h2
    rw[List.getElem?_map] at h2
    obtain⟨x,h3,h4⟩:=Option.map_eq_some_iff.mp h2
    subst h4
    exact hq i q x h1 h3
   ·rw[wK (by rw[wY];exact YZ (v8 W.wh))]
    have sE:=s1.trans sm
    exact k pd _ (sE.free hpd) (sE.trans (Same.new hpd)) upd_same
structure HrAt (H:Hp) (q:Addr) (ad:Int→Addr) (hs:List Int) (g:Int→List (Int×Int)):Prop where
 q:H q=some (.dK (tab ad hs))
 inj:∀ x∈hs,∀ y∈hs,ad x=ad y→x=y
 at_:∀ x∈hs,∃ rs,H (ad x)=some (.lst rs)∧LnAt H rs (g x)∧rs.length≤100
theorem LnAt.mono {H H':Hp}{rs:List V}{ls:List (Int×Int)}(k:∀ b xs,H b=some (.tup xs)→H' b=some (.tup xs)) (h:LnAt H rs ls):LnAt H' rs ls:=⟨h.1,fun i r p h1 h2=>by
 obtain⟨q,e,hq⟩:=h.2 i r p h1 h2
 exact⟨q,e,k _ _ hq⟩⟩
theorem LnAt.snoc {H:Hp}{rs:List V}{ls:List (Int×Int)}{q:Addr}{p:Int×Int}(h:LnAt H rs ls) (hq:H q=some (.tup [.int p.1,.int p.2])):LnAt H (rs++[.ref q]) (ls++[p]):=by
 refine⟨by simp[h.1],fun i r p' h1 h2=>?_⟩
 have l:=h.1
 by_cases hi:i<rs.length
 ·rw[List.getElem?_append_left hi] at h1
  rw[List.getElem?_append_left (by omega)] at h2
  exact h.2 i r p' h1 h2
 ·rw[List.getElem?_append_right (by omega)] at h1
  rw[List.getElem?_append_right (by omega),← l] at h2
  obtain⟨n,hn⟩:∃ n,n=i-rs.length:=⟨_,rfl⟩
  rw[← hn] at h1 h2
  cases n with
  |zero=>cases h1;cases h2;exact⟨q,rfl,hq⟩
  |succ n=>simp at h1
theorem HrAt.same {H H':Hp}{q:Addr}{ad:Int→Addr}{hs:List Int}{g:Int→List (Int×Int)}(h:HrAt H q ad hs g) (s:Same H H'):HrAt H' q ad hs g:=⟨s _ _ h.q,h.inj,fun x hx=>by
 obtain⟨rs,h1,h2,h3⟩:=h.at_ x hx
 exact⟨rs,s _ _ h1,h2.same s,h3⟩⟩
theorem HrAt.app {H:Hp}{q pt:Addr}{ad:Int→Addr}{hs:List Int}{g g':Int→List (Int×Int)}{x:Int}{rs:List V}{p:Int×Int}(h:HrAt H q ad hs g) (hx:x∈hs) (hr:H (ad x)=some (.lst rs)) (hl:LnAt H rs (g x)) (h3:rs.length<100) (hp:H pt=some (.tup [.int p.1,.int p.2]))
  (e1:g' x=g x++[p]) (e2:∀ y∈hs,y≠x→g' y=g y):HrAt (upd H (ad x) (.lst (rs++[.ref pt]))) q ad hs g':=by
 have mt:∀ b xs,H b=some (.tup xs)→upd H (ad x) (.lst (rs++[.ref pt])) b=some (.tup xs):=fun b xs e=>by
  rw[upd_ne (ne_of e hr (by intro z;cases z))]
  exact e
 refine⟨by rw[upd_ne (ne_of h.q hr (by intro z;cases z))];exact h.q,h.inj,fun y hy=>?_⟩
 by_cases e:y=x
 ·subst e
  refine⟨_,upd_same,?_,by simp;omega⟩
  rw[e1]
  exact(hl.mono mt).snoc (mt _ _ hp)
 ·obtain⟨rs',h1,h2,h4⟩:=h.at_ y hy
  refine⟨rs',?_,?_,h4⟩
  ·rw[upd_ne (fun z=>e (h.inj y hy x hx z))]
   exact h1
  ·rw[e2 y hy e]
   exact h2.mono mt
def msg (hs:List Int) (ls:List (Int×Int)) (e2 e3:Ex) (f:Int→Int) (t:Int) (s x:Int):Option (Int×Int) :=
 if e3.val (rho (kvS (f s) s t (deg hs ls s) x))>0 then some (s,e2.val (rho (kvS (f s) s t (deg hs ls s) x))) else none
def XG (hs:List Int) (ls:List (Int×Int)) (e2 e3:Ex) (f:Int→Int) (t:Int) (S:List Int) (x:Int):List (Int×Int):=S.filterMap fun s=>if adB ls s x=true then msg hs ls e2 e3 f t s x else none
theorem WD {hs:List Int}{ls:List (Int×Int)}{e2 e3:Ex}{f:Int→Int}{t:Int}{S:List Int}{x:Int}:(XG hs ls e2 e3 f t S x).length≤S.length:=List.length_filterMap_le _ _
theorem Y3 {hs:List Int}{ls:List (Int×Int)}{e2 e3:Ex}{f:Int→Int}{t:Int}{S:List Int}{s x:Int}:XG hs ls e2 e3 f t (S++[s]) x=XG hs ls e2 e3 f t S x++(if adB ls s x=true then(msg hs ls e2 e3 f t s x).toList else[]):=by
 unfold XG
 rw[List.filterMap_append]
 congr 1
 by_cases h:adB ls s x=true
 ·rw[if_pos h]
  simp only[List.filterMap_cons,if_pos h,List.filterMap_nil]
  cases msg hs ls e2 e3 f t s x<;>rfl
 ·rw[if_neg h]
  simp only[List.filterMap_cons,if_neg h,List.filterMap_nil]
theorem HrAt.congr {H:Hp}{q:Addr}{ad:Int→Addr}{hs:List Int}{g g':Int→List (Int×Int)}(h:HrAt H q ad hs g) (e:∀ x∈hs,g' x=g x):HrAt H q ad hs g':=⟨h.q,h.inj,fun x hx=>by rw[e x hx];exact h.at_ x hx⟩
def zuB (a:Ad):Sp:=fun vs H Q _=>∃ (p:Addr) (hs:List Int) (ls:List (Int×Int)) (r:V) (e1 e2 e3 e4:Ex) (dw:Addr) (us:List Int) (f:Int→Int) (t:Int),vs=[.ref p,r,.ref dw,.int t]∧WbP a H p hs ls∧ProgAt a H e1 e2 e3 e4 r∧H dw=some (.dK (tabI f us))∧(∀ x∈hs,x∈us) ∧
 ∀ q ad H',H q=none→(∀ x∈hs,H (ad x)=none)→Same H H'→HrAt H' q ad hs (XG hs ls e2 e3 f t hs)→Q (.ref q) H'
theorem zj6 (T:Txt w K mg a):FnOk P w K mg base CX0 11 a.f_qb a.d_qb ["web", "program", "worths", "turn"] (zuB a):=by
 refine T.F_qb.ok sc_qb (fun vs H Q E h=>?_) (fun cdv A outer s H vs Q E hr h=>?_)
 ·obtain⟨p,hs,ls,r,e1,e2,e3,e4,dw,us,f,t,rfl,_⟩:=h
  rfl
 ·obtain⟨p,hs,ls,r,e1,e2,e3,e4,dw,us,f,t,rfl,W,hP,hdw,hus,k⟩:=h
  have hu:=xp hr
  refine zB (w_pss_cons (zi (i:=4) sc_qb.nd rfl (Or.inl rfl) (zI (xl rfl) (by rfl) T.n_dict xT (zf (yd rfl (N':=["hand"]) (t:=1) (caps:=[]) ⟨rfl,rfl,rfl⟩ (zE (zz (w_pv 0))) (fun _=>(zt (i:=0) (show(["hand"]:List Str).Nodup by decide +kernel) rfl (Or.inl rfl))) (fun _=>zZ) (fun _=>(zF (w_pa_N (w_pv 0) (zf (zr w_pa_nil) w_pa_nil))))) w_pa_nil)))
   (w_pss_cons (zO PassesOwn.never rfl (zE (zz (w_pv 0))) (zt (i:=5) sc_qb.nd rfl (Or.inl rfl))
    (w_pss_cons (zi (i:=6) sc_qb.nd rfl (Or.inl rfl) (w_pe_methD (w_pv 0) (w_pa_N (w_pv 5) w_pa_nil)))
    (ze (zO PassesOwn.never rfl (zE (w_pv 6)) (zt (i:=7) sc_qb.nd rfl (Or.inl rfl))
     (w_pss_cons (zi (i:=8) sc_qb.nd rfl (Or.inl rfl) (w_pe_methD (w_pv 1) (zf (yk hu (w_pv 2) (w_pv 5) (fun _ _=>rfl)) (w_pa_N (w_pv 5) (w_pa_N (w_pv 3) (zx (w_pe_callB zn (by rfl) T.n_len zU (w_pa_N (w_pv 6) w_pa_nil)) (w_pa_N (w_pv 7) w_pa_nil)))))))
     (ze (w_ps_if (w_pt_cmpR VH (w_pv 8) ui (zv _))
      (ze (zy (zV PySem.F.plainAttrs_list PySem.F.slot_list_append PySem.F.type_list_append zC (yk hu (w_pv 4) (w_pv 7) (fun _ _=>rfl)) (wT (zF (w_pa_N (w_pv 5) (w_pa_N (w_pv 8) w_pa_nil))) w_pa_nil))))
      zk)))))))
   (ze (zg (w_pv 4))))) ?_
  obtain⟨dx,oh,ol,d,ad0,Wb⟩:=W.at_
  have l12:=W.wh.l12
  have nd:=v8 W.wh
  refine⟨_,rfl,p,_,dx,_,_,_,_,_,_,rfl,Wb.p,rfl,T.cl_Web,T.mt_qZ,yW (P:=P) (w:=w) T,hr.mono (by omega),T.b_qZ,p,hs,ls,dx,oh,ol,d,ad0,rfl,Wb,fun ph hph=>?_⟩
  have s1:=Same.new (o:=HO.lst (hs.map V.int)) hph
  refine⟨ph,rfl,⟨_,SqL.of upd_same⟩,fun D hD _=>?_⟩
  generalize hH1:upd H ph (HO.lst (hs.map V.int))=H1 at *
  have hph1:H1 ph=some (.lst (hs.map V.int)):=by rw[← hH1];exact upd_same
  refine yo (K:=K) (a:=ph) (xs:=hs.map V.int) (fun i zs τ H'=>∃ (o:Option V) (qs:List Addr) (ad:Int→Addr),τ=[o]∧zs=qs.map V.ref∧qs.length=i∧(∀ (j:Nat) (q:Addr) (x:Int),qs[j]?=some q→hs[j]?=some x→H' q=some (.tup [.int x,.ref (ad x)]))∧(∀ x∈hs.take i,H1 (ad x)=none∧ad x≠D∧H' (ad x)=some (.lst []))∧(∀ x∈hs.take i,∀ y∈hs.take i,ad x=ad y→x=y)∧H' D=some (.lst zs)∧Same H1 H') ?_ ?_ ?_ ?_
  ·exact⟨none,[],fun _=>0,rfl,rfl,rfl,fun j q x h=>by simp at h,fun x hx=>by simp at hx,fun x hx=>by simp at hx,upd_same,Same.new hD⟩
  ·rintro i zs τ H' ⟨o,qs,ad,_,_,_,_,_,_,_,sm⟩
   exact SqL.of (sm _ _ hph1)
  ·rintro i v zs τ H' hi ⟨o,qs,ad,rfl,rfl,lq,hq,had,hinj,hD',sm⟩
   obtain⟨x,hx,rfl⟩:∃ x,hs[i]?=some x∧v=.int x:=by
    rw[List.getElem?_map] at hi
    obtain⟨x,h1,h2⟩:=Option.map_eq_some_iff.mp hi
    exact⟨x,h1,h2.symm⟩
   have hil:i<hs.length:=(List.getElem?_eq_some_iff.mp hx).1
   have hnx:x∉hs.take i:=xk nd hx
   refine gn_if ?_
   refine⟨_,rfl,(by show 0≤sizeLine;decide),fun pe hpe=>?_⟩
   have n1:=Same.new (o:=HO.lst []) hpe
   refine⟨(by show 2≤sizeLine;decide),fun pt hpt=>?_⟩
   have n2:=Same.new (o:=HO.tup [V.int x,V.ref pe]) hpt
   have n12:=n1.trans n2
   have npe:pe≠D:=fun z=>by rw[z,hD'] at hpe;cases hpe
   have npt:pt≠D:=fun z=>by rw[z,n1 _ _ hD'] at hpt;cases hpt
   have old:∀ b o,H' b=some o→b≠D→upd (upd (upd H' pe (HO.lst [])) pt (HO.tup [V.int x,V.ref pe])) D (HO.lst (qs.map V.ref++[V.ref pt])) b=some o:=fun b o e nb=>by
    rw[upd_ne nb]
    exact n12 _ _ e
   have hpe2:upd (upd (upd H' pe (HO.lst [])) pt (HO.tup [V.int x,V.ref pe])) D (HO.lst (qs.map V.ref++[V.ref pt])) pe=some (.lst []):=by
    rw[upd_ne npe]
    exact n2 _ _ upd_same
   have tk:hs.take (i+1)=hs.take i++[x]:=by rw[List.take_add_one,hx];rfl
   refine⟨n12 _ _ hD',by rw[List.length_map,lq];exact zm (by omega),some (.int x),qs++[pt],Uc ad x pe,rfl,by simp,by simp[lq],fun j q y hj hy=>?_,fun y hy=>?_,fun y hy z hz e=>?_,upd_same,Same.updF (sm.trans n12) hD⟩
   ·by_cases hji:j<i
    ·rw[List.getElem?_append_left (by omega)] at hj
     have h1:=hq j q y hj hy
     have hyx:¬ y=x:=fun e=>hnx (by rw[← e];exact List.mem_of_getElem? (by rw[List.getElem?_take_of_lt hji];exact hy))
     rw[putA_ne hyx]
     exact old q _ h1 (fun z=>by rw[z,hD'] at h1;cases h1)
    ·rw[List.getElem?_append_right (by omega)] at hj
     have:j=i:=by
      have:=(List.getElem?_eq_some_iff.mp hj).1
      simp at this
      omega
     subst this
     rw[lq,Nat.sub_self] at hj
     cases hj
     rw[hx] at hy
     cases hy
     rw[putA_at rfl,upd_ne npt]
     exact upd_same
   ·rw[tk] at hy
    by_cases e:y=x
    ·rw[putA_at e]
     exact⟨sm.free hpe,npe,hpe2⟩
    ·rw[putA_ne e]
     obtain⟨a1,a2,a3⟩:=had y ((List.mem_append.mp hy).resolve_right fun z=>e (List.mem_singleton.mp z))
     exact⟨a1,a2,old _ _ a3 a2⟩
   ·rw[tk] at hy hz
    have fr:∀ u∈hs.take i,ad u≠pe:=fun u hu z=>by rw[← z,(had u hu).2.2] at hpe;cases hpe
    by_cases ey:y=x
    ·by_cases ez:z=x
     ·rw[ey,ez]
     ·rw[putA_at ey,putA_ne ez] at e
      exact absurd e.symm (fr z ((List.mem_append.mp hz).resolve_right fun w=>ez (List.mem_singleton.mp w)))
    ·have hy':=(List.mem_append.mp hy).resolve_right fun w=>ey (List.mem_singleton.mp w)
     by_cases ez:z=x
     ·rw[putA_ne ey,putA_at ez] at e
      exact absurd e (fr y hy')
     ·rw[putA_ne ey,putA_ne ez] at e
      exact hinj y hy' z ((List.mem_append.mp hz).resolve_right fun w=>ez (List.mem_singleton.mp w)) e
  ·rintro zs τ H2 ⟨o,qs,ad,rfl,rfl,lq,hq,had,hinj,hD2,sm⟩
   rw[List.length_map] at lq
   have had:∀ x∈hs,H1 (ad x)=none∧ad x≠D∧H2 (ad x)=some (.lst []):=fun x hx=>had x (by rw[List.length_map,List.take_length];exact hx)
   have hinj:∀ x∈hs,∀ y∈hs,ad x=ad y→x=y:=fun x hx y hy=>hinj x (by rw[List.length_map,List.take_length];exact hx) y (by rw[List.length_map,List.take_length];exact hy)
   refine⟨D,qs,tab ad hs,rfl,hD2,by rw[lq];unfold tab;rw[List.length_map],by unfold tab;rw[List.length_map];omega,fun i q kv h1 h2=>?_,fun pd hpd=>?_⟩
   ·unfold tab at h2
    rw[List.getElem?_map] at h2
    obtain⟨x,h3,h4⟩:=Option.map_eq_some_iff.mp h2
    subst h4
    exact hq i q x h1 h3
   rw[wK (by rw[wt];exact YZ nd)]
   have sE:=s1.trans sm
   have n3:=Same.new (o:=HO.dK (tab ad hs)) hpd
   have hpd0:H pd=none:=sE.free hpd
   have had0:∀ x∈hs,H (ad x)=none:=fun x hx=>s1.free (had x hx).1
   have h0:HrAt (upd H2 pd (HO.dK (tab ad hs))) pd ad hs (XG hs ls e2 e3 f t []):=⟨upd_same,hinj,fun x hx=>⟨[],n3 _ _ (had x hx).2.2,⟨rfl,fun i r p h=>by simp at h⟩,by simp⟩⟩
   have s3:=sE.trans n3
   generalize hH3:upd H2 pd (HO.dK (tab ad hs))=H3 at *
   have Wb3:=Wb.same s3
   refine⟨_,rfl,p,_,dx,_,_,_,_,_,_,rfl,Wb3.p,rfl,T.cl_Web,T.mt_qZ,yW (P:=P) (w:=w) T,hr.mono (by omega),T.b_qZ,p,hs,ls,dx,oh,ol,d,ad0,rfl,Wb3,fun ph2 hph2=>?_⟩
   have n4:=Same.new (o:=HO.lst (hs.map V.int)) hph2
   have h04:=h0.same n4
   have s4:=s3.trans n4
   have nph:∀ x∈hs,ph2≠ad x:=fun x hx z=>by
    obtain⟨rs,h1,_⟩:=h0.at_ x hx
    rw[← z,hph2] at h1
    cases h1
   refine⟨ph2,rfl,⟨_,SqL.of upd_same⟩,?_⟩
   have hph2':(upd H3 ph2 (HO.lst (hs.map V.int))) ph2=some (.lst (hs.map V.int)):=upd_same
   generalize hH4:upd H3 ph2 (HO.lst (hs.map V.int))=H4 at *
   refine zR (xs:=hs.map V.int) (fun i σ H'=>∃ o5 o6 o7 o8,σ=[some (.ref p),some r,some (.ref dw),some (.int t),some (.ref pd),o5,o6,o7,o8]∧HrAt H' pd ad hs (XG hs ls e2 e3 f t (hs.take i))∧Same H H'∧H' ph2=some (.lst (hs.map V.int))) ?_ ?_ ?_ ?_
   ·exact⟨_,_,_,_,rfl,h04,s4,hph2'⟩
   ·rintro i σ H' hi ⟨o5,o6,o7,o8,_,_,_,hp⟩
    exact SqL.of hp
   ·rintro i v σ H5 hi ⟨o5,o6,o7,o8,rfl,hr5,s5,hp5⟩
    obtain⟨sd,hsd,rfl⟩:∃ x,hs[i]?=some x∧v=.int x:=by
     rw[List.getElem?_map] at hi
     obtain⟨x,h1,h2⟩:=Option.map_eq_some_iff.mp hi
     exact⟨x,h1,h2.symm⟩
    have hsm:=List.mem_of_getElem? hsd
    have hil:i<hs.length:=(List.getElem?_eq_some_iff.mp hsd).1
    have Wb5:=Wb.same s5
    refine⟨_,rfl,p,_,dx,_,_,_,_,_,_,rfl,Wb5.p,rfl,T.cl_Web,T.mt_qa2,VN (P:=P) (w:=w) T,hr.mono (by omega),T.b_qa2,_,rfl,p,sd,hs,ls,dx,oh,ol,d,ad0,rfl,Wb5,W.wh,W.wl,hsm,fun pn hpn=>?_⟩
    have n5:=Same.new (o:=HO.lst ((hs.filter (adB ls sd)).map V.int)) hpn
    have npn:∀ x∈hs,pn≠ad x:=fun x hx z=>by
     obtain⟨rs,h1,_⟩:=hr5.at_ x hx
     rw[← z,hpn] at h1
     cases h1
    have hpn6:(upd H5 pn (HO.lst ((hs.filter (adB ls sd)).map V.int))) pn=some (.lst ((hs.filter (adB ls sd)).map V.int)):=upd_same
    refine⟨_,rfl,pn,rfl,⟨_,SqL.of upd_same⟩,?_⟩
    have hr6:=hr5.same n5
    have s6:=s5.trans n5
    have hp6:=n5 _ _ hp5
    generalize hH6:upd H5 pn (HO.lst ((hs.filter (adB ls sd)).map V.int))=H6 at *
    have near_nd:(hs.filter (adB ls sd)).Nodup:=nd.filter _
    refine zR (xs:=(hs.filter (adB ls sd)).map V.int) (fun j σ H'=>∃ o7 o8,σ=[some (.ref p),some r,some (.ref dw),some (.int t),some (.ref pd),some (.int sd),some (.ref pn),o7,o8]∧HrAt H' pd ad hs (fun x=>XG hs ls e2 e3 f t (hs.take i) x++(if x∈(hs.filter (adB ls sd)).take j then(msg hs ls e2 e3 f t sd x).toList else[]))∧Same H H'∧H' ph2=some (.lst (hs.map V.int))∧H' pn=some (.lst ((hs.filter (adB ls sd)).map V.int))) ?_ ?_ ?_ ?_
    ·exact⟨_,_,rfl,hr6.congr fun x _=>by simp,s6,hp6,hpn6⟩
    ·rintro j σ H' hj ⟨o7,o8,_,_,_,_,hp⟩
     exact SqL.of hp
    ·rintro j v σ H7 hj ⟨o7,o8,rfl,hr7,s7,hp7,hpn7⟩
     obtain⟨y,hy,rfl⟩:∃ x,(hs.filter (adB ls sd))[j]?=some x∧v=.int x:=by
      rw[List.getElem?_map] at hj
      obtain⟨x,h1,h2⟩:=Option.map_eq_some_iff.mp hj
      exact⟨x,h1,h2.symm⟩
     have hym:=(List.mem_filter.mp (List.mem_of_getElem? hy)).1
     have hyn:y∉(hs.filter (adB ls sd)).take j:=xk near_nd hy
     have tk:(hs.filter (adB ls sd)).take (j+1)=(hs.filter (adB ls sd)).take j++[y]:=by rw[List.take_add_one,hy];rfl
     have hP7:=ProgAt.same s7 hP
     obtain⟨pp,pdx,r1,r2,r3,r4,hre,hpp,hF⟩:=id hP7
     refine⟨_,rfl,pp,_,pdx,_,_,_,_,_,_,hre,hpp,rfl,T.cl_Program,T.mt_qW,uY (P:=P) (w:=w) T,hr.mono (by omega),T.b_qW,_,rfl,_,rfl,dw,_,rfl,um (s7 _ _ hdw) (hus _ hsm),_,rfl,_,rfl,_,rfl,pn,_,rfl,.inl (SqL.of hpn7),_,rfl,r,e1,e2,e3,e4,f sd,sd,t,_,y,rfl,hP7,fun H8 s8=>?_⟩
     have hr8:=hr7.same s8
     have mdef:msg hs ls e2 e3 f t sd y=if e3.val (rho (kvS (f sd) sd t (deg hs ls sd) y))>0 then some (sd,e2.val (rho (kvS (f sd) sd t (deg hs ls sd) y))) else none:=rfl
     by_cases c:e3.val (rho (kvS (f sd) sd t (deg hs ls sd) y))>0
     ·rw[if_pos c] at mdef
      have cc:e3.val (rho (kvS (f sd) sd t (((hs.filter (adB ls sd)).map V.int).length:Int) y))>0:=c
      rw[if_pos cc]
      refine⟨_,rfl,rfl,_,rfl,iteB rfl ?_⟩
      obtain⟨rs,hrs,hln,hlen⟩:=hr8.at_ y hym
      have lg:=hln.1
      have lh:=WD (hs:=hs) (ls:=ls) (e2:=e2) (e3:=e3) (f:=f) (t:=t) (S:=hs.take i) (x:=y)
      rw[if_neg hyn,List.append_nil] at lg hln
      rw[List.length_take] at lh
      refine⟨_,rfl,_,rfl,pd,V.ref (ad y),rfl,xb hr8.q hym,.inl ⟨rfl,_,SqL.of hrs⟩,_,rfl,_,rfl,(by show 2≤sizeLine;decide),fun pt hpt=>?_⟩
      have n9:=Same.new (o:=HO.tup [V.int sd,V.int (e2.val (rho (kvS (f sd) sd t (deg hs ls sd) y)))]) hpt
      refine⟨ad y,rs,_,rfl,rfl,n9 _ _ hrs,(by exact zm (by omega)),?_⟩
      refine⟨_,_,rfl,(hr8.same n9).app (p:=(sd,e2.val (rho (kvS (f sd) sd t (deg hs ls sd) y)))) hym (n9 _ _ hrs) (by rw[if_neg hyn,List.append_nil];exact hln.same n9) (by omega) upd_same ?_ ?_,fun b o e=>?_,?_,?_⟩
      ·rw[if_neg hyn,List.append_nil,tk,if_pos (by simp),mdef]
       rfl
      ·intro x hx hne
       rw[tk]
       have:x∈(hs.filter (adB ls sd)).take j++[y]↔x∈(hs.filter (adB ls sd)).take j:=by simp[hne]
       simp only[this]
      ·rw[upd_ne (ne_of_none e (had0 y hym))]
       exact n9 _ _ (s8 _ _ (s7 _ _ e))
      ·rw[upd_ne (nph y hym)]
       exact n9 _ _ (s8 _ _ hp7)
      ·rw[upd_ne (npn y hym)]
       exact n9 _ _ (s8 _ _ hpn7)
     ·rw[if_neg c] at mdef
      have cc:¬ e3.val (rho (kvS (f sd) sd t (((hs.filter (adB ls sd)).map V.int).length:Int) y))>0:=c
      rw[if_neg cc]
      refine⟨_,rfl,rfl,_,rfl,yh rfl ?_⟩
      refine⟨_,_,rfl,hr8.congr fun x hx=>?_,s7.trans s8,s8 _ _ hp7,s8 _ _ hpn7⟩
      rw[tk]
      by_cases hxy:x=y
      ·subst hxy
       rw[if_pos (by simp),if_neg hyn,mdef]
       rfl
      ·have:x∈(hs.filter (adB ls sd)).take j++[y]↔x∈(hs.filter (adB ls sd)).take j:=by simp[hxy]
       simp only[this]
    ·rintro σ H7 ⟨o7,o8,rfl,hr7,s7,hp7,hpn7⟩
     refine⟨_,_,_,_,rfl,hr7.congr fun x hx=>?_,s7,hp7⟩
     rw[List.length_map,List.take_length,List.take_add_one,hsd]
     show XG hs ls e2 e3 f t (hs.take i++[sd]) x=_
     rw[Y3]
     congr 1
     by_cases h:adB ls sd x=true
     ·rw[if_pos h,if_pos (List.mem_filter.mpr ⟨hx,h⟩)]
     ·rw[if_neg h,if_neg (fun z=>h (List.mem_filter.mp z).2)]
   ·rintro σ H5 ⟨o5,o6,o7,o8,rfl,hr5,s5,hp5⟩
    rw[List.length_map,List.take_length] at hr5
    exact⟨_,rfl,k pd ad H5 hpd0 had0 s5 hr5⟩
theorem LstN.uniq {ns:List Int}{m m':Int}(h:LstN ns m) (h':LstN ns m'):m=m':=by
 rcases h with⟨e,rfl⟩ | ⟨h1,h2⟩
 ·rcases h' with⟨_,rfl⟩ | ⟨h1,_⟩
  ·rfl
  ·rw[e] at h1;cases h1
 ·rcases h' with⟨e,_⟩ | ⟨h1',h2'⟩
  ·rw[e] at h1;cases h1
  ·have:=h2 _ h1'
   have:=h2' _ h1
   omega
theorem MstN.uniq {ns:List Int}{m m':Int}(h:MstN ns m) (h':MstN ns m'):m=m':=by
 rcases h with⟨e,rfl⟩ | ⟨h1,h2⟩
 ·rcases h' with⟨_,rfl⟩ | ⟨h1,_⟩
  ·rfl
  ·rw[e] at h1;cases h1
 ·rcases h' with⟨e,_⟩ | ⟨h1',h2'⟩
  ·rw[e] at h1;cases h1
  ·have:=h2 _ h1'
   have:=h2' _ h1
   omega
def znC (ns:List Int):Int:=(ns.min?).getD 0
def znB (ns:List Int):Int:=(ns.max?).getD 0
theorem V0 {ns:List Int}{m:Int}(h:LstN ns m):m=znC ns:=by
 refine LstN.uniq h ?_
 unfold znC
 cases e:ns.min? with
 |none=>exact .inl ⟨List.min?_eq_none_iff.mp e,rfl⟩
 |some x =>
  obtain⟨h1,h2⟩:=(List.min?_eq_some_iff).mp e
  exact .inr ⟨h1,h2⟩
theorem VW {ns:List Int}{m:Int}(h:MstN ns m):m=znB ns:=by
 refine MstN.uniq h ?_
 unfold znB
 cases e:ns.max? with
 |none=>exact .inl ⟨List.max?_eq_none_iff.mp e,rfl⟩
 |some x =>
  obtain⟨h1,h2⟩:=(List.max?_eq_some_iff).mp e
  exact .inr ⟨h1,h2⟩
def nxt (hs:List Int) (ls:List (Int×Int)) (e4:Ex) (f:Int→Int) (t:Int) (g:Int→List (Int×Int)) (x:Int):Int :=
 e4.val (rho (kvR (f x) x t (deg hs ls x) ((g x).map (·.2)).sum (znC ((g x).map (·.2))) (znB ((g x).map (·.2))) ((g x).map (·.2)).length))
def zuq (a:Ad):Sp:=fun vs H Q _=>∃ (p:Addr) (hs:List Int) (ls:List (Int×Int)) (r:V) (e1 e2 e3 e4:Ex) (dw hd:Addr) (us:List Int) (f:Int→Int) (t:Int) (ad:Int→Addr) (g:Int→List (Int×Int)),vs=[.ref p,r,.ref dw,.int t,.ref hd]∧WbP a H p hs ls∧ProgAt a H e1 e2 e3 e4 r∧H dw=some (.dK (tabI f us))∧(∀ x∈hs,x∈us)∧HrAt H hd ad hs g ∧
 ∀ q H',H q=none→Same H H'→H' q=some (.dK (tabI (nxt hs ls e4 f t g) hs))→Q (.ref q) H'
theorem zjY (T:Txt w K mg a):FnOk P w K mg base CX0 11 a.f_qc a.d_qc ["web", "program", "worths", "turn", "heard"] (zuq a):=by
 refine T.F_qc.ok sc_qc (fun vs H Q E h=>?_) (fun cdv A outer s H vs Q E hr h=>?_)
 ·obtain⟨p,hs,ls,r,e1,e2,e3,e4,dw,hd,us,f,t,ad,g,rfl,_⟩:=h
  rfl
 ·obtain⟨p,hs,ls,r,e1,e2,e3,e4,dw,hd,us,f,t,ad,g,rfl,W,hP,hdw,hus,hH,k⟩:=h
  have hu:=xp hr
  refine zB (w_pss_cons (zi (i:=5) sc_qc.nd rfl (Or.inl rfl) xa)
   (w_pss_cons (zO PassesOwn.never rfl (zE (zz (w_pv 0))) (zt (i:=6) sc_qc.nd rfl (Or.inl rfl))
    (w_pss_cons (zi (i:=7) sc_qc.nd rfl (Or.inl rfl) (w_pe_callB zn (by rfl) T.n_len zU (zx (w_pe_methD (w_pv 0) (w_pa_N (w_pv 6) w_pa_nil)) w_pa_nil)))
    (w_pss_cons (wQ (i:=8) rfl sc_qc.nd rfl (Or.inl rfl) (N':=["pair"]) (t:=1) (caps:=[]) ⟨rfl,rfl,rfl⟩ (zE (yk hu (w_pv 4) (w_pv 6) (fun _ _=>rfl))) (fun _=>(zt (i:=0) (show(["pair"]:List Str).Nodup by decide +kernel) rfl (Or.inl rfl))) (fun _=>zZ) (fun _=>(zq zH (w_pv 0) zd (fun _ _=>rfl))))
    (ze (w_ps_dput hu (w_pv 5) (w_pv 6) (w_pe_methD (w_pv 1) (zf (yk hu (w_pv 2) (w_pv 6) (fun _ _=>rfl)) (w_pa_N (w_pv 6) (w_pa_N (w_pv 3) (w_pa_N (w_pv 7) (w_pa_N (w_pv 8) w_pa_nil)))))) rfl)))))
   (ze (zg (w_pv 5))))) ?_
  obtain⟨dx,oh,ol,d,ad0,Wb⟩:=W.at_
  have l12:=W.wh.l12
  have nd:=v8 W.wh
  refine fun pd hpd=>?_
  have s1:=Same.new (o:=HO.dK []) hpd
  have Wb1:=Wb.same s1
  refine⟨_,rfl,p,_,dx,_,_,_,_,_,_,rfl,Wb1.p,rfl,T.cl_Web,T.mt_qZ,yW (P:=P) (w:=w) T,hr.mono (by omega),T.b_qZ,p,hs,ls,dx,oh,ol,d,ad0,rfl,Wb1,fun ph hph=>?_⟩
  have n2:=Same.new (o:=HO.lst (hs.map V.int)) hph
  have s2:=s1.trans n2
  refine⟨ph,rfl,⟨_,SqL.of upd_same⟩,?_⟩
  have hph2:(upd (upd H pd (HO.dK [])) ph (HO.lst (hs.map V.int))) ph=some (.lst (hs.map V.int)):=upd_same
  have hpd2:=n2 _ _ (upd_same (H:=H) (a:=pd) (o:=HO.dK []))
  have npp:ph≠pd:=fun z=>by rw[z,upd_same] at hph;cases hph
  generalize hH2:upd (upd H pd (HO.dK [])) ph (HO.lst (hs.map V.int))=H2 at *
  refine zR (xs:=hs.map V.int) (fun i σ H'=>∃ o6 o7 o8,σ=[some (.ref p),some r,some (.ref dw),some (.int t),some (.ref hd),some (.ref pd),o6,o7,o8]∧H' pd=some (.dK (tabI (nxt hs ls e4 f t g) (hs.take i)))∧Same H H'∧H' ph=some (.lst (hs.map V.int))) ?_ ?_ ?_ ?_
  ·exact⟨_,_,_,rfl,hpd2,s2,hph2⟩
  ·rintro i σ H' hi ⟨o6,o7,o8,_,_,_,hp⟩
   exact SqL.of hp
  ·rintro i v σ H3 hi ⟨o6,o7,o8,rfl,hpd3,s3,hp3⟩
   obtain⟨x,hx,rfl⟩:∃ x,hs[i]?=some x∧v=.int x:=by
    rw[List.getElem?_map] at hi
    obtain⟨x,h1,h2⟩:=Option.map_eq_some_iff.mp hi
    exact⟨x,h1,h2.symm⟩
   have hxm:=List.mem_of_getElem? hx
   have hil:i<hs.length:=(List.getElem?_eq_some_iff.mp hx).1
   have Wb3:=Wb.same s3
   refine⟨_,rfl,p,_,dx,_,_,_,_,_,_,rfl,Wb3.p,rfl,T.cl_Web,T.mt_qa2,VN (P:=P) (w:=w) T,hr.mono (by omega),T.b_qa2,_,rfl,p,x,hs,ls,dx,oh,ol,d,ad0,rfl,Wb3,W.wh,W.wl,hxm,fun pn hpn=>?_⟩
   have n4:=Same.new (o:=HO.lst ((hs.filter (adB ls x)).map V.int)) hpn
   refine⟨pn,_,rfl,.inl (SqL.of upd_same),?_⟩
   have s4:=s3.trans n4
   have hpd4:=n4 _ _ hpd3
   have hp4:=n4 _ _ hp3
   generalize hH4:upd H3 pn (HO.lst ((hs.filter (adB ls x)).map V.int))=H4 at *
   have hH4':=hH.same s4
   obtain⟨rs,hrs,hln,hlen⟩:=hH4'.at_ x hxm
   refine⟨_,rfl,_,rfl,hd,V.ref (ad x),rfl,xb hH4'.q hxm,ad x,rfl,⟨_,SqL.of hrs⟩,fun D hD _=>?_⟩
   refine yo (K:=K) (a:=ad x) (xs:=rs) (fun j zs τ H'=>∃ o,τ=[o]∧zs=(((g x).take j).map (·.2)).map V.int∧H' D=some (.lst zs)∧Same H4 H') ?_ ?_ ?_ ?_
   ·exact⟨none,rfl,by simp,upd_same,Same.new hD⟩
   ·rintro j zs τ H' ⟨o,_,_,_,sm⟩
    exact SqL.of (sm _ _ hrs)
   ·rintro j v zs τ H' hj ⟨o,rfl,rfl,hD',sm⟩
    obtain⟨pr,q,hpr,rfl,hq⟩:=hln.get hj
    have hjl:j<(g x).length:=(List.getElem?_eq_some_iff.mp hpr).1
    have lg:=hln.1
    refine gn_if ?_
    refine⟨_,rfl,q,_,1,_,rfl,rfl,SqT.of (sm _ _ hq),rfl,hD',by simp;exact zm (by omega),some (.ref q),rfl,?_,upd_same,Same.updF sm hD⟩
    rw[List.take_add_one,hpr]
    simp
   ·rintro zs τ H5 ⟨o,rfl,rfl,hD5,sm⟩
    rw[hln.1,List.take_length] at hD5
    have s5:=s4.trans sm
    have hpd5:=sm _ _ hpd4
    have hP5:=ProgAt.same s5 hP
    obtain⟨pp,pdx,r1,r2,r3,r4,hre,hpp,hF⟩:=id hP5
    refine⟨_,rfl,pp,_,pdx,_,_,_,_,_,_,hre,hpp,rfl,T.cl_Program,T.mt_qX,VL (P:=P) (w:=w) T,hr.mono (by omega),T.b_qX,_,rfl,_,rfl,dw,_,rfl,um (s5 _ _ hdw) (hus _ hxm),_,rfl,_,rfl,_,rfl,_,rfl,r,e1,e2,e3,e4,f x,x,t,_,D,(g x).map (·.2),rfl,hP5,hD5,fun H6 mn mx s6 hmn hmx=>?_⟩
    rw[V0 hmn,VW hmx]
    have hpd6:=s6 _ _ hpd5
    refine⟨_,rfl,_,rfl,pd,_,rfl,DPut.k (k:=.inl x) hpd6 (by unfold tabI;rw[List.length_map,List.length_take];exact zm (by omega)),?_⟩
    have s56:=s5.trans s6
    refine⟨_,_,_,rfl,?_,Same.updF s56 hpd,by rw[upd_ne npp];exact s6 _ _ (sm _ _ hp4)⟩
    rw[upd_same,putK_new (by rw[wY,Y0];exact xk nd hx),List.take_add_one,hx]
    unfold tabI
    rw[List.map_append]
    rfl
  ·rintro σ H3 ⟨o6,o7,o8,rfl,hpd3,s3,hp3⟩
   rw[List.length_map,List.take_length] at hpd3
   exact⟨_,rfl,k pd H3 hpd s3 hpd3⟩
theorem at0 {x:V}{xs:List V}:atI (x::xs) 0=some x:=by
 unfold atI ixN
 simp
noncomputable def hide (st:List Addr) (H:Hp):Hp:=fun b=>if b∈st then none else H b
theorem yx {st:List Addr}{b:Addr}{H:Hp}{o:HO}(n:b∉st) (h:H b=some o):hide st H b=some o:=by unfold hide;rw[if_neg n];exact h
theorem wN {st:List Addr}{b:Addr}{H:Hp}{o:HO}(e:hide st H b=some o):b∉st∧H b=some o:=by
 unfold hide at e
 split at e
 ·cases e
 ·exact⟨‹_›,e⟩
theorem yC {st:List Addr}{H:Hp}:Same (hide st H) H:=fun b o e=>(wN e).2
theorem yY {st:List Addr}{H H':Hp}(x:Same H H'):Same (hide st H) (hide st H'):=fun b o e=>by
 obtain⟨n,e'⟩:=wN e
 exact yx n (x b o e')
theorem yB {st:List Addr}{p:Addr}{H:Hp}{o:HO}(m:p∈st):Same (hide st H) (hide st (upd H p o)):=fun b o' e=>by
 obtain⟨n,e'⟩:=wN e
 exact yx n (by rw[upd_ne (fun z=>n (by rw[z];exact m))];exact e')
theorem HrAt.hide {st:List Addr}{H:Hp}{q:Addr}{ad:Int→Addr}{hs:List Int}{g:Int→List (Int×Int)}(h:HrAt H q ad hs g) (nq:q∉st) (na:∀ x∈hs,ad x∉st) (nt:∀ b∈st,∀ xs,H b≠some (.tup xs)):HrAt (hide st H) q ad hs g :=
 ⟨yx nq h.q,h.inj,fun x hx=>by
  obtain⟨rs,h1,h2,h3⟩:=h.at_ x hx
  exact⟨rs,yx (na x hx) h1,h2.mono fun b xs e=>yx (fun z=>nt b z xs e) e,h3⟩⟩
theorem XX {f:Int→Int}{us:List Int}{x v:Int}(hx:x∈us):putK (tabI f us) (.inl x) (.int v)=tabI (fun y=>if y=x then v else f y) us:=by
 unfold putK
 rw[if_pos]
 ·unfold tabI
  rw[List.map_map]
  refine List.map_congr_left fun y _=>?_
  by_cases e:y=x
  ·subst e;simp
  ·have:¬ ((Sum.inl y:Key)=Sum.inl x):=fun z=>e (by injection z)
   simp[e]
 ·rw[List.any_eq_true]
  exact⟨(.inl x,.int (f x)),List.mem_map.mpr ⟨x,hx,rfl⟩,by simp⟩
theorem vt {us:List Int}{f':Int→Int}:∀ {vs:List Int}{f:Int→Int},(∀ x∈vs,x∈us)→vs.Nodup→mergeK (tabI f us) (tabI f' vs)=tabI (fun y=>if y∈vs then f' y else f y) us
 |[],f,_,_=>by
  show tabI f us=_
  congr 1
 |x::vs,f,h,nd=>by
  show mergeK (putK (tabI f us) (.inl x) (.int (f' x))) (tabI f' vs)=_
  obtain⟨n1,n2⟩:=List.nodup_cons.mp nd
  rw[XX (h x (by simp)),vt (fun y hy=>h y (by simp[hy])) n2]
  congr 1
  funext y
  by_cases e:y=x
  ·subst e
   simp[n1]
  ·simp[e]
abbrev Rd:=List Int×List (Int×Int)
section
variable (e2 e3 e4:Ex)
def hrd (r:Rd) (f:Int→Int) (t:Nat):Int→List (Int×Int):=XG r.1 r.2 e2 e3 f (t:Int) r.1
def wrd (r:Rd) (f:Int→Int) (t:Nat):Int→Int:=nxt r.1 r.2 e4 f (t:Int) (hrd e2 e3 r f t)
def stp (r:Rd) (f:Int→Int) (t:Nat):Int→Int:=fun y=>if y∈r.1 then wrd e2 e3 e4 r f t y else f y
def La (f0:Int→Int) (rds:List Rd):Nat→Int→Int
 |0=>f0
 |k+1=>match rds[k]? with
  |some r=>stp e2 e3 e4 r (La f0 rds k) (k+1)
  |none=>La f0 rds k
end
theorem WL {e2 e3 e4:Ex}{f0:Int→Int}{rds rds':List Rd}:∀ k,(∀ i,i<k→rds[i]?=rds'[i]?)→La e2 e3 e4 f0 rds k=La e2 e3 e4 f0 rds' k
 |0,_=>rfl
 |k+1,h=>by
  unfold La
  rw[h k (by omega),WL k fun i hi=>h i (by omega)]
theorem znN {e2 e3 e4:Ex}{f0:Int→Int}{rds:List Rd}{k:Nat}{r:Rd}(h:rds[k]?=some r):La e2 e3 e4 f0 rds (k+1)=stp e2 e3 e4 r (La e2 e3 e4 f0 rds k) (k+1):=by
 show(match rds[k]? with | some r=>_ | none=>_)=_
 rw[h]
theorem vE {e2 e3 e4:Ex}{f0:Int→Int}{rds:List Rd}{r:Rd}{k:Nat}(h:k≤rds.length):La e2 e3 e4 f0 (rds++[r]) k=La e2 e3 e4 f0 rds k:=WL k fun i hi=>List.getElem?_append_left (by omega)
structure RnP (H:Hp) (e2 e3 e4:Ex) (f0:Int→Int) (hs0:List Int) (rds:List Rd) (ws gs:List Addr):Prop where
 lw:ws.length=rds.length+1
 lg:gs.length=rds.length
 z:∀ q,ws[0]?=some q→H q=some (.dK (tabI f0 hs0))
 w:∀ (k:Nat) (q:Addr) (r:Rd),ws[k+1]?=some q→rds[k]?=some r→H q=some (.dK (tabI (wrd e2 e3 e4 r (La e2 e3 e4 f0 rds k) (k+1)) r.1))
 g:∀ (k:Nat) (q:Addr) (r:Rd),gs[k]?=some q→rds[k]?=some r→∃ ad,HrAt H q ad r.1 (hrd e2 e3 r (La e2 e3 e4 f0 rds k) (k+1))
theorem RnP.same {H H':Hp}{e2 e3 e4:Ex}{f0:Int→Int}{hs0:List Int}{rds:List Rd}{ws gs:List Addr}(h:RnP H e2 e3 e4 f0 hs0 rds ws gs) (s:Same H H'):RnP H' e2 e3 e4 f0 hs0 rds ws gs :=
 ⟨h.lw,h.lg,fun q e=>s _ _ (h.z q e),fun k q r e e'=>s _ _ (h.w k q r e e'),fun k q r e e'=>by
  obtain⟨ad,x⟩:=h.g k q r e e'
  exact⟨ad,x.same s⟩⟩
theorem RnP.snoc {H:Hp}{e2 e3 e4:Ex}{f0:Int→Int}{hs0:List Int}{rds:List Rd}{ws gs:List Addr}{r:Rd}{q g:Addr}{ad:Int→Addr}(h:RnP H e2 e3 e4 f0 hs0 rds ws gs)
  (hg:HrAt H g ad r.1 (hrd e2 e3 r (La e2 e3 e4 f0 rds rds.length) (rds.length+1))) (hq:H q=some (.dK (tabI (wrd e2 e3 e4 r (La e2 e3 e4 f0 rds rds.length) (rds.length+1)) r.1))):RnP H e2 e3 e4 f0 hs0 (rds++[r]) (ws++[q]) (gs++[g]):=by
 have lw:=h.lw
 have lg:=h.lg
 have one:∀ {k:Nat}{r':Rd},(rds++[r])[k]?=some r'→¬ k<rds.length→k=rds.length∧r'=r:=fun {k r'} e n=>by
  rw[List.getElem?_append_right (by omega)] at e
  have:=(List.getElem?_eq_some_iff.mp e).1
  rw[List.length_singleton] at this
  have e0:k-rds.length=0:=by omega
  rw[e0] at e
  cases e
  exact⟨by omega,rfl⟩
 refine⟨by simp[lw],by simp[lg],fun b hb=>h.z b ?_,fun k b r' hb hr=>?_,fun k b r' hb hr=>?_⟩
 ·rw[List.getElem?_append_left (by omega)] at hb
  exact hb
 ·by_cases c:k<rds.length
  ·rw[List.getElem?_append_left (by omega)] at hb hr
   rw[vE (by omega)]
   exact h.w k b r' hb hr
  ·obtain⟨rfl,rfl⟩:=one hr c
   rw[List.getElem?_append_right (by omega),lw,Nat.sub_self] at hb
   cases hb
   rw[vE (Nat.le_refl _)]
   exact hq
 ·by_cases c:k<rds.length
  ·rw[List.getElem?_append_left (by omega)] at hb hr
   rw[vE (by omega)]
   exact h.g k b r' hb hr
  ·obtain⟨rfl,rfl⟩:=one hr c
   rw[List.getElem?_append_right (by omega),lg,Nat.sub_self] at hb
   cases hb
   rw[vE (Nat.le_refl _)]
   exact⟨ad,hg⟩
theorem ud {xs:List V}{v:V}:atI (xs++[v]) (-1)=some v:=by
 unfold atI ixN
 rw[if_neg (by decide),if_pos (by simp;omega)]
 simp
 have:((-1:Int)+((xs.length:Int)+1)).toNat=xs.length:=by omega
 rw[this]
 simp
def Fg (H0 H:Hp) (pg:Addr) (gs:List Addr):Prop:=∀ q∈gs,∃ kvs,H q=some (.dK kvs)∧∀ kv∈kvs,∀ b,kv.2=V.ref b→H0 b=none∧b≠pg
theorem Fg.same {H0 H H':Hp}{pg:Addr}{gs:List Addr}(h:Fg H0 H pg gs) (s:Same H H'):Fg H0 H' pg gs:=fun q hq=>by
 obtain⟨kvs,e,r⟩:=h q hq
 exact⟨kvs,s _ _ e,r⟩
structure RnS (H H':Hp) (e2 e3 e4:Ex) (f0:Int→Int) (hs0:List Int) (dl pw pg:Addr) (rds:List Rd) (ws gs:List Addr):Prop where
 hdl:H' dl=some (.dK (tabI (La e2 e3 e4 f0 rds rds.length) hs0))
 hpw:H' pw=some (.lst (ws.map V.ref))
 hpg:H' pg=some (.lst (gs.map V.ref))
 rn:RnP (hide [dl,pw,pg] H') e2 e3 e4 f0 hs0 rds ws gs
 sm:Same H H'
 fw:∀ q∈ws,H q=none
 fg:∀ q∈gs,H q=none
 fr:Fg H (hide [dl,pw,pg] H') pg gs
structure Pc where
 hs:List Int
 ls:List (Int×Int)
 m:Nat
def rdsOf (ps:List Pc):List Rd:=ps.flatMap fun pc=>List.replicate pc.m (pc.hs,pc.ls)
def PcAt (a:Ad) (H:Hp) (vs:List V) (ps:List Pc):Prop:=vs.length=ps.length∧∀ (i:Nat) v pc,vs[i]?=some v→ps[i]?=some pc→∃ pt p,v=.ref pt∧H pt=some (.tup [.ref p,.int (pc.m:Int)])∧WbP a H p pc.hs pc.ls
theorem XW {ps:List Pc}{i:Nat}{pc:Pc}(h:ps[i]?=some pc):rdsOf (ps.take (i+1))=rdsOf (ps.take i)++List.replicate pc.m (pc.hs,pc.ls):=by
 unfold rdsOf
 rw[List.take_add_one,h,List.flatMap_append]
 simp
theorem zfA {ps:List Pc}{i:Nat}:(rdsOf (ps.take i)).length≤(rdsOf ps).length:=by
 have:rdsOf ps=rdsOf (ps.take i)++rdsOf (ps.drop i):=by
  unfold rdsOf
  rw[← List.flatMap_append,List.take_append_drop]
 rw[this,List.length_append]
 omega
def zjf (a:Ad):Sp:=fun vs H Q _=>∃ (lp:Addr) (pvs:List V) (pc:Pc) (ps:List Pc) (r:V) (e1 e2 e3 e4:Ex),vs=[.ref lp,r]∧H lp=some (.lst pvs)∧PcAt a H pvs (pc::ps)∧ProgAt a H e1 e2 e3 e4 r∧(∀ c∈pc::ps,∀ x∈c.hs,x∈pc.hs)∧(rdsOf (pc::ps)).length≤100 ∧
 ∀ q pw pg ws gs H',H q=none→H pw=none→H pg=none→(∀ q∈ws,H q=none)→(∀ q∈gs,H q=none)→Fg H H' pg gs→Same H H'→H' q=some (.tup [.ref pw,.ref pg])→H' pw=some (.lst (ws.map V.ref))→H' pg=some (.lst (gs.map V.ref))→RnP H' e2 e3 e4 (w0 pc.hs pc.ls e1) pc.hs (rdsOf (pc::ps)) ws gs→Q (.ref q) H'
theorem zf0 (T:Txt w K mg a):FnOk P w K mg base CX0 12 a.f_qd a.d_qd ["pieces", "program"] (zjf a):=by
 have c_qa:Callee P w K mg base "first_worths" a.f_qa a.d_qa ["web", "program"] 11 (zuC a):=⟨zj7 T,T.g_qa,T.F_qa.kp,T.b_qa⟩
 have c_qb:Callee P w K mg base "heard_in" a.f_qb a.d_qb ["web", "program", "worths", "turn"] 11 (zuB a):=⟨zj6 T,T.g_qb,T.F_qb.kp,T.b_qb⟩
 have c_qc:Callee P w K mg base "worths_behind" a.f_qc a.d_qc ["web", "program", "worths", "turn", "heard"] 11 (zuq a):=⟨zjY T,T.g_qc,T.F_qc.kp,T.b_qc⟩
 refine T.F_qd.ok sc_qd (fun vs H Q E h=>?_) (fun cdv A outer s H vs Q E hr h=>?_)
 ·obtain⟨lp,pvs,pc,ps,r,e1,e2,e3,e4,rfl,_⟩:=h
  rfl
 ·obtain⟨lp,pvs,pc,ps,r,e1,e2,e3,e4,rfl,hlp,hPc,hP,hsub,hn,k⟩:=h
  have hu:=xp hr
  refine zB (w_pss_cons (zi (i:=2) sc_qd.nd rfl (Or.inl rfl) (zj c_qa (hr.mono (by omega)) (zf (zq zH (zq zN (w_pv 0) zd (fun _ _=>rfl)) zd (fun _ _=>rfl)) (w_pa_N (w_pv 1) w_pa_nil))))
   (w_pss_cons (zi (i:=3) sc_qd.nd rfl (Or.inl rfl) (zr (zx (zI wo (by rfl) T.n_dict xT (w_pa_N (w_pv 2) w_pa_nil)) w_pa_nil)))
   (w_pss_cons (zi (i:=4) sc_qd.nd rfl (Or.inl rfl) (zr w_pa_nil))
   (w_pss_cons (zO PassesOwn.never rfl (zE (w_pv 0)) (uh rfl (yz (zt (i:=5) sc_qd.nd rfl (Or.inl rfl)) (yz (zt (i:=6) sc_qd.nd rfl (Or.inl rfl)) wR)))
    (w_pss_cons (zi (i:=7) sc_qd.nd rfl (Or.inl rfl) (w_pe_callB zn (by rfl) T.n_len zU (w_pa_N (w_pv 3) w_pa_nil)))
    (ze (zO PassesOwn.never rfl (vH rfl T.n_range (w_pa_N (w_pv 7) (yb (zh ym (w_pv 7) (w_pv 6)) w_pa_nil))) (zt (i:=8) sc_qd.nd rfl (Or.inl rfl))
     (w_pss_cons (zy (zV PySem.F.plainAttrs_list PySem.F.slot_list_append PySem.F.type_list_append zC (w_pv 4) (zx (zj c_qb (hr.mono (by omega)) (w_pa_N (w_pv 5) (w_pa_N (w_pv 1) (w_pa_N (w_pv 2) (w_pa_N (w_pv 8) w_pa_nil))))) w_pa_nil)))
     (w_pss_cons (zy (zV PySem.F.plainAttrs_list PySem.F.slot_list_append PySem.F.type_list_append zC (w_pv 3) (zx (zj c_qc (hr.mono (by omega)) (w_pa_N (w_pv 5) (w_pa_N (w_pv 1) (w_pa_N (w_pv 2) (w_pa_N (w_pv 8) (zf (zq zN (w_pv 4) (wp wX zd) (fun _ _=>rfl)) w_pa_nil)))))) w_pa_nil)))
     (ze (zy (Zq (w_pv 2) (zq zN (w_pv 3) (wp wX zd) (fun _ _=>rfl)) ⟨rfl,rfl,rfl,rfl⟩)))))))))
   (ze (zg (zF (w_pa_N (w_pv 3) (w_pa_N (w_pv 4) w_pa_nil))))))))) ?_
  have lpv:0<pvs.length:=by rw[hPc.1];exact Nat.zero_lt_succ _
  have gp0:=List.getElem?_eq_getElem lpv
  obtain⟨pt,p,ept,hpt,W⟩:=hPc.2 0 _ pc gp0 rfl
  rw[ept] at gp0
  have l12:=W.wh.l12
  have nd:=v8 W.wh
  refine⟨_,rfl,lp,_,0,_,rfl,rfl,SqL.of hlp,xU (j:=0) gp0,pt,_,0,_,rfl,rfl,SqT.of hpt,at0,_,rfl,p,pc.hs,pc.ls,r,e1,e2,e3,e4,rfl,W,hP,fun dl H1 hdl0 s1 hdl1=>?_⟩
  generalize hf0:w0 pc.hs pc.ls e1=f0 at *
  refine⟨_,rfl,dl,_,rfl,hdl1,fun q0 hq0=>⟨(by show 1≤sizeLine;decide),fun pw hpw=>?_⟩⟩
  have n2:=Same.new (o:=HO.dK (tabI f0 pc.hs)) hq0
  have n3:=Same.new (o:=HO.lst [V.ref q0]) hpw
  refine⟨(by show 0≤sizeLine;decide),fun pg hpg=>?_⟩
  have n4:=Same.new (o:=HO.lst []) hpg
  have n34:=n3.trans n4
  have n24:=n2.trans n34
  have hdl2:=n24 _ _ hdl1
  have hq2:=n34 _ _ (upd_same (H:=H1) (a:=q0) (o:=HO.dK (tabI f0 pc.hs)))
  have hpw2:=n4 _ _ (upd_same (H:=upd H1 q0 (HO.dK (tabI f0 pc.hs))) (a:=pw) (o:=HO.lst [V.ref q0]))
  have hpg2:(upd (upd (upd H1 q0 (HO.dK (tabI f0 pc.hs))) pw (HO.lst [V.ref q0])) pg (HO.lst [])) pg=some (.lst []):=upd_same
  have s2:=s1.trans n24
  have ndw:dl≠pw:=fun z=>by rw[← z,n2 _ _ hdl1] at hpw;cases hpw
  have ndg:dl≠pg:=fun z=>by rw[← z,n3 _ _ (n2 _ _ hdl1)] at hpg;cases hpg
  have nwg:pw≠pg:=fun z=>by rw[← z,upd_same] at hpg;cases hpg
  have fpw:H pw=none:=(s1.trans n2).free hpw
  have fpg:H pg=none:=(s1.trans (n2.trans n3)).free hpg
  have nq0:q0∉[dl,pw,pg]:=fun z=>by
   simp only[List.mem_cons,List.not_mem_nil,or_false] at z
   rcases z with z | z | z
   ·rw[z,hdl1] at hq0;cases hq0
   ·rw[← z,upd_same] at hpw;cases hpw
   ·rw[← z,n3 _ _ upd_same] at hpg;cases hpg
  generalize hH2:upd (upd (upd H1 q0 (HO.dK (tabI f0 pc.hs))) pw (HO.lst [V.ref q0])) pg (HO.lst [])=H2 at *
  have R0:RnS H H2 e2 e3 e4 f0 pc.hs dl pw pg [] [q0] []:=⟨hdl2,hpw2,hpg2,⟨rfl,rfl,fun q h=>by cases h;exact yx nq0 hq2,fun k q r h=>by simp at h,fun k q r h=>by simp at h⟩,s2,fun q hq=>by rw[List.mem_singleton.mp hq];exact s1.free hq0,(fun q hq=>nomatch hq),fun q hq=>nomatch hq⟩
  refine⟨_,rfl,lp,rfl,⟨_,SqL.of (s2 _ _ hlp)⟩,?_⟩
  refine zR (xs:=pvs) (fun i σ H'=>∃ o5 o6 o7 o8 ws gs,σ=[some (.ref lp),some r,some (.ref dl),some (.ref pw),some (.ref pg),o5,o6,o7,o8]∧RnS H H' e2 e3 e4 f0 pc.hs dl pw pg (rdsOf ((pc::ps).take i)) ws gs) ?_ ?_ ?_ ?_
  ·exact⟨_,_,_,_,[q0],[],rfl,R0⟩
  ·rintro i σ H' hi ⟨o5,o6,o7,o8,ws,gs,_,R⟩
   exact SqL.of (R.sm _ _ hlp)
  ·rintro i v σ H' hi ⟨o5,o6,o7,o8,ws,gs,rfl,R⟩
   have hil:i<(pc::ps).length:=by rw[← hPc.1];exact(List.getElem?_eq_some_iff.mp hi).1
   have gpi:=List.getElem?_eq_getElem hil
   generalize (pc::ps)[i]=ci at gpi
   obtain⟨pt,p,rfl,hpt,W⟩:=hPc.2 i v ci hi gpi
   have hci:=hsub ci (List.mem_of_getElem? gpi)
   have rt:=XW gpi
   have rle:=zfA (ps:=pc::ps) (i:=i+1)
   rw[rt,List.length_append,List.length_replicate] at rle
   generalize rdsOf ((pc::ps).take i)=rds at *
   have lw:=R.rn.lw
   refine⟨pt,_,rfl,SqT.of (R.sm _ _ hpt),rfl,_,_,rfl,_,_,rfl,rfl,?_⟩
   refine⟨_,rfl,pw,_,rfl,.inl (SqL.of R.hpw),?_⟩
   rw[List.length_map,lw]
   refine⟨_,rfl,_,rfl,_,rfl,_,_,rfl,rfl,((rds.length+1:Nat):Int),((rds.length+1:Nat):Int)+(ci.m:Int),rfl,⟨by omega,by omega,by omega,by omega⟩,?_⟩
   rw[show(((rds.length+1:Nat):Int)+(ci.m:Int)-((rds.length+1:Nat):Int)).toNat=ci.m by omega]
   refine for_range (lo:=((rds.length+1:Nat):Int)) (fun j σ H'=>∃ o8 ws gs,σ=[some (.ref lp),some r,some (.ref dl),some (.ref pw),some (.ref pg),some (.ref p),some (.int (ci.m:Int)),some (.int ((rds.length+1:Nat):Int)),o8]∧RnS H H' e2 e3 e4 f0 pc.hs dl pw pg (rds++List.replicate j (ci.hs,ci.ls)) ws gs) ?_ ?_ ?_
   ·exact⟨_,ws,gs,rfl,by simpa using R⟩
   ·rintro j σ H3 hj ⟨o8,ws,gs,rfl,R⟩
    have er:rds++List.replicate (j+1) (ci.hs,ci.ls)=(rds++List.replicate j (ci.hs,ci.ls))++[(ci.hs,ci.ls)]:=by rw[List.replicate_succ',List.append_assoc]
    have et:(((rds.length+1:Nat):Int)+(j:Int))=(((rds++List.replicate j (ci.hs,ci.ls)).length+1:Nat):Int):=by simp;omega
    have lj:(rds++List.replicate j (ci.hs,ci.ls)).length≤100:=by simp;omega
    rw[er]
    generalize rds++List.replicate j (ci.hs,ci.ls)=rd at *
    have lw:=R.rn.lw
    have lg:=R.rn.lg
    have Fdef:∀ F:Int→Int,F=La e2 e3 e4 f0 rd rd.length→F=La e2 e3 e4 f0 rd rd.length:=fun _ h=>h
    refine⟨_,rfl,.inl ⟨rfl,_,SqL.of R.hpg⟩,_,rfl,_,rfl,_,rfl,_,rfl,p,ci.hs,ci.ls,r,e1,e2,e3,e4,dl,pc.hs,La e2 e3 e4 f0 rd rd.length,_,rfl,W.same R.sm,ProgAt.same R.sm hP,R.hdl,hci,fun g ad H4 hg0 had0 s4 hHr=>?_⟩
    rw[et] at hHr
    have hHr:HrAt H4 g ad ci.hs (hrd e2 e3 (ci.hs,ci.ls) (La e2 e3 e4 f0 rd rd.length) (rd.length+1)):=hHr
    refine⟨pg,_,_,rfl,rfl,s4 _ _ R.hpg,(by rw[List.length_map];exact zm (by omega)),?_⟩
    have occ:∀ b∈[dl,pw,pg],∃ o,H3 b=some o∧∀ xs,o≠.tup xs:=fun b hb=>by
     simp only[List.mem_cons,List.not_mem_nil,or_false] at hb
     rcases hb with rfl | rfl | rfl
     ·exact⟨_,R.hdl,fun xs z=>by cases z⟩
     ·exact⟨_,R.hpw,fun xs z=>by cases z⟩
     ·exact⟨_,R.hpg,fun xs z=>by cases z⟩
    have out:∀ b,H3 b=none→b∉[dl,pw,pg]:=fun b e hb=>by
     obtain⟨o,h1,_⟩:=occ b hb
     rw[h1] at e
     cases e
    have hHr4:=HrAt.hide (st:=[dl,pw,pg]) hHr (out g hg0) (fun x hx=>out _ (had0 x hx)) fun b hb xs e=>by
     obtain⟨o,h1,h2⟩:=occ b hb
     rw[s4 _ _ h1] at e
     exact h2 xs (by injection e)
    have rn4:=R.rn.same (yY (st:=[dl,pw,pg]) s4)
    have u5:Same (hide [dl,pw,pg] H4) (hide [dl,pw,pg] (upd H4 pg (HO.lst (gs.map V.ref++[V.ref g])))):=yB (by simp)
    have s5:Same H (upd H4 pg (HO.lst (gs.map V.ref++[V.ref g]))):=Same.updF (R.sm.trans s4) fpg
    have hdl5:(upd H4 pg (HO.lst (gs.map V.ref++[V.ref g]))) dl=_:=(upd_ne ndg).trans (s4 _ _ R.hdl)
    have hpw5:(upd H4 pg (HO.lst (gs.map V.ref++[V.ref g]))) pw=_:=(upd_ne nwg).trans (s4 _ _ R.hpw)
    have hpg5:(upd H4 pg (HO.lst (gs.map V.ref++[V.ref g]))) pg=some (.lst (gs.map V.ref++[V.ref g])):=upd_same
    have hHr5:=hHr4.same u5
    have rn5:=rn4.same u5
    generalize hH5:upd H4 pg (HO.lst (gs.map V.ref++[V.ref g]))=H5 at *
    refine⟨_,rfl,.inl ⟨rfl,_,SqL.of hpw5⟩,_,rfl,_,rfl,_,rfl,_,rfl,_,rfl,_,rfl,pg,_,_,_,rfl,rfl,SqL.of hpg5,ud,p,ci.hs,ci.ls,r,e1,e2,e3,e4,dl,g,pc.hs,La e2 e3 e4 f0 rd rd.length,_,ad,hrd e2 e3 (ci.hs,ci.ls) (La e2 e3 e4 f0 rd rd.length) (rd.length+1),rfl,W.same s5,ProgAt.same s5 hP,hdl5,hci,hHr5.same yC,fun q H6 hq0 s6 hq=>?_⟩
    rw[et] at hq
    have hq:H6 q=some (.dK (tabI (wrd e2 e3 e4 (ci.hs,ci.ls) (La e2 e3 e4 f0 rd rd.length) (rd.length+1)) ci.hs)):=hq
    refine⟨pw,_,_,rfl,rfl,s6 _ _ hpw5,(by rw[List.length_map];exact zm (by omega)),?_⟩
    have nq:q∉[dl,pw,pg]:=fun hb=>by
     simp only[List.mem_cons,List.not_mem_nil,or_false] at hb
     rcases hb with z | z | z
     ·rw[z,hdl5] at hq0;cases hq0
     ·rw[z,hpw5] at hq0;cases hq0
     ·rw[z,hpg5] at hq0;cases hq0
    have nqd:q≠dl:=fun z=>nq (by simp[z])
    have nqw:q≠pw:=fun z=>nq (by simp[z])
    have u6:=yY (st:=[dl,pw,pg]) s6
    have u7:Same (hide [dl,pw,pg] H6) (hide [dl,pw,pg] (upd H6 pw (HO.lst (ws.map V.ref++[V.ref q])))):=yB (by simp)
    have s7:Same H (upd H6 pw (HO.lst (ws.map V.ref++[V.ref q]))):=Same.updF (s5.trans s6) fpw
    have hdl7:(upd H6 pw (HO.lst (ws.map V.ref++[V.ref q]))) dl=_:=(upd_ne ndw).trans (s6 _ _ hdl5)
    have hpg7:(upd H6 pw (HO.lst (ws.map V.ref++[V.ref q]))) pg=_:=(upd_ne nwg.symm).trans (s6 _ _ hpg5)
    have hpw7:(upd H6 pw (HO.lst (ws.map V.ref++[V.ref q]))) pw=some (.lst (ws.map V.ref++[V.ref q])):=upd_same
    have hq7:(upd H6 pw (HO.lst (ws.map V.ref++[V.ref q]))) q=_:=(upd_ne nqw).trans hq
    have hHr7:=hHr5.same (u6.trans u7)
    have rn7:=rn5.same (u6.trans u7)
    generalize hH7:upd H6 pw (HO.lst (ws.map V.ref++[V.ref q]))=H7 at *
    have lci:=W.wh.l12
    refine⟨_,rfl,dl,rfl,.inl ⟨_,.inl hdl7⟩,_,rfl,_,rfl,pw,_,_,_,rfl,rfl,SqL.of hpw7,ud,q,_,_,rfl,nqd.symm,hdl7,hq7,(by unfold tabI;rw[List.length_map,List.length_map];omega),?_⟩
    rw[vt hci (v8 W.wh)]
    have u8:Same (hide [dl,pw,pg] H7) (hide [dl,pw,pg] (upd H7 dl (HO.dK (tabI (fun y=>if y∈ci.hs then wrd e2 e3 e4 (ci.hs,ci.ls) (La e2 e3 e4 f0 rd rd.length) (rd.length+1) y else La e2 e3 e4 f0 rd rd.length y) pc.hs)))):=yB (by simp)
    refine⟨_,ws++[q],gs++[g],rfl,?_,?_,?_,(rn7.same u8).snoc (r:=(ci.hs,ci.ls)) (hHr7.same u8) (u8 _ _ (yx nq hq7)),Same.updF s7 hdl0,fun b hb=>(List.mem_append.mp hb).elim (R.fw b) (fun z=>by rw[List.mem_singleton.mp z];exact s5.free hq0),fun b hb=>(List.mem_append.mp hb).elim (R.fg b) (fun z=>by rw[List.mem_singleton.mp z];exact R.sm.free hg0),fun b hb=>(List.mem_append.mp hb).elim (fun z=>(((R.fr.same (yY s4)).same u5).same ((u6.trans u7).trans u8)) b z) (fun z=>?_)⟩
    rotate_right
    ·rw[List.mem_singleton.mp z]
     refine⟨_,(hHr7.same u8).q,fun kv hkv b e=>?_⟩
     obtain⟨x,hx,rfl⟩:=List.mem_map.mp hkv
     cases e
     exact⟨R.sm.free (had0 x hx),fun z=>out _ (had0 x hx) (by simp[z])⟩
    ·rw[upd_same,List.length_append,List.length_singleton,znN (r:=(ci.hs,ci.ls)) (by simp),vE (Nat.le_refl _)]
     rfl
    ·rw[upd_ne ndw.symm,hpw7,List.map_append]
     rfl
    ·rw[upd_ne ndg.symm,hpg7,List.map_append]
     rfl
   ·rintro σ H3 ⟨o8,ws,gs,rfl,R⟩
    rw[← rt] at R
    exact⟨_,_,_,_,ws,gs,rfl,R⟩
  ·rintro σ H3 ⟨o5,o6,o7,o8,ws,gs,rfl,R⟩
   rw[hPc.1,List.take_length] at R
   refine⟨_,rfl,_,rfl,(by show 2≤sizeLine;decide),fun q hq=>?_⟩
   have n9:=Same.new (o:=HO.tup [V.ref pw,V.ref pg]) hq
   exact k q pw pg ws gs _ (R.sm.free hq) fpw fpg R.fw R.fg ((R.fr.same yC).same n9) (R.sm.trans n9) upd_same (n9 _ _ R.hpw) (n9 _ _ R.hpg) ((R.rn.same yC).same n9)
def XsAt (H:Hp) (l:Addr):Prop:=∃ ns:List Int,H l=some (.lst (ns.map V.int))∧(∀ n∈ns,0≤n)∧ns.length≤150
theorem XsAt.ne {H:Hp}{l p:Addr}(s:XsAt H l) (h:H p=none):p≠l:=fun z=>by
 obtain⟨ns,e,_⟩:=s
 rw[← z,h] at e
 cases e
theorem XsAt.same {H H':Hp}{l:Addr}(s:XsAt H l) (k:Same H H'):XsAt H' l:=by
 obtain⟨ns,e,h⟩:=s
 exact⟨ns,k _ _ e,h⟩
theorem XsAt.new {H:Hp}{l p:Addr}{o:HO}(s:XsAt H l) (h:H p=none):XsAt (upd H p o) l:=s.same (Same.new h)
theorem XsAt.upd {H:Hp}{l p:Addr}{o:HO}(s:XsAt H l) (h:p≠l):XsAt (upd H p o) l:=by
 obtain⟨ns,e,h'⟩:=s
 exact⟨ns,by rw[upd_ne h.symm];exact e,h'⟩
theorem Told.extX {l:Addr}{H H':Hp}(s:XsAt H l) (k:Ext l H H'){e:Ex}{v:V}(t:Told H e v):Told H' e v:=t.mono fun b xs h=>k b _ h fun z=>by
 obtain⟨ns,e,_⟩:=s
 rw[z,e] at h
 cases h
def WU (K:PySem.W.Frag):Sp:=fun vs H Q _=>∃ (l:Addr) (ns:List Int) (k:Int),vs=[.ref l,.int k]∧SqL K H l (ns.map V.int)∧0≤k∧∀ i:Int,Q (.int i) H
theorem VP (T:Txt w K mg a):FnOk P w K mg base CX0 1 a.f_qt a.d_qt ["_law_script", "_law_k"] (WU K):=by
 refine T.F_qt.ok zji (fun vs H Q E h=>?_) (fun cdv A outer s H vs Q E hr h=>?_)
 ·obtain⟨l,ns,k,rfl,_⟩:=h
  rfl
 ·obtain⟨l,ns,k,rfl,hl,k0,q⟩:=h
  refine zB (w_pss_cons (w_ps_if (w_pt_cmpR xH (w_pv 1) (w_pe_callB zn (by rfl) T.n_len zU (w_pa_N (w_pv 0) w_pa_nil)) (zv _))
    (ze (zg (zq zN (w_pv 0) (w_pv 1) (fun _ _=>rfl))))
    zk)
   (ze (zg zd))) ?_
  refine⟨_,rfl,_,rfl,l,_,rfl,.inl hl,_,_,rfl,rfl,_,rfl,?_⟩
  rw[List.length_map]
  refine ite2 (fun z=>?_) (fun z=>?_)
  ·have z:k<ns.length:=of_decide_eq_true z
   obtain⟨n,rfl⟩:∃ n:Nat,k=n:=⟨k.toNat,by omega⟩
   have hn:n<ns.length:=by omega
   refine⟨_,rfl,_,rfl,l,_,_,V.int ns[n],rfl,rfl,hl,xU (by simp[hn]),?_⟩
   exact q _
  ·exact q 0
def wa:Sp:=fun vs H Q _=>∃ (l:Addr) (n:Int),vs=[.ref l,.int n]∧XsAt H l∧0<n∧∀ (d:Int) (H':Hp),0≤d→d<n→XsAt H' l→Ext l H H'→Q (.int d) H'
theorem xJ (T:Txt w K mg a):FnOk P w K mg base CX0 1 a.f_qv a.d_qv ["_law_xs", "_law_size"] wa:=by
 refine T.F_qv.ok zjh (fun vs H Q E h=>?_) (fun cdv A outer s H vs Q E hr h=>?_)
 ·obtain⟨l,n,rfl,_⟩:=h
  rfl
 ·obtain⟨l,n,rfl,⟨ns,hl,h0,hlen⟩,hn,k⟩:=h
  have un:∀ n:Nat,n≤3→(A.deeper (PyProof.Rows.envOfC "_law_take" (defScope uQ) s.heap.objs.size a.f_qv cdv)).units+n+2<cLine:=fun n hn=>by
   have:=hr.units
   omega
  refine zB (w_pss_cons (w_ps_if (w_pt_cmpR (zfX W3 zfW) (w_pv 0) (zr w_pa_nil) (zv _))
    (ze (zg zd))
    zk)
   (ze (zg (zh yU (zV PySem.F.plainAttrs_list PySem.F.slot_list_pop PySem.F.type_list_pop Wm (w_pv 0) (zl zd w_pa_nil)) (w_pv 1))))) ?_
  refine⟨_,rfl,(by show 0≤sizeLine;decide),fun q hq=>?_⟩
  have hql:q≠l:=fun z=>by rw[z,hl] at hq;cases hq
  have hl1:(L2.upd H q (.lst [])) l=_:=(upd_ne hql.symm).trans hl
  cases ns with
  |nil =>
   refine .inl ⟨l,q,_,_,fun _=>true,0,rfl,rfl,.inl ⟨SqL.of hl1,SqL.of upd_same⟩,rfl,?_,?_,?_⟩
   ·exact un 0 (by decide)
   ·intro j x y hx
    cases hx
   ·refine⟨_,rfl,iteB rfl ?_⟩
    exact k 0 _ (Int.le_refl _) hn ⟨[],hl1,h0,hlen⟩ (Ext.new hq)
  |cons n0 ns =>
   refine .inr ⟨l,q,_,_,rfl,rfl,SqL.of hl1,SqL.of upd_same,(by simp),?_,?_⟩
   ·exact Nat.lt_of_le_of_lt (Nat.le_add_right _ 2) (un 0 (by decide))
   ·refine⟨_,rfl,yh rfl ?_⟩
    refine⟨_,rfl,.inl ⟨rfl,_,SqL.of hl1⟩,l,_,0,0,_,rfl,rfl,hl1,by decide,by decide,(by simp[seqIndex?]),rfl,?_⟩
    refine⟨_,rfl,_,_,rfl,rfl,hn,?_⟩
    refine k _ _ (Int.emod_nonneg _ (Int.ne_of_gt hn)) (Int.emod_lt_of_pos _ hn) ⟨ns,upd_same,fun x hx=>h0 x (List.mem_cons_of_mem _ hx),?_⟩ ((Ext.new hq).trans Ext.at)
    have:ns.length+1≤150:=hlen
    omega
def vM:Sp:=fun vs H Q _=>∃ (c:Int) (m:Nat),vs=[.int c,.int (m:Int)]∧m≤150∧∀ (q:Addr) (H':Hp),H q=none→XsAt H' q→Same H H'→Q (.ref q) H'
theorem uA (T:Txt w K mg a):FnOk P w K mg base CX0 1 a.f_qu a.d_qu ["_law_cell", "_law_many"] vM:=by
 refine T.F_qu.ok sc_qu (fun vs H Q E h=>?_) (fun cdv A outer s H vs Q E hr h=>?_)
 ·obtain⟨c,m,rfl,_⟩:=h
  rfl
 ·obtain⟨c,m,rfl,hm,k⟩:=h
  refine zB (w_pss_cons (zi (i:=2) sc_qu.nd rfl (Or.inl rfl) (zr w_pa_nil))
   (w_pss_cons (zi (i:=3) sc_qu.nd rfl (Or.inl rfl) zd)
   (xy (w_ps_if (w_pt_cmpR zfV (w_pv 0) (zh yT zd zd) (zv _))
    (ze (zi (i:=3) sc_qu.nd rfl (Or.inl rfl) (zh yf (w_pv 0) (zh yT zd zd))))
    zk)
   (w_pss_cons (uM PassesOwn.never (ziw (XI (w_pt_cmpR op_gt (w_pv 3) zd (zv _)) (Zk (w_pt_cmpR xH (w_pe_callB zn (by rfl) T.n_len zU (w_pa_N (w_pv 2) w_pa_nil)) (w_pv 1) (zv _)))))
    (w_pss_cons (zy (zV PySem.F.plainAttrs_list PySem.F.slot_list_append PySem.F.type_list_append zC (w_pv 2) (yb (zh yU (w_pv 3) (zh yT zd zd)) w_pa_nil)))
    (ze (zi (i:=3) sc_qu.nd rfl (Or.inl rfl) (zh xv (w_pv 3) (zh yT zd zd))))))
   (w_pss_cons (zi (i:=4) sc_qu.nd rfl (Or.inl rfl) (zh yU (zh we (zh ym (zh yU (w_pv 0) zd) zd) zd) zd))
   (w_pss_cons (zO PassesOwn.never rfl (yc rfl T.n_range (yb (zh yf (w_pv 1) (w_pe_callB zn (by rfl) T.n_len zU (w_pa_N (w_pv 2) w_pa_nil))) w_pa_nil)) (zt (i:=5) sc_qu.nd rfl (Or.inl rfl))
    (w_pss_cons (zi (i:=4) sc_qu.nd rfl (Or.inl rfl) (zh yU (zh we (zh ym (zh ym (w_pv 4) (zh we zd (w_pv 5))) zd) zd) zd))
    (w_pss_cons (zi (i:=6) sc_qu.nd rfl (Or.inl rfl) (zh yU (zh we (w_pv 4) (zh ym (zh xv (w_pv 4) zd) zd)) zd))
    (ze (zy (zV PySem.F.plainAttrs_list PySem.F.slot_list_append PySem.F.type_list_append zC (w_pv 2) (yb (zh yU (zh we (w_pv 6) (zh ym (zh xv (w_pv 6) zd) zd)) zd) w_pa_nil)))))))
   (ze (zg (w_pv 2))))))))) ?_
  refine⟨(by show 0≤sizeLine;decide),fun p hp=>?_⟩
  refine⟨fun σ' H'=>∃ rest:Int,σ'=[some (.int c),some (.int m),some (.ref p),some (.int rest),none,none,none]∧H'=L2.upd H p (.lst []),?_,?_⟩
  ·refine⟨_,rfl,_,_,rfl,rfl,⟨by decide,by decide,by decide⟩,_,_,rfl,rfl,_,rfl,?_⟩
   refine ite2 (fun _=>?_) (fun _=>?_)
   ·exact⟨_,rfl,_,_,rfl,rfl,⟨by decide,by decide,by decide⟩,_,_,rfl,rfl,_,rfl,rfl⟩
   ·exact⟨_,rfl,rfl⟩
  ·rintro σ' H' ⟨rest,rfl,rfl⟩
   refine⟨fun μ σ H'=>∃ (ns:List Int) (rest:Int),μ=m-ns.length∧σ=[some (.int c),some (.int m),some (.ref p),some (.int rest),none,none,none]∧H' p=some (.lst (ns.map V.int))∧Same H H'∧(∀ n∈ns,0≤n)∧ns.length≤m,⟨_,[],rest,rfl,rfl,upd_same,Same.new hp,(fun n hn=>nomatch hn),Nat.zero_le _⟩,?_⟩
   rintro μ σ H1 ⟨ns,rest,rfl,rfl,hp1,s1,h0,hlen⟩
   refine⟨_,rfl,_,_,rfl,rfl,_,rfl,?_⟩
   refine(fun hB=>ite2 (fun _=>⟨_,rfl,p,_,rfl,.inl (SqL.of hp1),_,rfl,_,_,rfl,rfl,_,rfl,ite2 (fun z=>?gC) (fun _=>hB)⟩) (fun _=>hB)) ?gB
   case gC =>
    have z:(ns.length:Int)<m:=by
     have z:=of_decide_eq_true z
     rw[List.length_map] at z
     exact z
    refine⟨_,fun σ' H' h=>h,?_⟩
    refine⟨_,rfl,.inl ⟨rfl,_,SqL.of hp1⟩,_,rfl,_,_,rfl,rfl,⟨by decide,by decide,by decide⟩,_,_,rfl,rfl,(by show(0:Int)<10 ^ Int.toNat 6;decide),p,_,_,rfl,rfl,hp1,(by rw[List.length_map];exact zm (by omega)),?_⟩
    refine⟨_,rfl,_,_,rfl,rfl,⟨by decide,by decide,by decide⟩,_,_,rfl,rfl,⟨(by show(0:Int)<10 ^ Int.toNat 6;decide),(by show(10 ^ Int.toNat 6:Int).natAbs.log2<9000;decide)⟩,?_⟩
    refine⟨m-(ns.length+1),by omega,ns++[rest%10 ^ Int.toNat 6],_,by simp,rfl,?_,Same.updF s1 hp,?_,by simp;omega⟩
    ·rw[upd_same,List.map_append]
     rfl
    ·intro n hn
     rcases List.mem_append.mp hn with h | h
     ·exact h0 n h
     ·rw[List.mem_singleton.mp h]
      exact Int.emod_nonneg _ (by decide)
   case gB =>
    refine⟨_,rfl,_,_,rfl,rfl,(by show(0:Int)<2147483647;decide),_,_,rfl,rfl,_,_,rfl,rfl,.inr ⟨by decide,by decide⟩,_,_,rfl,rfl,(by show(0:Int)<2147483647;decide),?_⟩
    refine⟨_,rfl,_,rfl,p,_,rfl,.inl (SqL.of hp1),_,_,rfl,rfl,?_⟩
    rw[List.length_map]
    refine⟨(m:Int)-ns.length,rfl,by omega,by omega,?_⟩
    generalize ((c%2147483647+1)*48271%2147483647)=x0
    refine for_range (lo:=0) (fun i σ H'=>∃ (ns':List Int) (x:Int) (o5 o6:Option V),σ=[some (.int c),some (.int m),some (.ref p),some (.int rest),some (.int x),o5,o6]∧H' p=some (.lst (ns'.map V.int))∧Same H H'∧(∀ n∈ns',0≤n)∧ns'.length=ns.length+i) ?_ ?_ ?_
    ·exact⟨ns,_,none,none,rfl,hp1,s1,h0,rfl⟩
    ·rintro i σ H2 hi ⟨ns',x,o5,o6,rfl,hp2,s2,h2,hl2⟩
     refine⟨_,rfl,_,rfl,_,_,rfl,rfl,.inl ⟨by decide,by decide⟩,_,_,rfl,rfl,_,_,rfl,rfl,_,_,rfl,rfl,.inr ⟨by decide,by decide⟩,_,_,rfl,rfl,(by show(0:Int)<2147483647;decide),?_⟩
     generalize hv:(x+7919*(0+(i:Int))+1)*48271%2147483647=v
     have v1:0≤v:=by rw[← hv];exact Int.emod_nonneg _ (by decide)
     have v2:v<2147483647:=by rw[← hv];exact Int.emod_lt_of_pos _ (by decide)
     refine⟨_,rfl,_,rfl,_,_,rfl,rfl,⟨by show(0:Int)<1009;decide,log_1009⟩,_,_,rfl,rfl,_,_,rfl,rfl,.inl ⟨by omega,by omega⟩,_,_,rfl,rfl,(by show(0:Int)<2147483647;decide),?_⟩
     generalize hu:v*(v/1009+65537)%2147483647=u
     have u1:0≤u:=by rw[← hu];exact Int.emod_nonneg _ (by decide)
     have u2:u<2147483647:=by rw[← hu];exact Int.emod_lt_of_pos _ (by decide)
     refine⟨_,rfl,.inl ⟨rfl,_,SqL.of hp2⟩,_,rfl,_,rfl,_,_,rfl,rfl,⟨by show(0:Int)<2003;decide,Wt⟩,_,_,rfl,rfl,_,_,rfl,rfl,.inl ⟨by omega,by omega⟩,_,_,rfl,rfl,(by show(0:Int)<2147483399;decide),p,_,_,rfl,rfl,hp2,(by rw[List.length_map];exact zm (by omega)),?_⟩
     refine⟨ns'++[u*(u/2003+40697)%2147483399],v,some (.int (0+(i:Int))),some (.int u),(by rw[← hu,← hv];rfl),?_,Same.updF s2 hp,?_,by simp;omega⟩
     ·rw[upd_same,List.map_append,← hu,← hv]
      rfl
     ·intro n hn
      rcases List.mem_append.mp hn with h | h
      ·exact h2 n h
      ·rw[List.mem_singleton.mp h]
       exact Int.emod_nonneg _ (by decide)
    ·rintro σ H2 ⟨ns',x,o5,o6,rfl,hp2,s2,h2,hl2⟩
     exact⟨_,rfl,k p H2 hp ⟨ns',hp2,h2,by omega⟩ s2⟩
def zfs (a:Ad):Sp:=fun vs H Q _=>∃ (lp:Addr) (pvs:List V) (pc:Pc) (ps:List Pc) (r:V) (e1 e2 e3 e4:Ex),vs=[.ref lp,r]∧H lp=some (.lst pvs)∧PcAt a H pvs (pc::ps)∧ProgAt a H e1 e2 e3 e4 r∧(∀ c∈pc::ps,∀ x∈c.hs,x∈pc.hs)∧(rdsOf (pc::ps)).length≤100 ∧
 ∀ pw ws gs H',H pw=none→(∀ q∈ws,H q=none)→Same H H'→H' pw=some (.lst (ws.map V.ref))→RnP H' e2 e3 e4 (w0 pc.hs pc.ls e1) pc.hs (rdsOf (pc::ps)) ws gs→Q (.ref pw) H'
def zfu (a:Ad):Sp:=fun vs H Q _=>∃ (lp:Addr) (pvs:List V) (pc:Pc) (ps:List Pc) (r:V) (e1 e2 e3 e4:Ex),vs=[.ref lp,r]∧H lp=some (.lst pvs)∧PcAt a H pvs (pc::ps)∧ProgAt a H e1 e2 e3 e4 r∧(∀ c∈pc::ps,∀ x∈c.hs,x∈pc.hs)∧(rdsOf (pc::ps)).length≤100 ∧
 ∀ pg ws gs H',H pg=none→(∀ q∈gs,H q=none)→Fg H H' pg gs→Same H H'→H' pg=some (.lst (gs.map V.ref))→RnP H' e2 e3 e4 (w0 pc.hs pc.ls e1) pc.hs (rdsOf (pc::ps)) ws gs→Q (.ref pg) H'
theorem zfZ (T:Txt w K mg a):FnOk P w K mg base CX0 13 a.f_qe a.d_qe ["pieces", "program"] (zfs a):=by
 have c_qd:Callee P w K mg base "run_pieces" a.f_qd a.d_qd ["pieces", "program"] 12 (zjf a):=⟨zf0 T,T.g_qd,T.F_qd.kp,T.b_qd⟩
 refine T.F_qe.ok zjs (fun vs H Q E h=>?_) (fun cdv A outer s H vs Q E hr h=>?_)
 ·obtain⟨lp,pvs,pc,ps,r,e1,e2,e3,e4,rfl,_⟩:=h
  rfl
 ·obtain⟨lp,pvs,pc,ps,r,e1,e2,e3,e4,rfl,hlp,hPc,hP,hs,hn,k⟩:=h
  refine zB (ze (zg (zq zH (zj c_qd (hr.mono (by omega)) (w_pa_N (w_pv 0) (w_pa_N (w_pv 1) w_pa_nil))) zd (fun _ _=>rfl)))) ?_
  refine⟨_,rfl,_,rfl,lp,pvs,pc,ps,r,e1,e2,e3,e4,rfl,hlp,hPc,hP,hs,hn,fun q pw pg ws gs H' hq fpw fpg fw fg fr s1 hq1 h1 h2 R=>?_⟩
  exact⟨q,_,0,_,rfl,rfl,SqT.of hq1,rfl,k pw ws gs H' fpw fw s1 h1 R⟩
theorem zf1 (T:Txt w K mg a):FnOk P w K mg base CX0 13 a.f_qf a.d_qf ["pieces", "program"] (zfu a):=by
 have c_qd:Callee P w K mg base "run_pieces" a.f_qd a.d_qd ["pieces", "program"] 12 (zjf a):=⟨zf0 T,T.g_qd,T.F_qd.kp,T.b_qd⟩
 refine T.F_qf.ok zjr (fun vs H Q E h=>?_) (fun cdv A outer s H vs Q E hr h=>?_)
 ·obtain⟨lp,pvs,pc,ps,r,e1,e2,e3,e4,rfl,_⟩:=h
  rfl
 ·obtain⟨lp,pvs,pc,ps,r,e1,e2,e3,e4,rfl,hlp,hPc,hP,hs,hn,k⟩:=h
  refine zB (ze (zg (zq zH (zj c_qd (hr.mono (by omega)) (w_pa_N (w_pv 0) (w_pa_N (w_pv 1) w_pa_nil))) zd (fun _ _=>rfl)))) ?_
  refine⟨_,rfl,_,rfl,lp,pvs,pc,ps,r,e1,e2,e3,e4,rfl,hlp,hPc,hP,hs,hn,fun q pw pg ws gs H' hq fpw fpg fw fg fr s1 hq1 h1 h2 R=>?_⟩
  exact⟨q,_,1,_,rfl,rfl,SqT.of hq1,rfl,k pg ws gs H' fpg fg fr s1 h2 R⟩
theorem wx {hs:List Int}{ls:List (Int×Int)}{n:Nat}:rdsOf [⟨hs,ls,n⟩]=List.replicate n (hs,ls):=by
 unfold rdsOf
 simp
theorem PcAt.one {H:Hp}{pt p:Addr}{hs:List Int}{ls:List (Int×Int)}{n:Nat}(h:H pt=some (.tup [.ref p,.int (n:Int)])) (W:WbP a H p hs ls):PcAt a H [.ref pt] [⟨hs,ls,n⟩]:=⟨rfl,fun i v pc e1 e2=>by
 cases i with
 |zero=>cases e1;cases e2;exact⟨pt,p,rfl,h,W⟩
 |succ i=>cases e1⟩
def zur (a:Ad):Sp:=fun vs H Q _=>∃ (p:Addr) (hs:List Int) (ls:List (Int×Int)) (r:V) (e1 e2 e3 e4:Ex) (n:Nat),vs=[.ref p,r,.int (n:Int)]∧WbP a H p hs ls∧ProgAt a H e1 e2 e3 e4 r∧n≤100 ∧
 ∀ pw ws gs H',H pw=none→(∀ q∈ws,H q=none)→Same H H'→H' pw=some (.lst (ws.map V.ref))→RnP H' e2 e3 e4 (w0 hs ls e1) hs (List.replicate n (hs,ls)) ws gs→Q (.ref pw) H'
def zut (a:Ad):Sp:=fun vs H Q _=>∃ (p:Addr) (hs:List Int) (ls:List (Int×Int)) (r:V) (e1 e2 e3 e4:Ex) (n:Nat),vs=[.ref p,r,.int (n:Int)]∧WbP a H p hs ls∧ProgAt a H e1 e2 e3 e4 r∧n≤100 ∧
 ∀ pg ws gs H',H pg=none→(∀ q∈gs,H q=none)→Fg H H' pg gs→Same H H'→H' pg=some (.lst (gs.map V.ref))→RnP H' e2 e3 e4 (w0 hs ls e1) hs (List.replicate n (hs,ls)) ws gs→Q (.ref pg) H'
theorem zjZ (T:Txt w K mg a):FnOk P w K mg base CX0 14 a.f_qg a.d_qg ["web", "program", "rounds"] (zur a):=by
 have c_qe:Callee P w K mg base "worths_by_pieces" a.f_qe a.d_qe ["pieces", "program"] 13 (zfs a):=⟨zfZ T,T.g_qe,T.F_qe.kp,T.b_qe⟩
 refine T.F_qg.ok zjq (fun vs H Q E h=>?_) (fun cdv A outer s H vs Q E hr h=>?_)
 ·obtain⟨p,hs,ls,r,e1,e2,e3,e4,n,rfl,_⟩:=h
  rfl
 ·obtain⟨p,hs,ls,r,e1,e2,e3,e4,n,rfl,W,hP,hn,k⟩:=h
  refine zB (ze (zg (zj c_qe (hr.mono (by omega)) (zf (zr (wT (zF (w_pa_N (w_pv 0) (w_pa_N (w_pv 2) w_pa_nil))) w_pa_nil)) (w_pa_N (w_pv 1) w_pa_nil))))) ?_
  refine⟨_,rfl,_,rfl,(by show 2≤sizeLine;decide),fun pt hpt=>⟨(by show 1≤sizeLine;decide),fun lp hlp=>?_⟩⟩
  have n1:=Same.new (o:=HO.tup [V.ref p,V.int (n:Int)]) hpt
  have n2:=Same.new (o:=HO.lst [V.ref pt]) hlp
  have n12:=n1.trans n2
  refine⟨_,rfl,lp,_,⟨hs,ls,n⟩,[],r,e1,e2,e3,e4,rfl,upd_same,PcAt.one (n2 _ _ upd_same) (W.same n12),ProgAt.same n12 hP,fun c hc x hx=>?_,?_,fun pw ws gs H' f1 f2 s1 h1 R=>k pw ws gs H' (n12.free f1) (fun q hq=>n12.free (f2 q hq)) (n12.trans s1) h1 (by rw[wx] at R;exact R)⟩
  ·rw[List.mem_singleton.mp hc] at hx;exact hx
  ·rw[wx,List.length_replicate];exact hn
theorem zj1 (T:Txt w K mg a):FnOk P w K mg base CX0 14 a.f_qh a.d_qh ["web", "program", "rounds"] (zut a):=by
 have c_qf:Callee P w K mg base "heard_by_pieces" a.f_qf a.d_qf ["pieces", "program"] 13 (zfu a):=⟨zf1 T,T.g_qf,T.F_qf.kp,T.b_qf⟩
 refine T.F_qh.ok zjp (fun vs H Q E h=>?_) (fun cdv A outer s H vs Q E hr h=>?_)
 ·obtain⟨p,hs,ls,r,e1,e2,e3,e4,n,rfl,_⟩:=h
  rfl
 ·obtain⟨p,hs,ls,r,e1,e2,e3,e4,n,rfl,W,hP,hn,k⟩:=h
  refine zB (ze (zg (zj c_qf (hr.mono (by omega)) (zf (zr (wT (zF (w_pa_N (w_pv 0) (w_pa_N (w_pv 2) w_pa_nil))) w_pa_nil)) (w_pa_N (w_pv 1) w_pa_nil))))) ?_
  refine⟨_,rfl,_,rfl,(by show 2≤sizeLine;decide),fun pt hpt=>⟨(by show 1≤sizeLine;decide),fun lp hlp=>?_⟩⟩
  have n1:=Same.new (o:=HO.tup [V.ref p,V.int (n:Int)]) hpt
  have n2:=Same.new (o:=HO.lst [V.ref pt]) hlp
  have n12:=n1.trans n2
  refine⟨_,rfl,lp,_,⟨hs,ls,n⟩,[],r,e1,e2,e3,e4,rfl,upd_same,PcAt.one (n2 _ _ upd_same) (W.same n12),ProgAt.same n12 hP,fun c hc x hx=>?_,?_,fun pg ws gs H' f1 f2 f3 s1 h1 R=>k pg ws gs H' (n12.free f1) (fun q hq=>n12.free (f2 q hq)) (fun q hq=>by
   obtain⟨kvs,e,z⟩:=f3 q hq
   exact⟨kvs,e,fun kv hkv b eb=>⟨n12.free (z kv hkv b eb).1,(z kv hkv b eb).2⟩⟩) (n12.trans s1) h1 (by rw[wx] at R;exact R)⟩
  ·rw[List.mem_singleton.mp hc] at hx;exact hx
  ·rw[wx,List.length_replicate];exact hn
theorem Ex.ok_sub {ns ms:List Str}(h:∀ x∈ns,x∈ms):∀ e:Ex,e.ok ns→e.ok ms
 |.num i,o=>o
 |.name x,o=>h x o
 |.two w e1 e2,o=>⟨o.1,ok_sub h e1 o.2.1,ok_sub h e2 o.2.2⟩
 |.mod e1 i,o=>⟨o.1,ok_sub h e1 o.2⟩
 |.less e1 e2 e3 e4,o=>⟨ok_sub h e1 o.1,ok_sub h e2 o.2.1,ok_sub h e3 o.2.2.1,ok_sub h e4 o.2.2.2⟩
noncomputable def szB:Nat→Nat
 |0=>1
 |d+1=>max 5 (1+2*szB d)
theorem ZD:∀ d,1≤szB d
 |0=>by decide
 |d+1=>by show 1≤max 5 (1+2*szB d);omega
theorem znD {α:Type}{xs:List α}(h:xs.length=4):∃ a b c d,xs=[a,b,c,d]:=by
 cases xs with
 |nil=>cases h
 |cons a xs=>cases xs with
  |nil=>cases h
  |cons b xs=>cases xs with
   |nil=>cases h
   |cons c xs=>cases xs with
    |nil=>cases h
    |cons d xs=>cases xs with
     |nil=>exact⟨a,b,c,d,rfl⟩
     |cons e xs=>simp at h
def Yr (n:Nat):Sp:=fun vs H Q _=>∃ (l nm:Addr) (names:List Str) (d:Nat),vs=[.ref l,.ref nm,.int (d:Int)]∧XsAt H l∧H nm=some (.lst (names.map V.str))∧nm≠l∧0<names.length∧names.length≤100∧d<n ∧
 ∀ (e:Ex) (v:V) (H':Hp),Told H' e v→e.ok names→e.dep≤d+1→e.size≤szB d→XsAt H' l→Ext l H H'→Q v H'
theorem YJ (T:Txt w K mg a):∀ n,FnOk P w K mg base CX0 (n+2) a.f_qy a.d_qy ["_law_xs", "_law_names", "_law_deep"] (Yr n)
 |0=>⟨fun vs H Q E h=>by
   obtain⟨l,nm,names,deep,rfl,_⟩:=h
   rfl,fun A outer s H args us vs Q E _ _ _ _ h=>by
   obtain⟨l,nm,names,deep,_,_,_,_,_,_,h1,_⟩:=h
   omega⟩
 |n+1=>by
  have c_qv:Callee P w K mg base "_law_take" a.f_qv a.d_qv ["_law_xs", "_law_size"] 1 wa:=⟨xJ T,T.g_qv,T.F_qv.kp,T.b_qv⟩
  have c_qy:Callee P w K mg base "_law_expr" a.f_qy a.d_qy ["_law_xs", "_law_names", "_law_deep"] (n+2) (Yr n):=⟨YJ T n,T.g_qy,T.F_qy.kp,T.b_qy⟩
  refine T.F_qy.ok sc_qy (fun vs H Q E h=>?_) (fun cdv A outer s H vs Q E hr h=>?_)
  ·obtain⟨l,nm,names,deep,rfl,_⟩:=h
   rfl
  ·obtain⟨l,nm,names,d,rfl,hs,hnm,hne,hn0,hn1,hd,k⟩:=h
   refine zB (w_pss_cons (zi (i:=3) sc_qy.nd rfl (Or.inl rfl) (zj c_qv (hr.mono (by omega)) (w_pa_N (w_pv 0) (zl zd w_pa_nil))))
   (w_pss_cons (w_ps_if (ziw (Zj (w_pt_cmpR yr (w_pv 2) zd (zv _)) (ug (w_pt_cmpR xH (w_pv 3) zd (zv _)))))
    (w_pss_cons (w_ps_if (w_pt_cmpR yr (w_pv 3) zd (zv _))
     (ze (zg (zF (zl w_pe_str (zf (zq zN (zr (yb (zh yf (zj c_qv (hr.mono (by omega)) (w_pa_N (w_pv 0) (zl zd w_pa_nil))) zd) (yb (zh we (zj c_qv (hr.mono (by omega)) (w_pa_N (w_pv 0) (yb (zh yT zd zd) w_pa_nil))) (zh yT zd zd)) w_pa_nil))) (zh xv (zj c_qv (hr.mono (by omega)) (w_pa_N (w_pv 0) (zl zd w_pa_nil))) zd) (fun _ _=>rfl)) w_pa_nil)))))
     zk)
    (ze (zg (zF (zl w_pe_str (zf (zq zN (w_pv 1) (zj c_qv (hr.mono (by omega)) (w_pa_N (w_pv 0) (zx (w_pe_callB zn (by rfl) T.n_len zU (w_pa_N (w_pv 1) w_pa_nil)) w_pa_nil))) (fun _ _=>rfl)) w_pa_nil))))))
    zk)
   (w_pss_cons (w_ps_if (w_pt_cmpR xH (w_pv 3) zd (zv _))
    (w_pss_cons (zi (i:=4) sc_qy.nd rfl (Or.inl rfl) (zq zN (zr (zl w_pe_str (zl w_pe_str (zl w_pe_str (zl w_pe_str w_pa_nil))))) (zh yf (w_pv 3) zd) (fun _ _=>rfl)))
    (ze (zg (zF (w_pa_N (w_pv 4) (zx (zj c_qy (hr.mono (by omega)) (w_pa_N (w_pv 0) (w_pa_N (w_pv 1) (yb (zh yf (w_pv 2) zd) w_pa_nil)))) (zx (zj c_qy (hr.mono (by omega)) (w_pa_N (w_pv 0) (w_pa_N (w_pv 1) (yb (zh yf (w_pv 2) zd) w_pa_nil)))) w_pa_nil)))))))
    zk)
   (w_pss_cons (w_ps_if (w_pt_cmpR yr (w_pv 3) zd (zv _))
    (ze (zg (zF (zl w_pe_str (zx (zj c_qy (hr.mono (by omega)) (w_pa_N (w_pv 0) (w_pa_N (w_pv 1) (yb (zh yf (w_pv 2) zd) w_pa_nil)))) (yb (zh ym zd (zj c_qv (hr.mono (by omega)) (w_pa_N (w_pv 0) (zf (zq zN (zr (zl zd (yb (zh yT zd zd) w_pa_nil))) (zj c_qv (hr.mono (by omega)) (w_pa_N (w_pv 0) (zl zd w_pa_nil))) (fun _ _=>rfl)) w_pa_nil)))) w_pa_nil))))))
    zk)
   (ze (zg (zh VI (zF (zl w_pe_str w_pa_nil)) (zI wO (by rfl) T.n_tuple uL (zf (yd rfl (N':=["_law_k", "_law_xs", "_law_names"]) (t:=1) (caps:=[0,1]) ⟨rfl,rfl,rfl⟩ (yc rfl T.n_range (zl zd w_pa_nil)) (fun _=>(zt (i:=0) (show(["_law_k", "_law_xs", "_law_names"]:List Str).Nodup by decide +kernel) rfl (Or.inl rfl))) (fun _=>zZ) (fun _=>(zj c_qy (hr.mono (by omega)) (w_pa_N (w_pv 1) (w_pa_N (w_pv 2) (zl zd w_pa_nil)))))) w_pa_nil))))))))) ?_
   refine⟨_,rfl,l,8,rfl,hs,by decide,fun kd H1 k0 k1 s1 x1=>?_⟩
   have hnm1:=x1 _ _ hnm hne
   refine⟨_,rfl,rfl,_,rfl,?_⟩
   have zp:=ZD d
   refine ite2 (fun z=>XF ?gA) (fun z=>⟨_,rfl,_,_,rfl,rfl,_,rfl,ite2 (fun z2=>?gB) (fun z2=>?gC)⟩)
   case gC =>
    have hl1:¬ d=0:=fun z0=>z (by subst z0;rfl)
    have hl2:¬ kd<2:=fun z0=>z2 (decide_eq_true z0)
    obtain⟨c,rfl⟩:∃ c,d=c+1:=⟨d-1,by omega⟩
    have zc:=ZD c
    have ed:((c+1:Nat):Int)-1=(c:Int):=by omega
    refine⟨_,rfl,_,_,rfl,rfl,_,rfl,?_⟩
    refine ite2 (fun h6=>?_) (fun h6=>?_)
    ·have h6:kd<6:=of_decide_eq_true h6
     refine⟨by show 4≤sizeLine;decide,fun p1 hp1=>?_⟩
     obtain⟨wd,hw,aw⟩:=zfJ (d:=kd-2) (by omega) (by omega)
     refine⟨_,rfl,_,_,rfl,rfl,p1,_,_,_,rfl,rfl,SqL.of upd_same,aw,?_⟩
     have X2:Ext l H _:=x1.trans (Ext.new (l:=l) (o:=HO.lst [V.str "add",V.str "sub",V.str "min",V.str "max"]) hp1)
     refine⟨_,rfl,_,rfl,_,rfl,_,rfl,_,_,rfl,rfl,l,nm,names,c,(by rw[← ed];rfl),s1.new hp1,X2 _ _ hnm hne,hne,hn0,hn1,by omega,fun e1 v1 H3 t1 o1 de1 z1 s3 x3=>?_⟩
     refine⟨_,rfl,_,rfl,_,rfl,_,_,rfl,rfl,l,nm,names,c,(by rw[← ed];rfl),s3,(X2.trans x3) _ _ hnm hne,hne,hn0,hn1,by omega,fun e2 v2 H4 t2 o2 de2 z2 s4 x4=>?_⟩
     refine⟨by show 3≤sizeLine;decide,fun p hp=>?_⟩
     have y5:=Same.new (o:=HO.tup [V.str wd,v1,v2]) hp
     exact k (.two wd e1 e2) _ _ ⟨p,v1,v2,rfl,upd_same,(t1.extX s3 x4).same y5,t2.same y5⟩ ⟨hw,o1,o2⟩ (by show max e1.dep e2.dep+1≤c+1+1;omega) (by show 1+e1.size+e2.size≤max 5 (1+2*szB c);omega) (s4.new hp) (((X2.trans x3).trans x4).trans (Ext.new hp))
    refine⟨_,rfl,rfl,_,rfl,?_⟩
    refine ite2 (fun _=>?_) (fun h8=>?_)
    ·refine⟨_,rfl,_,rfl,_,rfl,_,_,rfl,rfl,l,nm,names,c,(by rw[← ed];rfl),s1,hnm1,hne,hn0,hn1,by omega,fun e1 v1 H2 t1 o1 de1 z1 s2 x2=>?_⟩
     refine⟨_,rfl,_,_,rfl,rfl,⟨by decide,by decide,by decide⟩,(by show 2≤sizeLine;decide),fun p1 hp1=>?_⟩
     have n1:=s2.ne hp1
     refine⟨_,rfl,l,2,rfl,s2.new hp1,by decide,fun d1 H3 g1 g2 s3 x3=>?_⟩
     obtain⟨v2,a2,b2⟩:=zfK (x:=9) (y:=(10:Int) ^ Int.toNat 6) g1 g2
     have p6:(10:Int) ^ Int.toNat 6=1000000:=by decide
     rw[p6] at b2
     refine⟨p1,_,d1,_,rfl,rfl,SqL.of (x3 _ _ upd_same n1),a2,l,v2,rfl,s3,by omega,fun d2 H4 g3 g4 s4 x4=>?_⟩
     refine⟨_,_,rfl,rfl,(by show 3≤sizeLine;decide),fun p hp=>?_⟩
     exact k (.mod e1 (1+d2)) _ _ ⟨p,v1,rfl,upd_same,(((t1.same (Same.new hp1)).extX (s2.new hp1) x3).extX s3 x4).same (Same.new hp)⟩ ⟨⟨by omega,by omega⟩,o1⟩ (by show e1.dep+1≤c+1+1;omega) (by show 2+e1.size≤max 5 (1+2*szB c);omega) (s4.new hp) (((x1.trans x2).trans ((Ext.new hp1).trans x3)).trans (x4.trans (Ext.new hp)))
    refine⟨by show 1≤sizeLine;decide,fun p1 hp1=>?_⟩
    have hp1l:=s1.ne hp1
    have s1':=s1.new (o:=HO.tup [V.str "less"]) hp1
    have x1':Ext l H1 _:=Ext.new (l:=l) (o:=HO.tup [V.str "less"]) hp1
    have hT1:=upd_same (H:=H1) (a:=p1) (o:=HO.tup [V.str "less"])
    generalize L2.upd H1 p1 (HO.tup [V.str "less"])=H1' at *
    refine⟨4,rfl,by decide,by decide,fun D hD _=>?_⟩
    have hDl:=s1'.ne hD
    refine Zg (lo:=0) (n:=4) (fun i zs τ H'=>∃ o,τ=[o,some (.ref l),some (.ref nm)]∧zs.length=i∧H' D=some (.lst zs)∧XsAt H' l∧Ext l H1' H'∧∀ v∈zs,∃ e,Told H' e v∧e.ok names∧e.dep≤1∧e.size≤1) ?_ ?_ ?_
    ·exact⟨none,rfl,rfl,upd_same,s1'.new hD,Ext.new hD,fun v hv=>nomatch hv⟩
    ·rintro i zs τ H2 hi ⟨o,rfl,hz,hD2,s2,x2,hv⟩
     refine gn_if ?_
     refine⟨_,rfl,_,rfl,l,nm,names,0,rfl,s2,x2 _ _ (x1' _ _ hnm1 hne) hne,hne,hn0,hn1,by omega,fun e v H6 t6 o6 d6 z6 s6 x6=>⟨x6 _ _ hD2 hDl,zm (by omega),some (V.int (0+i)),rfl,by simp[hz],upd_same,s6.upd hDl,?_,fun v' hv'=>?_⟩⟩
     ·intro b o e nb
      rw[upd_ne (ne_of_none e hD)]
      exact(x2.trans x6) b o e nb
     ·have hD6:=x6 _ _ hD2 hDl
      rcases List.mem_append.mp hv' with h | h
      ·obtain⟨e',t',o',d',z'⟩:=hv v' h
       exact⟨e',(t'.extX s2 x6).updL hD6,o',d',z'⟩
      ·rw[List.mem_singleton.mp h]
       exact⟨e,t6.updL hD6,o6,d6,z6⟩
    ·rintro zs τ H2 ⟨o,_,hz,hD2,s2,x2,hv⟩
     obtain⟨z1,z2,z3,z4,rfl⟩:=znD hz
     obtain⟨e1,t1,o1,d1,y1⟩:=hv z1 (by simp)
     obtain⟨e2,t2,o2,d2,y2⟩:=hv z2 (by simp)
     obtain⟨e3,t3,o3,d3,y3⟩:=hv z3 (by simp)
     obtain⟨e4,t4,o4,d4,y4⟩:=hv z4 (by simp)
     refine⟨D,_,rfl,.inl ⟨SqL.of hD2,fun p2 hp2=>?_⟩⟩
     have y:=Same.new (o:=HO.tup [z1,z2,z3,z4]) hp2
     refine⟨p1,p2,_,_,rfl,rfl,SqT.of (y _ _ (x2 _ _ hT1 hp1l)),SqT.of upd_same,(fun z=>by cases z),(by show 1+4≤sizeLine;decide),(fun z=>by cases z),fun _ p hp=>?_⟩
     have y':=y.trans (Same.new (o:=HO.tup [V.str "less",z1,z2,z3,z4]) hp)
     exact k (.less e1 e2 e3 e4) _ _ ⟨p,z1,z2,z3,z4,rfl,upd_same,t1.same y',t2.same y',t3.same y',t4.same y'⟩ ⟨o1,o2,o3,o4⟩ (by show max (max e1.dep e2.dep) (max e3.dep e4.dep)+1≤c+1+1;omega) (by show 1+e1.size+e2.size+e3.size+e4.size≤max 5 (1+2*szB c);omega) (s2.same y') ((x1.trans x1').trans (x2.trans (Ext.same y')))
   all_goals
    refine⟨_,rfl,rfl,_,rfl,?_⟩
    refine ite2 (fun _=>?_) (fun _=>?_)
    ·refine⟨_,rfl,l,9,rfl,s1,by decide,fun d1 H2 a1 b1 s2 x2=>?_⟩
     refine⟨_,_,rfl,rfl,_,rfl,_,_,rfl,rfl,⟨by decide,by decide,by decide⟩,l,_,rfl,s2,by decide,fun d2 H3 a2 b2 s3 x3=>?_⟩
     refine⟨_,_,rfl,rfl,⟨by decide,by decide,by decide⟩,_,_,rfl,rfl,.inr ⟨by decide,by decide⟩,(by show 2≤sizeLine;decide),fun p1 hp1=>?_⟩
     have n1:=s3.ne hp1
     refine⟨_,rfl,l,4,rfl,s3.new hp1,by decide,fun d3 H4 a3 b3 s4 x4=>?_⟩
     have q3:0≤d3/3:=Int.ediv_nonneg a3 (by decide)
     have q4:d3/3<2:=by omega
     obtain⟨v1,e1,f1⟩:=zfK (x:=d1-4) (y:=d2*10 ^ Int.toNat 13) q3 q4
     refine⟨_,_,rfl,rfl,⟨by show(0:Int)<3;decide,by show(3:Int).natAbs.log2<9000;decide⟩,p1,_,_,_,rfl,rfl,SqL.of (x4 _ _ upd_same n1),e1,(by show 2≤sizeLine;decide),fun p hp=>?_⟩
     refine k (.num v1) _ _ ⟨p,rfl,upd_same⟩ ?_ (Nat.le_add_left _ _) zp (s4.new hp) (((x1.trans x2).trans (x3.trans (Ext.new hp1))).trans (x4.trans (Ext.new hp)))
     have p13:(10:Int) ^ Int.toNat 13=10000000000000:=by decide
     have p6:(10:Int) ^ Int.toNat 6=1000000:=by decide
     have b2:d2<(10:Int) ^ Int.toNat 6:=b2
     rw[p6] at b2
     rw[p13] at f1
     show -100000000000000000000<v1∧v1<100000000000000000000
     omega
    ·refine⟨_,rfl,_,rfl,_,rfl,nm,_,rfl,.inl (SqL.of hnm1),l,_,rfl,s1,(by rw[List.length_map];omega),fun d2 H2 g1 g2 s2 x2=>?_⟩
     obtain⟨x,hx,ea⟩:=zjT g1 g2
     refine⟨nm,_,d2,_,rfl,rfl,SqL.of (x2 _ _ hnm1 hne),ea,(by show 2≤sizeLine;decide),fun p hp=>?_⟩
     exact k (.name x) _ _ ⟨p,rfl,upd_same⟩ hx (Nat.le_add_left _ _) zp (s2.new hp) ((x1.trans x2).trans (Ext.new hp))
noncomputable def heardNs:List Str:=["worth", "me", "round", "lines", "sum", "least", "most", "count", "sum", "most"]
def zuA:Sp:=fun vs H Q _=>vs=[]∧∀ p,H p=none→Q (.ref p) (L2.upd H p (.lst (heardNs.map V.str)))
theorem zj5 (T:Txt w K mg a):FnOk P w K mg base CX0 1 a.f_qA a.d_qA [] zuA:=by
 refine T.F_qA.ok zjO (fun vs H Q E h=>?_) (fun cdv A outer s H vs Q E hr h=>?_)
 ·obtain⟨rfl,_⟩:=h
  rfl
 ·obtain⟨rfl,k⟩:=h
  refine zB (ze (zg (zr (zl w_pe_str (zl w_pe_str (zl w_pe_str (zl w_pe_str (zl w_pe_str (zl w_pe_str (zl w_pe_str (zl w_pe_str (zl w_pe_str (zl w_pe_str w_pa_nil))))))))))))) ?_
  exact⟨by show 10≤sizeLine;decide,fun p hp=>k p hp⟩
def zhj (H:Hp) (e1 e2 e3 e4:Ex) (v1 v2 v3 v4:V):Prop:=(Told H e1 v1∧e1.ok xc∧e1.dep≤4∧e1.size≤15)∧(Told H e2 v2∧e2.ok yE∧e2.dep≤4∧e2.size≤15)∧(Told H e3 v3∧e3.ok yE∧e3.dep≤4∧e3.size≤15)∧(Told H e4 v4∧e4.ok xf∧e4.dep≤4∧e4.size≤15)
def zuu:Sp:=fun vs H Q _=>∃ c:Int,vs=[.int c]∧∀ (q:Addr) (v1 v2 v3 v4:V) (e1 e2 e3 e4:Ex) (H':Hp),H' q=some (.lst [v1,v2,v3,v4])→zhj H' e1 e2 e3 e4 v1 v2 v3 v4→Same H H'→Q (.ref q) H'
theorem zj2 (T:Txt w K mg a):FnOk P w K mg base CX0 6 a.f_qz a.d_qz ["_law_cell"] zuu:=by
 have c_qv:Callee P w K mg base "_law_take" a.f_qv a.d_qv ["_law_xs", "_law_size"] 1 wa:=⟨xJ T,T.g_qv,T.F_qv.kp,T.b_qv⟩
 have c_qu:Callee P w K mg base "_law_draws" a.f_qu a.d_qu ["_law_cell", "_law_many"] 1 vM:=⟨uA T,T.g_qu,T.F_qu.kp,T.b_qu⟩
 have c_qA:Callee P w K mg base "_law_heard_names" a.f_qA a.d_qA [] 1 zuA:=⟨zj5 T,T.g_qA,T.F_qA.kp,T.b_qA⟩
 have c_qy:Callee P w K mg base "_law_expr" a.f_qy a.d_qy ["_law_xs", "_law_names", "_law_deep"] 5 (Yr 3):=⟨YJ T 3,T.g_qy,T.F_qy.kp,T.b_qy⟩
 refine T.F_qz.ok sc_qz (fun vs H Q E h=>?_) (fun cdv A outer s H vs Q E hr h=>?_)
 ·obtain⟨c,rfl,_⟩:=h
  rfl
 ·obtain⟨c,rfl,k⟩:=h
  refine zB (w_pss_cons (zi (i:=1) sc_qz.nd rfl (Or.inl rfl) (zj c_qu (hr.mono (by omega)) (w_pa_N (w_pv 0) (zl zd w_pa_nil))))
   (w_pss_cons (zi (i:=2) sc_qz.nd rfl (Or.inl rfl) (zj c_qy (hr.mono (by omega)) (w_pa_N (w_pv 1) (zf (zr (zl w_pe_str (zl w_pe_str (zl w_pe_str w_pa_nil)))) (zl zd w_pa_nil)))))
   (w_pss_cons (zi (i:=3) sc_qz.nd rfl (Or.inl rfl) (zj c_qy (hr.mono (by omega)) (w_pa_N (w_pv 1) (zf (zr (zl w_pe_str (zl w_pe_str (zl w_pe_str (zl w_pe_str (zl w_pe_str (zl w_pe_str w_pa_nil))))))) (zl zd w_pa_nil)))))
   (w_pss_cons (zi (i:=4) sc_qz.nd rfl (Or.inl rfl) (zj c_qy (hr.mono (by omega)) (w_pa_N (w_pv 1) (zf (zr (zl w_pe_str (zl w_pe_str (zl w_pe_str (zl w_pe_str (zl w_pe_str w_pa_nil)))))) (zl zd w_pa_nil)))))
   (xy (w_ps_if (w_pt_cmpR yr (zj c_qv (hr.mono (by omega)) (w_pa_N (w_pv 1) (zl zd w_pa_nil))) zd (zv _))
    (ze (zi (i:=4) sc_qz.nd rfl (Or.inl rfl) (zF (zl w_pe_str (zl zd w_pa_nil)))))
    zk)
   (ze (zg (zr (w_pa_N (w_pv 2) (w_pa_N (w_pv 3) (w_pa_N (w_pv 4) (zx (zj c_qy (hr.mono (by omega)) (w_pa_N (w_pv 1) (zx (uN c_qA.ok (hr.mono (by omega)) (by rfl) c_qA.g c_qA.kp c_qA.b .nil YE) (zl zd w_pa_nil)))) w_pa_nil)))))))))))) ?_
  refine⟨_,rfl,c,150,rfl,by decide,fun l H1 hl0 s1 y1=>?_⟩
  refine⟨_,rfl,(by show 3≤sizeLine;decide),fun n1 h1=>?_⟩
  refine⟨l,n1,["me", "lines", "me"],2,rfl,s1.new h1,upd_same,s1.ne h1,by decide,by decide,by decide,fun e1 v1 H2 t1 o1 d1 z1 s2 x2=>?_⟩
  refine⟨_,rfl,(by show 6≤sizeLine;decide),fun n2 h2=>?_⟩
  refine⟨l,n2,["worth", "me", "round", "lines", "to", "worth"],2,rfl,s2.new h2,upd_same,s2.ne h2,by decide,by decide,by decide,fun e2 v2 H3 t2 o2 d2 z2 s3 x3=>?_⟩
  refine⟨_,rfl,(by show 5≤sizeLine;decide),fun n3 h3=>?_⟩
  refine⟨l,n3,["worth", "me", "round", "lines", "to"],2,rfl,s3.new h3,upd_same,s3.ne h3,by decide,by decide,by decide,fun e3 v3 H4 t3 o3 d3 z3 s4 x4=>?_⟩
  have X4:Ext l H1 H4:=((Ext.new h1).trans x2).trans (((Ext.new h2).trans x3).trans ((Ext.new h3).trans x4))
  have T1:=((t1.same (Same.new (o:=HO.lst [V.str "worth",V.str "me",V.str "round",V.str "lines",V.str "to",V.str "worth"]) h2)).extX (s2.new h2) x3).same (Same.new (o:=HO.lst [V.str "worth",V.str "me",V.str "round",V.str "lines",V.str "to"]) h3) |>.extX (s3.new h3) x4
  have T2:=(t2.same (Same.new (o:=HO.lst [V.str "worth",V.str "me",V.str "round",V.str "lines",V.str "to"]) h3)).extX (s3.new h3) x4
  refine⟨fun σ' H'=>∃ (e3:Ex) (v3:V),σ'=[some (.int c),some (.ref l),some v1,some v2,some v3]∧XsAt H' l∧Ext l H1 H'∧Told H' e1 v1∧Told H' e2 v2∧Told H' e3 v3∧e3.ok yE∧e3.dep≤4∧e3.size≤15,?_,?_⟩
  ·refine⟨_,rfl,l,3,rfl,s4,by decide,fun dd H5 g1 g2 s5 x5=>?_⟩
   refine⟨rfl,_,rfl,?_⟩
   refine ite2 (fun _=>?_) (fun _=>?_)
   ·refine⟨by show 2≤sizeLine;decide,fun p hp=>?_⟩
    have y:=Same.new (o:=HO.tup [V.str "num",V.int 1]) hp
    exact⟨.num 1,_,rfl,s5.new hp,(X4.trans x5).trans (Ext.new hp),(T1.extX s4 x5).same y,(T2.extX s4 x5).same y,⟨p,rfl,upd_same⟩,(by show -100000000000000000000<(1:Int)∧(1:Int)<100000000000000000000;decide),(by show 1≤4;decide),(by show 1≤15;decide)⟩
   ·exact⟨e3,v3,rfl,s5,X4.trans x5,T1.extX s4 x5,T2.extX s4 x5,t3.extX s4 x5,o3,by omega,Nat.le_trans z3 (by decide)⟩
  ·rintro σ' H5 ⟨e3,v3,rfl,s5,x5,T1,T2,T3,o3,d3,z3⟩
   refine⟨_,rfl,_,rfl,_,rfl,_,rfl,rfl,fun n4 h4=>?_⟩
   have y4:=Same.new (o:=HO.lst (heardNs.map V.str)) h4
   refine⟨l,n4,heardNs,2,rfl,s5.new h4,upd_same,s5.ne h4,by decide,by decide,by decide,fun e4 v4 H6 t4 o4 d4 z4 s6 x6=>?_⟩
   refine⟨by show 4≤sizeLine;decide,fun q hq=>?_⟩
   have y6:=Same.new (o:=HO.lst [v1,v2,v3,v4]) hq
   have sub1:∀ x∈(["me", "lines", "me"]:List Str),x∈xc:=by decide
   have sub2:∀ x∈(["worth", "me", "round", "lines", "to", "worth"]:List Str),x∈yE:=by decide
   have sub4:∀ x∈heardNs,x∈xf:=by decide
   refine k q v1 v2 v3 v4 e1 e2 e3 e4 _ upd_same ⟨⟨((T1.same y4).extX (s5.new h4) x6).same y6,Ex.ok_sub sub1 e1 o1,by omega,Nat.le_trans z1 (by decide)⟩,⟨((T2.same y4).extX (s5.new h4) x6).same y6,Ex.ok_sub sub2 e2 o2,by omega,Nat.le_trans z2 (by decide)⟩,⟨((T3.same y4).extX (s5.new h4) x6).same y6,o3,d3,z3⟩,⟨t4.same y6,Ex.ok_sub sub4 e4 o4,by omega,Nat.le_trans z4 (by decide)⟩⟩ ?_
   have X:=(x5.trans (Ext.same y4)).trans (x6.trans (Ext.same y6))
   exact fun b o e=>X b o (y1 b o e) fun z=>by rw[z,hl0] at e;cases e
def zus (a:Ad):Sp:=fun vs H Q _=>∃ (q:Addr) (v1 v2 v3 v4:V) (e1 e2 e3 e4:Ex),vs=[.ref q]∧H q=some (.lst [v1,v2,v3,v4])∧zhj H e1 e2 e3 e4 v1 v2 v3 v4∧∀ r H',ProgAt a H' e1 e2 e3 e4 r→Same H H'→Q r H'
theorem zj0 (T:Txt w K mg a):FnOk P w K mg base CX0 24 a.f_qC a.d_qC ["_law_program_here"] (zus a):=by
 have c_qB:Callee P w K mg base "_law_made" a.f_qB a.d_qB ["_law_told"] 6 (Yo a 4):=⟨YI T 4,T.g_qB,T.F_qB.kp,T.b_qB⟩
 have m_Program:Maker P w K mg base "Program" a.c_Program a.f_qU a.d_qU ["self", "start", "send", "when", "renew"] 22 (WS a):=⟨VJ T,T.g_Program,T.mk_Program,T.b_qU⟩
 refine T.F_qC.ok zjM (fun vs H Q E h=>?_) (fun cdv A outer s H vs Q E hr h=>?_)
 ·obtain⟨q,v1,v2,v3,v4,e1,e2,e3,e4,rfl,_⟩:=h
  rfl
 ·obtain⟨q,v1,v2,v3,v4,e1,e2,e3,e4,rfl,hq,⟨⟨t1,o1,d1,z1⟩,⟨t2,o2,d2,z2⟩,⟨t3,o3,d3,z3⟩,⟨t4,o4,d4,z4⟩⟩,k⟩:=h
  refine zB (ze (zg (xm m_Program (hr.mono (by omega)) (zx (zj c_qB (hr.mono (by omega)) (zf (zq zN (w_pv 0) zd (fun _ _=>rfl)) w_pa_nil)) (zx (zj c_qB (hr.mono (by omega)) (zf (zq zN (w_pv 0) zd (fun _ _=>rfl)) w_pa_nil)) (zx (zj c_qB (hr.mono (by omega)) (zf (zq zN (w_pv 0) zd (fun _ _=>rfl)) w_pa_nil)) (zx (zj c_qB (hr.mono (by omega)) (zf (zq zN (w_pv 0) zd (fun _ _=>rfl)) w_pa_nil)) w_pa_nil))))))) ?_
  refine⟨_,rfl,q,_,0,_,rfl,rfl,SqL.of hq,rfl,e1,_,_,rfl,t1,d1,o1,fun r1 H1 m1 s1=>?_⟩
  refine⟨_,rfl,q,_,1,_,rfl,rfl,SqL.of (s1 _ _ hq),rfl,e2,_,_,rfl,t2.same s1,d2,o2,fun r2 H2 m2 s2=>?_⟩
  have s12:=s1.trans s2
  refine⟨_,rfl,q,_,2,_,rfl,rfl,SqL.of (s12 _ _ hq),rfl,e3,_,_,rfl,t3.same s12,d3,o3,fun r3 H3 m3 s3=>?_⟩
  have s123:=s12.trans s3
  refine⟨_,rfl,q,_,3,_,rfl,rfl,SqL.of (s123 _ _ hq),rfl,e4,_,_,rfl,t4.same s123,d4,o4,fun r4 H4 m4 s4=>?_⟩
  refine fun x dx nx ndx nex=>?_
  have sN:Same H4 (L2.upd (L2.upd H4 dx (.own x)) x (.ins a.c_Program dx [])):=fun b o e=>by
   rw[upd_ne (ne_of_none e nx),upd_ne (ne_of_none e ndx)]
   exact e
  have m1:=m1.same ((s2.trans s3).trans s4)
  have m2:=m2.same (s3.trans s4)
  have m3:=m3.same s4
  refine⟨x,dx,r1,r2,r3,r4,e1,e2,e3,e4,rfl,upd_same,⟨⟨m1.same sN,o1,by omega⟩,⟨m2.same sN,o2,by omega⟩,⟨m3.same sN,o3,by omega⟩,⟨m4.same sN,o4,by omega⟩,by omega⟩,fun H5 s5=>⟨rfl,?_⟩⟩
  have s45:Same H4 (L2.upd H5 x (.ins a.c_Program dx [("start",r1),("send",r2),("when",r3),("renew",r4)])):=Same.updF (sN.trans s5) nx
  exact k _ _ ⟨x,dx,r1,r2,r3,r4,rfl,upd_same,⟨m1.same s45,o1,by omega⟩,⟨m2.same s45,o2,by omega⟩,⟨m3.same s45,o3,by omega⟩,⟨m4.same s45,o4,by omega⟩,by omega⟩ ((s123.trans s4).trans s45)
def zuw:Sp:=fun vs H Q _=>∃ (l:Addr),vs=[.ref l,.int 8]∧XsAt H l ∧
 ∀ (h:Addr) (hs:List Int) (H':Hp),H h=none→H' h=some (.lst (hs.map V.int))→Hs hs→XsAt H' l→Ext l H H'→Q (.ref h) H'
theorem zj4 (T:Txt w K mg a):FnOk P w K mg base CX0 2 a.f_qw a.d_qw ["_law_xs", "_law_most"] zuw:=by
 have c_qv:Callee P w K mg base "_law_take" a.f_qv a.d_qv ["_law_xs", "_law_size"] 1 wa:=⟨xJ T,T.g_qv,T.F_qv.kp,T.b_qv⟩
 refine T.F_qw.ok sc_qw (fun vs H Q E h=>?_) (fun cdv A outer s H vs Q E hr h=>?_)
 ·obtain⟨l,rfl,_⟩:=h
  rfl
 ·obtain⟨l,rfl,hs,k⟩:=h
  refine zB (w_pss_cons (zi (i:=2) sc_qw.nd rfl (Or.inl rfl) (zj c_qv (hr.mono (by omega)) (w_pa_N (w_pv 0) (zl zd w_pa_nil))))
   (w_pss_cons (zi (i:=3) sc_qw.nd rfl (Or.inr rfl) (zr (w_pa_N (w_pv 2) w_pa_nil)))
   (w_pss_cons (zO PassesOwn.never rfl (yc rfl T.n_range (zx (zj c_qv (hr.mono (by omega)) (w_pa_N (w_pv 0) (w_pa_N (w_pv 1) w_pa_nil))) w_pa_nil)) (zt (i:=4) sc_qw.nd rfl (Or.inl rfl))
    (w_pss_cons (zi (i:=2) sc_qw.nd rfl (Or.inl rfl) (zh ym (zh ym (w_pv 2) zd) (zj c_qv (hr.mono (by omega)) (w_pa_N (w_pv 0) (zl zd w_pa_nil)))))
    (ze (zy (zV PySem.F.plainAttrs_list PySem.F.slot_list_append PySem.F.type_list_append zC (w_pv 3) (w_pa_N (w_pv 2) w_pa_nil))))))
   (xy (w_ps_if (w_pt_cmpR yr (zj c_qv (hr.mono (by omega)) (w_pa_N (w_pv 0) (zl zd w_pa_nil))) zd (zv _))
    (ze (zi (i:=3) sc_qw.nd rfl (Or.inr rfl) (yd rfl (N':=["_law_one", "_law_found"]) (t:=1) (caps:=[3]) ⟨rfl,rfl,rfl⟩ (zE (w_pv 3)) (fun _=>(zt (i:=0) (show(["_law_one", "_law_found"]:List Str).Nodup by decide +kernel) rfl (Or.inl rfl))) (fun _=>zZ) (fun _=>(zh yf (zh ym (w_pv 0) zd) (zq zN (w_pv 1) (wp wX zd) (fun _ _=>rfl)))))))
    zk)
   (ze (zg (w_pv 3))))))) ?_
  refine⟨_,rfl,l,5,rfl,hs,by decide,fun d0 H1 g1 g2 s1 x1=>?_⟩
  refine⟨_,rfl,(by show 1≤sizeLine;decide),fun p hp=>?_⟩
  have npl:=s1.ne hp
  refine⟨_,rfl,_,rfl,l,8,rfl,s1.new hp,by decide,fun m H2 g3 g4 s2 x2=>?_⟩
  refine⟨m,rfl,by omega,by omega,?_⟩
  have hp2:H2 p=some (.lst [V.int d0]):=x2 _ _ upd_same npl
  have X2:Ext l H1 H2:=(Ext.new hp).trans x2
  refine for_range (lo:=0) (fun i σ H'=>∃ (ns:List Int) (x:Int) (o4:Option V),σ=[some (.ref l),some (.int 8),some (.int x),some (.ref p),o4]∧H' p=some (.lst ((ns++[x]).map V.int))∧ns.length=i∧(ns++[x]).Pairwise (· < ·)∧(∀ y∈ns++[x],0≤y)∧(∀ y∈ns++[x],y≤4+8*(i:Int))∧XsAt H' l∧Ext l H1 H') ?_ ?_ ?_
  ·refine⟨[],d0,none,rfl,hp2,rfl,by simp,?_,?_,s2,X2⟩
   ·intro y hy
    rw[List.mem_singleton.mp hy];exact g1
   ·intro y hy
    rw[List.mem_singleton.mp hy];omega
  ·rintro i σ H3 hi ⟨ns,x,o4,rfl,hp3,hln,up,lo,hi',s3,x3⟩
   refine⟨_,rfl,_,_,rfl,rfl,_,rfl,l,8,rfl,s3,by decide,fun d H4 a1 a2 s4 x4=>?_⟩
   have hp4:=x4 _ _ hp3 npl
   refine⟨_,_,rfl,rfl,_,rfl,.inl ⟨rfl,_,SqL.of hp4⟩,_,rfl,p,_,_,rfl,rfl,hp4,(by rw[List.length_map,List.length_append];exact zm (by simp;omega)),?_⟩
   refine⟨ns++[x],x+1+d,_,rfl,?_,by simp[hln],?_,?_,?_,s4.upd npl,?_⟩
   ·rw[upd_same,List.map_append (l₂:=[x+1+d])]
    rfl
   ·rw[List.pairwise_append]
    refine⟨up,by simp,fun y hy z hz=>?_⟩
    rw[List.mem_singleton.mp hz]
    rcases List.mem_append.mp hy with h | h
    ·have:=(List.pairwise_append.mp up).2.2 y h x (by simp)
     omega
    ·rw[List.mem_singleton.mp h];omega
   ·intro y hy
    rcases List.mem_append.mp hy with h | h
    ·exact lo y h
    ·rw[List.mem_singleton.mp h]
     have:=lo x (by simp)
     omega
   ·intro y hy
    rcases List.mem_append.mp hy with h | h
    ·have:=hi' y h
     omega
    ·rw[List.mem_singleton.mp h]
     have:=hi' x (by simp)
     omega
   ·intro b o e nb
    rw[upd_ne (ne_of_none e hp)]
    exact(x3.trans x4) b o e nb
  ·rintro σ H3 ⟨ns,x,o4,rfl,hp3,hln,up,lo,hi',s3,x3⟩
   have hp0:H p=none:=by
    cases e:H p with
    |none=>rfl
    |some o=>have:=x1 _ _ e npl;rw[hp] at this;cases this
   have X3:=x1.trans x3
   refine⟨fun σ' H'=>∃ (h:Addr) (hs':List Int),σ'=[some (.ref l),some (.int 8),some (.int x),some (.ref h),o4]∧H h=none∧H' h=some (.lst (hs'.map V.int))∧Hs hs'∧XsAt H' l∧Ext l H H',?_,?_⟩
   ·refine⟨_,rfl,l,4,rfl,s3,by decide,fun d H4 a1 a2 s4 x4=>⟨rfl,_,rfl,?_⟩⟩
    have hp4:=x4 _ _ hp3 npl
    have X4:=X3.trans x4
    have hl:(ns++[x]).length=m.toNat+1:=by rw[List.length_append,hln];rfl
    refine ite2 (fun _=>?_) (fun _=>?_)
    ·refine⟨_,rfl,p,rfl,⟨_,SqL.of hp4⟩,fun D hD _=>?_⟩
     have nDl:=s4.ne hD
     have hD0:H D=none:=by
      cases e:H D with
      |none=>rfl
      |some o=>have:=X4 _ _ e nDl;rw[hD] at this;cases this
     refine yo (K:=K) (a:=p) (xs:=(ns++[x]).map V.int) (fun j zs τ H'=>∃ o,τ=[o,some (.ref p)]∧zs=(((ns++[x]).take j).map fun y=>y+99-x).map V.int∧H' D=some (.lst zs)∧Same H4 H') ?_ ?_ ?_ ?_
     ·exact⟨none,rfl,by simp,upd_same,Same.new hD⟩
     ·rintro j zs τ H' ⟨o,_,_,_,sm⟩
      exact SqL.of (sm _ _ hp4)
     ·rintro j v zs τ H' hj ⟨o,rfl,rfl,hD',sm⟩
      rw[List.getElem?_map] at hj
      obtain⟨y,hy,rfl⟩:=Option.map_eq_some_iff.mp hj
      have hjl:=(List.getElem?_eq_some_iff.mp hy).1
      refine gn_if ?_
      refine⟨_,rfl,_,_,rfl,rfl,_,rfl,_,rfl,p,_,_,V.int x,rfl,rfl,SqL.of (sm _ _ hp4),(by rw[List.map_append];exact ud),_,_,rfl,rfl,hD',by simp;exact zm (by omega),some (.int y),rfl,?_,upd_same,Same.updF sm hD⟩
      rw[List.take_add_one,hy]
      simp
     ·rintro zs τ H5 ⟨o,rfl,rfl,hD5,sm⟩
      rw[List.length_map,List.take_length] at hD5
      refine⟨D,_,rfl,hD0,hD5,⟨?_,?_,?_,?_,?_⟩,s4.same sm,X4.trans (Ext.same sm)⟩
      ·rw[List.length_map,hl];omega
      ·rw[List.length_map,hl];omega
      ·rw[List.pairwise_map]
       exact up.imp fun h=>by omega
      ·intro y hy
       obtain⟨z,hz,rfl⟩:=List.mem_map.mp hy
       have h1:=lo z hz
       have h2:=hi' x (by simp)
       omega
      ·intro y hy
       obtain⟨z,hz,rfl⟩:=List.mem_map.mp hy
       rcases List.mem_append.mp hz with h | h
       ·have:=(List.pairwise_append.mp up).2.2 z h x (by simp)
        omega
       ·rw[List.mem_singleton.mp h];omega
    ·refine⟨p,_,rfl,hp0,hp4,⟨?_,?_,up,lo,fun y hy=>?_⟩,s4,X4⟩
     ·rw[hl];omega
     ·rw[hl];omega
     ·have:=hi' y hy
      omega
   ·rintro σ' H4 ⟨h,hs',rfl,hh0,hh,wh,s4,x4⟩
    exact⟨_,rfl,k h hs' H4 hh0 hh wh s4 x4⟩
noncomputable def tri:Nat→Nat
 |0=>0
 |n+1=>tri n+n
theorem Vd:∀ n,n≤12→tri n≤66:=by decide
theorem zah {n j:Nat}(h:j<n):tri j+j≤tri n:=by
 induction n with
 |zero=>omega
 |succ n ih =>
  show tri j+j≤tri n+n
  by_cases c:j=n
  ·subst c;exact Nat.le_refl _
  ·have:=ih (by omega)
   omega
theorem zjU {b1 b2 b3 b4 b5 b6:Bool}{d:Int}(h0:0≤d) (h1:d<6):∃ z,atI [V.bl b1,V.bl b2,V.bl b3,V.bl b4,V.bl b5,V.bl b6] d=some (.bl z):=by
 rcases(by omega:d=0∨d=1∨d=2∨d=3∨d=4∨d=5) with rfl | rfl | rfl | rfl | rfl | rfl
 all_goals exact⟨_,rfl⟩
theorem LnAt.updL {H:Hp}{rs zs:List V}{ls:List (Int×Int)}{p:Addr}{o:HO}(hp:H p=some (.lst zs)) (h:LnAt H rs ls):LnAt (L2.upd H p o) rs ls:=⟨h.1,fun n r pr e1 e2=>by
 obtain⟨q,e,t⟩:=h.2 n r pr e1 e2
 exact⟨q,e,by rw[upd_ne (ne_of t hp (by intro z;cases z))];exact t⟩⟩
theorem LnAt.cut {H:Hp}{rs:List V}{ls:List (Int×Int)}{n:Nat}(h:LnAt H rs ls):LnAt H (rs.drop n++rs.take n) (ls.drop n++ls.take n):=by
 refine⟨by simp[h.1],fun i r p e1 e2=>?_⟩
 by_cases c:i<(ls.drop n).length
 ·rw[List.getElem?_append_left (by simp[h.1];simpa using c)] at e1
  rw[List.getElem?_append_left c] at e2
  rw[List.getElem?_drop] at e1 e2
  exact h.2 _ r p e1 e2
 ·rw[List.getElem?_append_right (by simp[h.1];simpa using c)] at e1
  rw[List.getElem?_append_right (by omega)] at e2
  have e:(rs.drop n).length=(ls.drop n).length:=by simp[h.1]
  rw[e,List.getElem?_take] at e1
  rw[List.getElem?_take] at e2
  split at e1
  ·rw[if_pos ‹_›] at e2
   exact h.2 _ r p e1 e2
  ·cases e1
theorem znJ {rs:List V}{n:Nat}(h:n≤rs.length):Zf rs (some (n:Int)) none=rs.drop n:=by
 have h1:HT.sIx rs.length 0 (some (n:Int))=n:=by
  unfold HT.sIx
  show(if (n:Int)<0 then _ else _)=n
  rw[if_neg (by omega)]
  simp
  omega
 have h2:HT.sIx rs.length rs.length none=rs.length:=rfl
 unfold Zf
 rw[h1,h2]
 exact List.take_of_length_le (by rw[List.length_drop];omega)
theorem zhf {rs:List V}{n:Nat}(h:n≤rs.length):Zf rs none (some (n:Int))=rs.take n:=by
 have h1:HT.sIx rs.length rs.length (some (n:Int))=n:=by
  unfold HT.sIx
  show(if (n:Int)<0 then _ else _)=n
  rw[if_neg (by omega)]
  simp
  omega
 have h2:HT.sIx rs.length 0 none=0:=rfl
 unfold Zf
 rw[h1,h2]
 simp
theorem zg0 {hs:List Int}(nd:hs.Nodup){i j:Nat}{x:Int}(h1:hs[i]?=some x) (h2:hs[j]?=some x):i=j:=by
 obtain⟨a1,b1⟩:=List.getElem?_eq_some_iff.mp h1
 obtain⟨a2,b2⟩:=List.getElem?_eq_some_iff.mp h2
 exact(List.getElem?_inj a1 nd).mp (h1.trans h2.symm)
structure Lfd (hs:List Int) (ls:List (Int×Int)) (j k:Nat):Prop where
 nd:ls.Nodup
 at_:∀ p∈ls,∃ k' j',hs[k']?=some p.1∧hs[j']?=some p.2∧k'<j'∧(j'<j∨(j'=j∧k'<k))
 le:ls.length≤tri j+k
theorem Lfd.skip {hs:List Int}{ls:List (Int×Int)}{j k:Nat}(h:Lfd hs ls j k):Lfd hs ls j (k+1) :=
 ⟨h.nd,fun p hp=>by
  obtain⟨k',j',h1,h2,h3,h4⟩:=h.at_ p hp
  exact⟨k',j',h1,h2,h3,by omega⟩,by have:=h.le;omega⟩
theorem Lfd.row {hs:List Int}{ls:List (Int×Int)}{j:Nat}(h:Lfd hs ls j j):Lfd hs ls (j+1) 0 :=
 ⟨h.nd,fun p hp=>by
  obtain⟨k',j',h1,h2,h3,h4⟩:=h.at_ p hp
  exact⟨k',j',h1,h2,h3,by omega⟩,h.le⟩
theorem Lfd.add {hs:List Int}{ls:List (Int×Int)}{j k:Nat}{x y:Int}(W:Hs hs) (h:Lfd hs ls j k) (kj:k<j) (hx:hs[k]?=some x) (hy:hs[j]?=some y):Lfd hs (ls++[(x,y)]) j (k+1):=by
 have nd:=v8 W
 refine⟨?_,fun p hp=>?_,?_⟩
 ·rw[List.nodup_append]
  refine⟨h.nd,by simp,fun a ha b hb z=>?_⟩
  rw[List.mem_singleton.mp hb] at z
  obtain⟨k',j',h1,h2,h3,h4⟩:=h.at_ a ha
  rw[z] at h1 h2
  have:=zg0 nd h1 hx
  have:=zg0 nd h2 hy
  omega
 ·rcases List.mem_append.mp hp with h' | h'
  ·obtain⟨k',j',h1,h2,h3,h4⟩:=h.at_ p h'
   exact⟨k',j',h1,h2,h3,by omega⟩
  ·rw[List.mem_singleton.mp h']
   exact⟨k,j,hx,hy,kj,.inr ⟨rfl,by omega⟩⟩
 ·rw[List.length_append]
  have:=h.le
  simp
  omega
theorem Lfd.ls {hs:List Int}{ls:List (Int×Int)}{n:Nat}(W:Hs hs) (h:Lfd hs ls hs.length 0):Ls hs (ls.drop n++ls.take n):=by
 have pm:(ls.drop n++ls.take n).Perm ls:=List.perm_append_comm.trans (by rw[List.take_append_drop])
 refine⟨pm.nodup_iff.mpr h.nd,fun p hp=>?_,?_⟩
 ·obtain⟨k',j',h1,h2,h3,_⟩:=h.at_ p (pm.mem_iff.mp hp)
  obtain⟨a1,b1⟩:=List.getElem?_eq_some_iff.mp h1
  obtain⟨a2,b2⟩:=List.getElem?_eq_some_iff.mp h2
  refine⟨b1 ▸ List.getElem_mem a1,b2 ▸ List.getElem_mem a2,?_⟩
  rw[← b1,← b2]
  exact List.pairwise_iff_getElem.mp W.up _ _ a1 a2 h3
 ·rw[pm.length_eq]
  have:=h.le
  have:=Vd hs.length W.l12
  omega
def zuv:Sp:=fun vs H Q _=>∃ (l h:Addr) (hs:List Int),vs=[.ref l,.ref h]∧XsAt H l∧H h=some (.lst (hs.map V.int))∧h≠l∧Hs hs ∧
 ∀ (q:Addr) (rs:List V) (ls:List (Int×Int)) (H':Hp),H q=none→H' q=some (.lst rs)→LnAt H' rs ls→Ls hs ls→XsAt H' l→Ext l H H'→Q (.ref q) H'
theorem W2 {tA tB:TE}{σ:St}{H:Hp}{Q:VK}(k:(∀ b:Bool,Q (.bl b) H)→zhl tA tB σ H Q) (J:∀ b:Bool,Q (.bl b) H):zhl tA tB σ H Q:=k J
theorem zj3 (T:Txt w K mg a):FnOk P w K mg base CX0 2 a.f_qx a.d_qx ["_law_xs", "_law_hands_here"] zuv:=by
 have c_qv:Callee P w K mg base "_law_take" a.f_qv a.d_qv ["_law_xs", "_law_size"] 1 wa:=⟨xJ T,T.g_qv,T.F_qv.kp,T.b_qv⟩
 refine T.F_qx.ok sc_qx (fun vs H Q E h=>?_) (fun cdv A outer s H vs Q E hr h=>?_)
 ·obtain⟨l,h,hs,rfl,_⟩:=h
  rfl
 ·obtain⟨l,h,hs,rfl,sl,hh,nhl,wh,k⟩:=h
  have l12:=wh.l12
  refine zB (w_pss_cons (zi (i:=2) sc_qx.nd rfl (Or.inl rfl) (zj c_qv (hr.mono (by omega)) (w_pa_N (w_pv 0) (zl zd w_pa_nil))))
   (w_pss_cons (zi (i:=3) sc_qx.nd rfl (Or.inl rfl) (zr w_pa_nil))
   (w_pss_cons (zO PassesOwn.never rfl (yc rfl T.n_range (zx (w_pe_callB zn (by rfl) T.n_len zU (w_pa_N (w_pv 1) w_pa_nil)) w_pa_nil)) (zt (i:=4) sc_qx.nd rfl (Or.inl rfl))
    (ze (zO PassesOwn.never rfl (yc rfl T.n_range (w_pa_N (w_pv 4) w_pa_nil)) (zt (i:=5) sc_qx.nd rfl (Or.inl rfl))
     (w_pss_cons (zi (i:=6) sc_qx.nd rfl (Or.inl rfl) (Zn (zG yr (zh yf (w_pv 4) (w_pv 5)) zd (zv _)) (zW (zG yr (zh yf (w_pv 4) (w_pv 5)) (zh yf (w_pe_callB zn (by rfl) T.n_len zU (w_pa_N (w_pv 1) w_pa_nil)) zd) (zv _)))))
     (w_pss_cons (zi (i:=7) sc_qx.nd rfl (Or.inl rfl) (zj c_qv (hr.mono (by omega)) (w_pa_N (w_pv 0) (zl zd w_pa_nil))))
     (ze (w_ps_if (zS (zq zN (zr (w_pa_N (w_pv 6) (zf (zG xH (w_pv 7) zd (zv _)) (zf (zG xH (w_pv 7) zd (zv _)) (zf (zG xH (w_pv 7) zd (zv _)) (zl yK (zf (Zn (zG yr (w_pv 5) (zh yU (w_pv 7) (w_pv 4)) (zv _)) (zW (zG yr (w_pv 7) zd (zv _)))) w_pa_nil))))))) (w_pv 2) (fun _ _=>rfl)))
      (ze (zy (zV PySem.F.plainAttrs_list PySem.F.slot_list_append PySem.F.type_list_append zC (w_pv 3) (wT (zF (zf (zq zN (w_pv 1) (w_pv 5) (fun _ _=>rfl)) (zf (zq zN (w_pv 1) (w_pv 4) (fun _ _=>rfl)) w_pa_nil))) w_pa_nil))))
      zk)))))))
   (w_pss_cons (zi (i:=8) sc_qx.nd rfl (Or.inl rfl) (zj c_qv (hr.mono (by omega)) (w_pa_N (w_pv 0) (yb (zh ym (w_pe_callB zn (by rfl) T.n_len zU (w_pa_N (w_pv 3) w_pa_nil)) zd) w_pa_nil))))
   (ze (zg (zh yV (y9 vN (w_pv 3) (xA (w_pv 8)) xB) (y9 vN (w_pv 3) xB (xA (w_pv 8)))))))))) ?_
  refine⟨_,rfl,l,6,rfl,sl,by decide,fun way H1 g1 g2 s1 x1=>?_⟩
  refine⟨(by show 0≤sizeLine;decide),fun p hp=>?_⟩
  have npl:=s1.ne hp
  have hh1:=x1 _ _ hh nhl
  have nhp:h≠p:=fun z=>by rw[z,hp] at hh1;cases hh1
  refine⟨_,rfl,h,_,rfl,.inl (SqL.of ((Same.new hp) _ _ hh1)),_,rfl,?_⟩
  rw[List.length_map]
  refine⟨by omega,by omega,?_⟩
  rw[show((hs.length:Int)).toNat=hs.length by omega]
  have St:∀ {rs:List V}{ls:List (Int×Int)}{H':Hp},LnAt H' rs ls→True:=fun _=>trivial
  refine for_range (lo:=0) (fun j σ H'=>∃ (o4 o5 o6 o7:Option V) (rs:List V) (ls:List (Int×Int)),σ=[some (.ref l),some (.ref h),some (.int way),some (.ref p),o4,o5,o6,o7,none]∧H' p=some (.lst rs)∧LnAt H' rs ls∧Lfd hs ls j 0∧XsAt H' l∧Ext l H1 H') ?_ ?_ ?_
  ·exact⟨none,none,none,none,[],[],rfl,upd_same,⟨rfl,fun i r q e=>by cases e⟩,⟨List.nodup_nil,(fun q hq=>nomatch hq),Nat.zero_le _⟩,s1.new hp,Ext.new hp⟩
  ·rintro j σ H2 hj ⟨o4,o5,o6,o7,rs,ls,rfl,hp2,L,F,s2,x2⟩
   refine⟨_,rfl,0+(j:Int),rfl,by omega,by omega,?_⟩
   rw[show(0+(j:Int)).toNat=j by omega]
   refine for_range (lo:=0) (fun i σ H'=>∃ (o5 o6 o7:Option V) (rs:List V) (ls:List (Int×Int)),σ=[some (.ref l),some (.ref h),some (.int way),some (.ref p),some (.int (0+(j:Int))),o5,o6,o7,none]∧H' p=some (.lst rs)∧LnAt H' rs ls∧Lfd hs ls j i∧XsAt H' l∧Ext l H1 H') ?_ ?_ ?_
   ·exact⟨o5,o6,o7,rs,ls,rfl,hp2,L,F,s2,x2⟩
   ·rintro i σ H3 hi ⟨o5,o6,o7,rs,ls,rfl,hp3,L,F,s3,x3⟩
    have hj2:hs[j]?=some hs[j]:=by simp[hj]
    have hi2:hs[i]?=some (hs[i]'(by omega)):=by simp
    have hh3:=x3 _ _ hh1 nhl
    refine W2 (fun hJ=>⟨_,rfl,_,rfl,_,_,rfl,rfl,rfl,_,rfl,ite2 (fun _=>hJ _) (fun _=>⟨_,rfl,_,rfl,_,_,rfl,rfl,_,rfl,h,_,rfl,.inl (SqL.of hh3),_,_,rfl,rfl,rfl,hJ _⟩)⟩) (fun bb=>?_)
    refine⟨_,rfl,l,6,rfl,s3,by decide,fun dr H4 a1 a2 s4 x4=>?_⟩
    refine⟨_,rfl,_,rfl,_,_,rfl,rfl,_,rfl,_,_,rfl,rfl,_,rfl,_,_,rfl,rfl,?_⟩
    refine W2 (fun hJ=>⟨_,rfl,_,rfl,_,rfl,_,_,rfl,rfl,(by show(0:Int)<0+(j:Int);omega),rfl,_,rfl,ite2 (fun _=>hJ _) (fun _=>⟨_,rfl,rfl,hJ _⟩)⟩) (fun bb2=>?_)
    have hp4:=x4 _ _ hp3 npl
    have hh4:=x4 _ _ hh3 nhl
    have L4:LnAt H4 rs ls:=⟨L.1,fun n r pr e1 e2=>by
     obtain⟨q,e,t⟩:=L.2 n r pr e1 e2
     exact⟨q,e,x4 _ _ t fun z=>by
      obtain⟨ns,e3,_⟩:=s3
      rw[z,e3] at t
      cases t⟩⟩
    have X4:=x3.trans x4
    refine⟨by show 6≤sizeLine;decide,fun q6 hq6=>?_⟩
    have y5:∀ o,Same H4 (L2.upd H4 q6 o):=fun o=>Same.new hq6
    have u5:∀ o,L2.upd H4 q6 o q6=some o:=fun o=>upd_same
    generalize L2.upd H4 q6=f at *
    obtain⟨z,hz⟩:=zjU (b1:=_) (b2:=_) (b3:=_) (b4:=_) (b5:=_) (b6:=_) g1 g2
    refine⟨_,rfl,q6,_,_,_,rfl,rfl,SqL.of (u5 _),hz,_,rfl,?_⟩
    have hp5:=fun o=>y5 o _ _ hp4
    have hh5:=fun o=>y5 o _ _ hh4
    have L5:=fun o=>L4.same (y5 o)
    have s5:=fun o=>s4.same (y5 o)
    have X5:=fun o=>X4.trans (Ext.same (y5 o))
    refine ite2 (fun _=>?_) (fun _=>?_)
    ·refine⟨_,rfl,.inl ⟨rfl,_,SqL.of (hp5 _)⟩,_,rfl,_,rfl,h,_,_,V.int (hs[i]'(by omega)),rfl,rfl,SqL.of (hh5 _),(by rw[Int.zero_add];exact xU (by simp)),_,rfl,_,rfl,h,_,_,V.int hs[j],rfl,rfl,SqL.of (hh5 _),(by rw[Int.zero_add];exact xU (by simp[hj])),(by show 2≤sizeLine;decide),fun qt hqt=>?_⟩
     have y6:=Same.new (o:=HO.tup [V.int (hs[i]'(by omega)),V.int hs[j]]) hqt
     have l66:=F.le
     refine⟨p,_,_,rfl,rfl,y6 _ _ (hp5 _),(by rw[L.1];have:=Vd hs.length l12;have:=zah hj;exact zm (by omega)),?_⟩
     refine⟨_,_,_,_,ls++[(hs[i]'(by omega),hs[j])],rfl,upd_same,LnAt.updL (y6 _ _ (hp5 _)) (LnAt.snoc (p:=(hs[i]'(by omega),hs[j])) ((L5 _).same y6) (q:=qt) upd_same),F.add wh hi hi2 hj2,((s5 _).same y6).upd npl.symm.symm,?_⟩
     intro b o e nb
     rw[upd_ne (ne_of_none e hp)]
     exact((X5 _).trans (Ext.same y6)) b o e nb
    ·exact⟨_,_,_,rs,ls,rfl,hp5 _,L5 _,F.skip,s5 _,X5 _⟩
   ·rintro σ H3 ⟨o5,o6,o7,rs,ls,rfl,hp3,L,F,s3,x3⟩
    exact⟨_,_,_,_,rs,ls,rfl,hp3,L,F.row,s3,x3⟩
  ·rintro σ H2 ⟨o4,o5,o6,o7,rs,ls,rfl,hp2,L,F,s2,x2⟩
   refine⟨_,rfl,_,rfl,p,_,rfl,.inl (SqL.of hp2),_,_,rfl,rfl,l,_,rfl,s2,by omega,fun d H3 a1 a2 s3 x3=>?_⟩
   obtain⟨n,rfl⟩:∃ n:Nat,d=n:=⟨d.toNat,by omega⟩
   have hp3:=x3 _ _ hp2 npl
   have L3:LnAt H3 rs ls:=⟨L.1,fun n r pr e1 e2=>by
      obtain⟨q,e,t⟩:=L.2 n r pr e1 e2
      exact⟨q,e,x3 _ _ t fun z=>by
       obtain⟨ns,e3,_⟩:=s2
       rw[z,e3] at t
       cases t⟩⟩
   refine⟨_,rfl,_,rfl,_,rfl,p,_,rfl,SqL.of hp3,fun q1 hq1=>?_⟩
   have y4:=Same.new (o:=HO.lst (Zf rs (some (n:Int)) none)) hq1
   refine⟨_,rfl,_,rfl,_,rfl,p,_,rfl,SqL.of (y4 _ _ hp3),fun q2 hq2=>?_⟩
   have y5:=Same.new (o:=HO.lst (Zf rs none (some (n:Int)))) hq2
   have hnl:n≤rs.length:=by omega
   have l66:=F.le
   have:=Vd hs.length l12
   have l1:=yO rs (some (n:Int)) none
   have l2:=yO rs none (some (n:Int))
   have lL:=L.1
   refine⟨q1,q2,_,_,rfl,rfl,y5 _ _ upd_same,upd_same,(Nat.le_of_lt (zm (by omega))),fun q hq=>?_⟩
   have y6:=Same.new (o:=HO.lst (Zf rs (some (n:Int)) none++Zf rs none (some (n:Int)))) hq
   have y456:=(y4.trans y5).trans y6
   refine k q (rs.drop n++rs.take n) (ls.drop n++ls.take n) _ ((((x1.trans x2).trans x3).trans (Ext.same (y4.trans y5))).free ((s3.same (y4.trans y5)).ne hq) hq) (by rw[upd_same,znJ hnl,zhf hnl]) (L3.same y456).cut (F.ls wh) (s3.same y456) ?_
   exact(x1.trans x2).trans (x3.trans (Ext.same y456))
theorem WA {K:PySem.W.Frag}{H:Hp}{ns:List Int}{n:Nat}:∀ (j:Nat) x y,(ns.map V.int)[j]?=some x→(ns.map V.int)[j]?=some y→EqD K H x y ((fun _=>true) j) n:=fun j x y e1 e2=>by
 rw[e1] at e2;cases e2
 obtain⟨z,_,rfl⟩:=List.mem_map.mp (List.mem_of_getElem? e1)
 exact yZ rfl
theorem Zu {K:PySem.W.Frag}{H:Hp}{a b:Addr}{x y:Int}{n:Nat}(ha:H a=some (.tup [.int x,.int y])) (hb:H b=some (.tup [.int x,.int y])):EqD K H (.ref a) (.ref b) true (n+1):=by
 by_cases hne:a=b
 ·subst hne;exact .same
 ·have:=EqD.tup (K:=K) (e:=fun _=>true) (n:=n) hne (SqT.of ha) (SqT.of hb) rfl fun j u v e1 e2=>by
   rw[e1] at e2;cases e2
   have:u∈[V.int x,V.int y]:=List.mem_of_getElem? e1
   simp only[List.mem_cons,List.not_mem_nil,or_false] at this
   rcases this with rfl | rfl
   ·exact yZ rfl
   ·exact yZ rfl
  have e:((List.range [V.int x,V.int y].length).all fun _=>true)=true:=by simp
  rw[e] at this
  exact this
theorem LnAt.eqD {K:PySem.W.Frag}{H:Hp}{rs zs:List V}{ls:List (Int×Int)}{n:Nat}(h1:LnAt H rs ls) (h2:LnAt H zs ls):∀ (j:Nat) x y,rs[j]?=some x→zs[j]?=some y→EqD K H x y ((fun _=>true) j) (n+1):=fun j x y e1 e2=>by
 obtain⟨p,q,hp,rfl,hq⟩:=h1.get e1
 obtain⟨p',q',hp',rfl,hq'⟩:=h2.get e2
 rw[hp] at hp'
 cases hp'
 exact Zu hq hq'
theorem ul {ad:Int→Addr}{us:List Int}{p:Key×V}(h:p∈tab ad us):∃ x∈us,p=(Sum.inl x,V.ref (ad x)):=by
 unfold tab at h
 obtain⟨x,hx,e⟩:=List.mem_map.mp h
 exact⟨x,hx,e.symm⟩
theorem Zw {f:Int→Int}{us:List Int}{p:Key×V}(h:p∈tabI f us):∃ x∈us,p=(Sum.inl x,V.int (f x)):=by
 unfold tabI at h
 obtain⟨x,hx,e⟩:=List.mem_map.mp h
 exact⟨x,hx,e.symm⟩
section
variable {X:Cx}
theorem EqP.mono {H:Hp}{x y:V}{b:Bool}{n m:Nat}(h:EqP X H x y b n) (l:n≤m):EqP X H x y b m:=fun pins σ s I A u v hu=>h pins σ s I A u v (by omega)
theorem zhc {H:Hp}{q q':Addr}{f:Int→Int}{hs:List Int}(h1:H q=some (.dK (tabI f hs))) (h2:H q'=some (.dK (tabI f hs))):EqP X H (.ref q) (.ref q') true 2:=by
 have i:∀ p∈tabI f hs,∃ i,p.1=Sum.inl i:=fun p hp=>by
  obtain⟨x,_,rfl⟩:=Zw hp
  exact⟨x,rfl⟩
 refine EqP.dct h1 h2 rfl i i fun p hp=>?_
 obtain⟨x,hx,rfl⟩:=Zw hp
 exact⟨_,vK hx,EqP.of (yZ rfl)⟩
theorem znH {H:Hp}{q q':Addr}{ad ad':Int→Addr}{g:Int→List (Int×Int)}{hs:List Int}(h1:HrAt H q ad hs g) (h2:HrAt H q' ad' hs g):EqP X H (.ref q) (.ref q') true 6:=by
 have i:∀ ad p,p∈tab ad hs→∃ i,p.1=Sum.inl i:=fun ad p hp=>by
  obtain⟨x,_,rfl⟩:=ul hp
  exact⟨x,rfl⟩
 refine EqP.dct h1.q h2.q (by unfold tab;rw[List.length_map,List.length_map]) (i ad) (i ad') fun p hp=>?_
 obtain⟨x,hx,rfl⟩:=ul hp
 obtain⟨rs,e1,l1,_⟩:=h1.at_ x hx
 obtain⟨zs,e2,l2,_⟩:=h2.at_ x hx
 exact⟨_,Zv hx,EqP.lst (SqL.of e1) (SqL.of e2) (l1.1.trans l2.1.symm) fun j u v z1 z2=>EqP.of (LnAt.eqD (n:=1) l1 l2 j u v z1 z2)⟩
variable {H:Hp}{e2 e3 e4:Ex}{f0:Int→Int}{hs0:List Int}{rds rds':List Rd}{ws gs ws' gs':List Addr}
theorem RnP.eqw (R:RnP H e2 e3 e4 f0 hs0 rds ws gs) (R':RnP H e2 e3 e4 f0 hs0 rds' ws' gs'){k:Nat}(hk:∀ i,i<k→rds[i]?=rds'[i]?){j:Nat}(hj:j≤k) (hl:j≤rds.length){u v:Addr}(h1:ws[j]?=some u) (h2:ws'[j]?=some v):EqP X H (.ref u) (.ref v) true 2:=by
 cases j with
 |zero=>exact zhc (R.z u h1) (R'.z v h2)
 |succ j =>
  have g1:=List.getElem?_eq_getElem (l:=rds) (i:=j) (by omega)
  have g2:=(hk j (by omega)).symm.trans g1
  have a:=R.w j u _ h1 g1
  have b:=R'.w j v _ h2 g2
  rw[WL j fun i hi=>hk i (by omega)] at a
  exact zhc a b
theorem RnP.eqg (R:RnP H e2 e3 e4 f0 hs0 rds ws gs) (R':RnP H e2 e3 e4 f0 hs0 rds' ws' gs'){k:Nat}(hk:∀ i,i<k→rds[i]?=rds'[i]?){j:Nat}(hj:j<k) (hl:j<rds.length){u v:Addr}(h1:gs[j]?=some u) (h2:gs'[j]?=some v):EqP X H (.ref u) (.ref v) true 6:=by
 have g1:=List.getElem?_eq_getElem (l:=rds) (i:=j) hl
 have g2:=(hk j hj).symm.trans g1
 obtain⟨a1,a⟩:=R.g j u _ h1 g1
 obtain⟨b1,b⟩:=R'.g j v _ h2 g2
 rw[WL j fun i hi=>hk i (by omega)] at a
 exact znH a b
theorem RnP.itw (R:RnP H e2 e3 e4 f0 hs0 rds ws gs) (R':RnP H e2 e3 e4 f0 hs0 rds' ws' gs') (h:∀ i,i<rds.length→rds[i]?=rds'[i]?):∀ (j:Nat) x y,(ws.map V.ref)[j]?=some x→((ws'.map V.ref).take (rds.length+1))[j]?=some y→EqP X H x y true 2:=fun j x y e1 e2=>by
 rw[List.getElem?_map] at e1
 obtain⟨u,h1,rfl⟩:=Option.map_eq_some_iff.mp e1
 rw[List.getElem?_take] at e2
 split at e2
 ·rw[List.getElem?_map] at e2
  obtain⟨v,h2,rfl⟩:=Option.map_eq_some_iff.mp e2
  exact R.eqw R' h (by omega) (by omega) h1 h2
 ·cases e2
theorem RnP.itg (R:RnP H e2 e3 e4 f0 hs0 rds ws gs) (R':RnP H e2 e3 e4 f0 hs0 rds' ws' gs') (h:∀ i,i<rds.length→rds[i]?=rds'[i]?):∀ (j:Nat) x y,(gs.map V.ref)[j]?=some x→((gs'.map V.ref).take rds.length)[j]?=some y→EqP X H x y true 6:=fun j x y e1 e2=>by
 rw[List.getElem?_map] at e1
 obtain⟨u,h1,rfl⟩:=Option.map_eq_some_iff.mp e1
 rw[List.getElem?_take] at e2
 split at e2
 ·rw[List.getElem?_map] at e2
  obtain⟨v,h2,rfl⟩:=Option.map_eq_some_iff.mp e2
  exact R.eqg R' h ‹_› ‹_› h1 h2
 ·cases e2
theorem RnP.lstw (R:RnP H e2 e3 e4 f0 hs0 rds ws gs) (R':RnP H e2 e3 e4 f0 hs0 rds' ws' gs') (h:∀ i,i<rds.length→rds[i]?=rds'[i]?) (hl:rds.length≤rds'.length){p q:Addr}(hp:H p=some (.lst (ws.map V.ref))) (hq:H q=some (.lst ((ws'.map V.ref).take (rds.length+1)))):EqP X H (.ref p) (.ref q) true 8 :=
 K04.EqP.mono (EqP.lst (SqL.of hp) (SqL.of hq) (by rw[List.length_take,List.length_map,List.length_map,R.lw,R'.lw];omega) (R.itw R' h)) (by decide)
theorem RnP.lstg (R:RnP H e2 e3 e4 f0 hs0 rds ws gs) (R':RnP H e2 e3 e4 f0 hs0 rds' ws' gs') (h:∀ i,i<rds.length→rds[i]?=rds'[i]?) (hl:rds.length≤rds'.length){p q:Addr}(hp:H p=some (.lst (gs.map V.ref))) (hq:H q=some (.lst ((gs'.map V.ref).take rds.length))):EqP X H (.ref p) (.ref q) true 8 :=
 EqP.lst (SqL.of hp) (SqL.of hq) (by rw[List.length_take,List.length_map,List.length_map,R.lg,R'.lg];omega) (R.itg R' h)
theorem RnP.all (R:RnP H e2 e3 e4 f0 hs0 rds ws gs):(ws.map V.ref).take (rds.length+1)=ws.map V.ref∧(gs.map V.ref).take rds.length=gs.map V.ref:=⟨List.take_of_length_le (by rw[List.length_map,R.lw];omega),List.take_of_length_le (by rw[List.length_map,R.lg];omega)⟩
end
theorem WebAt.hide {a:Ad}{H:Hp}{p dx oh ol d l:Addr}{hs:List Int}{ls:List (Int×Int)}{ad:Int→Addr}(w:WebAt a H p hs ls dx oh ol d ad) (n1:l≠p) (n2:l≠oh) (n3:l≠d) (n4:∀ x∈hs,l≠ad x):WebAt a (hide [l] H) p hs ls dx oh ol d ad:=by
 have h1:∀ {b:Addr}{o:HO},l≠b→H b=some o→K04.hide [l] H b=some o:=fun n e=>yx (fun z=>n (List.mem_singleton.mp z).symm) e
 exact⟨h1 n1 w.p,h1 n2 w.oh,h1 n3 w.nr.d,fun x hx=>h1 (n4 x hx) (w.nr.nb x hx)⟩
section
variable {X:Cx}{H:Hp}{e2 e3 e4:Ex}{f0:Int→Int}{hs0:List Int}{rds:List Rd}{ws gs ws' gs':List Addr}
theorem RnP.samew (R:RnP H e2 e3 e4 f0 hs0 rds ws gs) (R':RnP H e2 e3 e4 f0 hs0 rds ws' gs'){p q:Addr}(hp:H p=some (.lst (ws.map V.ref))) (hq:H q=some (.lst (ws'.map V.ref))):EqP X H (.ref p) (.ref q) true 8:=R.lstw R' (fun _ _=>rfl) (Nat.le_refl _) hp (by rw[R'.all.1];exact hq)
theorem RnP.sameg (R:RnP H e2 e3 e4 f0 hs0 rds ws gs) (R':RnP H e2 e3 e4 f0 hs0 rds ws' gs'){p q:Addr}(hp:H p=some (.lst (gs.map V.ref))) (hq:H q=some (.lst (gs'.map V.ref))):EqP X H (.ref p) (.ref q) true 8:=R.lstg R' (fun _ _=>rfl) (Nat.le_refl _) hp (by rw[R'.all.2];exact hq)
theorem zhd {x1 x2 y1 y2:V}(h1:EqP X H x1 y1 true 8) (h2:EqP X H x2 y2 true 8):∀ (j:Nat) u v,[x1,x2][j]?=some u→[y1,y2][j]?=some v→EqP X H u v true 8:=fun j u v e1 e2=>by
 rcases j with _ | _ | j
 ·cases e1;cases e2;exact h1
 ·cases e1;cases e2;exact h2
 ·cases e1
end
theorem zac {x:Int}{v y:V}{H H':Hp}(h:yI (Sum.inl x,v) y H H'):∃ p,H p=none∧y=.ref p∧H'=upd H p (.tup [.int x,v]):=h
theorem zab {τ:St}{H:Hp}{A B:Hp→Prop}(h:A H):zhk τ H (fun b H5=>if b=true then A H5 else B H5):=by
 show if true=true then A H else B H
 exact XF h
def zuD:Sp:=fun vs H Q _=>∃ (pw pg:Addr) (ws gs:List Addr) (Z:Nat→List Int×(Int→List (Int×Int))),vs=[.ref pw,.ref pg]∧H pw=some (.lst (ws.map V.ref))∧H pg=some (.lst (gs.map V.ref))∧ws.length≤100∧gs.length≤100 ∧
 (∀ q∈ws,∃ kvs,H q=some (.dK kvs))∧(∀ (j:Nat) q,gs[j]?=some q→∃ ad,HrAt H q ad (Z j).1 (Z j).2∧(Z j).1.Nodup∧(Z j).1.length≤12) ∧
 ∀ (qd pwd pgd:Addr) (wsd gsd:List Addr) H',Same H H'→H' qd=some (.tup [.ref pwd,.ref pgd])→H' pwd=some (.lst (wsd.map V.ref))→H' pgd=some (.lst (gsd.map V.ref))→H pwd=none→H pgd=none→(∀ q∈wsd,H q=none)→(∀ q∈gsd,H q=none) →
  wsd.length=ws.length→gsd.length=gs.length→(∀ (j:Nat) q q',ws[j]?=some q→wsd[j]?=some q'→∀ kvs,H q=some (.dK kvs)→H' q'=some (.dK kvs)) →
  (∀ (j:Nat) q',gsd[j]?=some q'→∃ ad',HrAt H' q' ad' (Z j).1 (Z j).2∧∀ x∈(Z j).1,H (ad' x)=none)→Q (.ref qd) H'
theorem zj8 (T:Txt w K mg a):FnOk P w K mg base CX0 1 a.f_qD a.d_qD ["_law_worths", "_law_heard"] zuD:=by
 refine T.F_qD.ok sc_qD (fun vs H Q E h=>?_) (fun cdv A outer s H vs Q E hr h=>?_)
 ·obtain⟨pw,pg,ws,gs,Z,rfl,_⟩:=h
  rfl
 ·obtain⟨pw,pg,ws,gs,Z,rfl,hpw,hpg,lw,lg,Fw,Fg,k⟩:=h
  have hu:=xp hr
  refine zB (w_pss_cons (zi (i:=2) sc_qD.nd rfl (Or.inl rfl) (zr w_pa_nil))
   (w_pss_cons (zO PassesOwn.never rfl (zE (w_pv 1)) (zt (i:=3) sc_qD.nd rfl (Or.inl rfl))
    (ze (zy (zV PySem.F.plainAttrs_list PySem.F.slot_list_append PySem.F.type_list_append zC (w_pv 2) (zx (zI (xl rfl) (by rfl) T.n_dict xT (zf (Zm (yd rfl (N':=["_law_hand", "_law_row"]) (t:=2) (caps:=[]) ⟨rfl,rfl,rfl⟩ (vI (w_pv 3)) (fun _=>(uh rfl (yz (zt (i:=0) (show(["_law_hand", "_law_row"]:List Str).Nodup by decide +kernel) rfl (Or.inl rfl)) (yz (zt (i:=1) (show(["_law_hand", "_law_row"]:List Str).Nodup by decide +kernel) rfl (Or.inl rfl)) wR)))) (fun _=>zZ) (fun _=>(zF (w_pa_N (w_pv 0) (zx (zI yy (by rfl) T.n_list xS (w_pa_N (w_pv 1) w_pa_nil)) w_pa_nil)))))) w_pa_nil)) w_pa_nil)))))
   (ze (zg (zF (zf (yd rfl (N':=["_law_told"]) (t:=1) (caps:=[]) ⟨rfl,rfl,rfl⟩ (zE (w_pv 0)) (fun _=>(zt (i:=0) (show(["_law_told"]:List Str).Nodup by decide +kernel) rfl (Or.inl rfl))) (fun _=>zZ) (fun _=>(zI wo (by rfl) T.n_dict xT (w_pa_N (w_pv 0) w_pa_nil)))) (w_pa_N (w_pv 2) w_pa_nil))))))) ?_
  refine⟨(by show 0≤sizeLine;decide),fun pr hpr=>?_⟩
  have n0:=Same.new (o:=HO.lst []) hpr
  have npg:pr≠pg:=fun z=>by rw[z,hpg] at hpr;cases hpr
  have hpg0:(upd H pr (HO.lst [])) pg=_:=n0 _ _ hpg
  refine⟨_,rfl,pg,rfl,⟨_,SqL.of hpg0⟩,?_⟩
  refine zR (xs:=gs.map V.ref) (fun i σ G=>∃ (o3:Option V) (rs:List Addr),σ=[some (.ref pw),some (.ref pg),some (.ref pr),o3]∧G pr=some (.lst (rs.map V.ref))∧Same H G∧rs.length=i∧(∀ q∈rs,H q=none)∧(∀ (j:Nat) q',rs[j]?=some q'→∃ ad',HrAt (hide [pr] G) q' ad' (Z j).1 (Z j).2∧∀ x∈(Z j).1,H (ad' x)=none)) ?_ ?_ ?_ ?_
  ·exact⟨none,[],rfl,upd_same,n0,rfl,(fun q hq=>nomatch hq),fun j q' h'=>by simp at h'⟩
  ·rintro i σ G hi ⟨o3,rs,_,_,sG,_⟩
   exact SqL.of (sG _ _ hpg)
  ·rintro i v σ G hi ⟨o3,rs,rfl,hprG,sG,lrs,frs,hrs⟩
   obtain⟨q,hq,rfl⟩:∃ q,gs[i]?=some q∧v=.ref q:=by
    rw[List.getElem?_map] at hi
    obtain⟨x,h1,h2⟩:=Option.map_eq_some_iff.mp hi
    exact⟨x,h1,h2.symm⟩
   obtain⟨ad,hA,nd,l12⟩:=Fg i q hq
   generalize hus:(Z i).1=us at *
   generalize hgz:(Z i).2=g at *
   have hAG:=hA.same sG
   refine⟨_,rfl,.inl ⟨rfl,_,SqL.of hprG⟩,_,rfl,q,_,rfl,hAG.q,fun od S D hD _=>?_⟩
   have hDq:D≠q:=fun z=>by rw[z,upd_same] at hD;cases hD
   generalize hG1:upd G q (HO.frz od (HO.dK (tab ad us)))=G1 at *
   have hq1:G1 q=some (.frz od (.dK (tab ad us))):=by rw[← hG1];exact upd_same
   have x1:Ext q G G1:=by rw[← hG1];exact Ext.at
   refine Xb (yl:=yI) (d:=q) (od:=od) (kvs:=tab ad us) (fun i zs τ G'=>∃ (o1 o2:Option V) (qs:List Addr) (ad':Int→Addr),τ=[o1,o2]∧zs=qs.map V.ref∧qs.length=i∧(∀ (j:Nat) (p:Addr) (x:Int),qs[j]?=some p→us[j]?=some x→G' p=some (.tup [.int x,.ref (ad' x)]))∧(∀ x∈us.take i,G1 (ad' x)=none∧ad' x≠D∧∃ rs,G' (ad' x)=some (.lst rs)∧LnAt G' rs (g x)∧rs.length≤100)∧(∀ x∈us.take i,∀ y∈us.take i,ad' x=ad' y→x=y)∧G' D=some (.lst zs)∧Same G1 G') ?_ ?_ ?_ ?_
   ·exact⟨none,none,[],fun _=>0,rfl,rfl,rfl,fun j q x h=>by simp at h,fun x hx=>by simp at hx,fun x hx=>by simp at hx,upd_same,Same.new hD⟩
   ·rintro i zs τ G' ⟨o1,o2,qs,ad',_,_,_,_,_,_,_,sm⟩
    exact sm _ _ hq1
   ·rintro i kv v zs τ G' G'' hkv ⟨o1,o2,qs,ad',rfl,rfl,lq,hqs,had,hinj,hD',sm⟩ hy
    obtain⟨x,hx,rfl⟩:∃ x,us[i]?=some x∧kv=(Sum.inl x,V.ref (ad x)):=by
     unfold tab at hkv
     rw[List.getElem?_map] at hkv
     obtain⟨x,h1,h2⟩:=Option.map_eq_some_iff.mp hkv
     exact⟨x,h1,h2.symm⟩
    obtain⟨p0,hp0,rfl,rfl⟩:=zac hy
    have hil:i<us.length:=(List.getElem?_eq_some_iff.mp hx).1
    have hnx:x∉us.take i:=xk nd hx
    have n1:=Same.new (o:=HO.tup [V.int x,V.ref (ad x)]) hp0
    refine⟨p0,_,rfl,SqT.of upd_same,rfl,_,_,rfl,_,_,rfl,rfl,zab ?_⟩
    obtain⟨rs0,r1,r2,r3⟩:=hAG.at_ x (List.mem_of_getElem? hx)
    have naq:ad x≠q:=fun z=>by rw[z,hAG.q] at r1;cases r1
    have r1':=n1 _ _ (sm _ _ (x1 _ _ r1 naq))
    have r2':LnAt G1 rs0 (g x):=r2.mono fun b xs e=>x1 _ _ e fun z=>by rw[z,hAG.q] at e;cases e
    refine⟨_,rfl,_,rfl,ad x,rs0,rfl,.inl (SqL.of r1'),fun pe hpe=>⟨(by show 2≤sizeLine;decide),fun pt hpt=>?_⟩⟩
    have hpe:(upd G' p0 (HO.tup [V.int x,V.ref (ad x)])) pe=none:=hpe
    have hpt:(upd (upd G' p0 (HO.tup [V.int x,V.ref (ad x)])) pe (HO.lst rs0)) pt=none:=hpt
    have n2:=Same.new (o:=HO.lst rs0) hpe
    have n3:=Same.new (o:=HO.tup [V.int x,V.ref pe]) hpt
    have n12:=n1.trans n2
    have n13:=n12.trans n3
    have npe:pe≠D:=fun z=>by rw[z,n1 _ _ hD'] at hpe;cases hpe
    have npt:pt≠D:=fun z=>by rw[z,n12 _ _ hD'] at hpt;cases hpt
    have fpe:G1 pe=none:=(sm.trans n1).free hpe
    have smF:=sm.trans n13
    have hpeF:=n3 _ _ (upd_same (H:=upd G' p0 (HO.tup [V.int x,V.ref (ad x)])) (a:=pe) (o:=HO.lst rs0))
    have hptF:=upd_same (H:=upd (upd G' p0 (HO.tup [V.int x,V.ref (ad x)])) pe (HO.lst rs0)) (a:=pt) (o:=HO.tup [V.int x,V.ref pe])
    have hDF:=n13 _ _ hD'
    have fr:∀ u∈us.take i,ad' u≠pe:=fun u hu z=>by
     obtain⟨_,_,rs,e,_⟩:=had u hu
     rw[← z,n1 _ _ e] at hpe;cases hpe
    show(upd (upd (upd G' p0 (HO.tup [V.int x,V.ref (ad x)])) pe (HO.lst rs0)) pt (HO.tup [V.int x,V.ref pe])) D=_∧_
    generalize hGF:upd (upd (upd G' p0 (HO.tup [V.int x,V.ref (ad x)])) pe (HO.lst rs0)) pt (HO.tup [V.int x,V.ref pe])=GF at *
    have old:∀ b o,GF b=some o→b≠D→upd GF D (HO.lst (qs.map V.ref++[V.ref pt])) b=some o:=fun b o e nb=>by
     rw[upd_ne nb];exact e
    have oldT:∀ b xs,GF b=some (.tup xs)→upd GF D (HO.lst (qs.map V.ref++[V.ref pt])) b=some (.tup xs):=fun b xs e=>old b _ e fun z=>by
     rw[z,hDF] at e;cases e
    have tk:us.take (i+1)=us.take i++[x]:=by rw[List.take_add_one,hx];rfl
    refine⟨hDF,by rw[List.length_map,lq];exact zm (by omega),some (.int x),some (.ref (ad x)),qs++[pt],Uc ad' x pe,rfl,by simp,by simp[lq],fun j q y hj hy=>?_,fun y hy=>?_,fun y hy z hz e=>?_,upd_same,Same.updF smF hD⟩
    ·by_cases hji:j<i
     ·rw[List.getElem?_append_left (by omega)] at hj
      have h1:=hqs j q y hj hy
      have hyx:¬ y=x:=fun e=>hnx (by rw[← e];exact List.mem_of_getElem? (by rw[List.getElem?_take_of_lt hji];exact hy))
      rw[putA_ne hyx]
      exact oldT q _ (n13 _ _ h1)
     ·rw[List.getElem?_append_right (by omega)] at hj
      have:j=i:=by
       have:=(List.getElem?_eq_some_iff.mp hj).1
       simp at this
       omega
      subst this
      rw[lq,Nat.sub_self] at hj
      cases hj
      rw[hx] at hy
      cases hy
      rw[putA_at rfl]
      exact oldT _ _ hptF
    ·rw[tk] at hy
     by_cases e:y=x
     ·rw[putA_at e,e]
      exact⟨fpe,npe,rs0,old _ _ hpeF npe,(r2'.same smF).mono oldT,r3⟩
     ·rw[putA_ne e]
      obtain⟨a1,a2,rs1,a3,a4,a5⟩:=had y ((List.mem_append.mp hy).resolve_right fun z=>e (List.mem_singleton.mp z))
      exact⟨a1,a2,rs1,old _ _ (n13 _ _ a3) a2,(a4.same n13).mono oldT,a5⟩
    ·rw[tk] at hy hz
     by_cases ey:y=x
     ·by_cases ez:z=x
      ·rw[ey,ez]
      ·rw[putA_at ey,putA_ne ez] at e
       exact absurd e.symm (fr z ((List.mem_append.mp hz).resolve_right fun w=>ez (List.mem_singleton.mp w)))
     ·have hy':=(List.mem_append.mp hy).resolve_right fun w=>ey (List.mem_singleton.mp w)
      by_cases ez:z=x
      ·rw[putA_ne ey,putA_at ez] at e
       exact absurd e (fr y hy')
      ·rw[putA_ne ey,putA_ne ez] at e
       exact hinj y hy' z ((List.mem_append.mp hz).resolve_right fun w=>ez (List.mem_singleton.mp w)) e
   ·rintro zs τ G2 ⟨o1,o2,qs,ad',rfl,rfl,lq,hqs,had,hinj,hD2,sm⟩
    refine .inr ⟨q,od,tab ad us,S,sm _ _ hq1,?_⟩
    have lt:(tab ad us).length=us.length:=by unfold tab;rw[List.length_map]
    rw[lt] at lq had hinj
    rw[List.take_length] at had hinj
    have sG3:Same G (upd G2 q (HO.dK (tab ad us))):=fun b o e=>by
     by_cases z:b=q
     ·rw[z,hAG.q] at e;cases e;rw[z];exact upd_same
     ·rw[upd_ne z];exact sm _ _ (x1 _ _ e z)
    have kp:∀ b o,G2 b=some o→b≠q→(upd G2 q (HO.dK (tab ad us))) b=some o:=fun b o e z=>by rw[upd_ne z];exact e
    have hq2:=sm _ _ hq1
    have kT:∀ b xs,G2 b=some (.tup xs)→(upd G2 q (HO.dK (tab ad us))) b=some (.tup xs):=fun b xs e=>kp b _ e fun z=>by rw[z,hq2] at e;cases e
    have hD3:=kp _ _ hD2 hDq
    have fa:∀ x∈us,H (ad' x)=none:=fun x hx=>by
     obtain⟨a1,a2,rs1,a3,_⟩:=had x hx
     have nq:ad' x≠q:=fun z=>by rw[z,hq1] at a1;cases a1
     exact sG.free (x1.free nq a1)
    have hH3:∀ x∈us,∃ rs,(upd G2 q (HO.dK (tab ad us))) (ad' x)=some (.lst rs)∧LnAt (upd G2 q (HO.dK (tab ad us))) rs (g x)∧rs.length≤100:=fun x hx=>by
     obtain⟨a1,a2,rs1,a3,a4,a5⟩:=had x hx
     have nq:ad' x≠q:=fun z=>by rw[z,hq1] at a1;cases a1
     exact⟨rs1,kp _ _ a3 nq,a4.mono kT,a5⟩
    have hqs3:∀ (j:Nat) (p:Addr) (x:Int),qs[j]?=some p→us[j]?=some x→(upd G2 q (HO.dK (tab ad us))) p=some (.tup [.int x,.ref (ad' x)]):=fun j p x h1 h2=>kT _ _ (hqs j p x h1 h2)
    have nap:∀ x∈us,ad' x≠pr:=fun x hx z=>by
     obtain⟨a1,a2,rs1,a3,_⟩:=had x hx
     have nq:pr≠q:=fun z=>by rw[z,hAG.q] at hprG;cases hprG
     rw[z,x1 _ _ hprG nq] at a1
     cases a1
    generalize hG3:upd G2 q (HO.dK (tab ad us))=G3 at *
    refine⟨D,qs,tab ad' us,rfl,hD3,by rw[lq];unfold tab;rw[List.length_map],by unfold tab;rw[List.length_map];omega,fun i p kv h1 h2=>?_,fun pd hpd=>?_⟩
    ·unfold tab at h2
     rw[List.getElem?_map] at h2
     obtain⟨x,h3,h4⟩:=Option.map_eq_some_iff.mp h2
     subst h4
     exact hqs3 i p x h1 h3
    rw[wK (by rw[wt];exact YZ nd)]
    have n4:=Same.new (o:=HO.dK (tab ad' us)) hpd
    have sG4:=sG3.trans n4
    refine⟨pr,_,_,rfl,rfl,sG4 _ _ hprG,(by rw[List.length_map,lrs];exact zm (by have:=(List.getElem?_eq_some_iff.mp hq).1;omega)),?_⟩
    have fpd:H pd=none:=(sG.trans sG3).free hpd
    have npd:pd≠pr:=fun z=>by rw[z,sG3 _ _ hprG] at hpd;cases hpd
    have hA4:HrAt (upd G3 pd (HO.dK (tab ad' us))) pd ad' us g:=⟨upd_same,hinj,fun x hx=>by
     obtain⟨rs1,b1,b2,b3⟩:=hH3 x hx
     exact⟨rs1,n4 _ _ b1,b2.same n4,b3⟩⟩
    have u5:Same (hide [pr] (upd G3 pd (HO.dK (tab ad' us)))) (hide [pr] (upd (upd G3 pd (HO.dK (tab ad' us))) pr (HO.lst (rs.map V.ref++[V.ref pd])))):=yB (by simp)
    have hA5:=(HrAt.hide (st:=[pr]) hA4 (by simp[npd]) (fun x hx=>by simp[nap x hx]) fun b hb xs e=>by
     rw[List.mem_singleton.mp hb,sG4 _ _ hprG] at e
     cases e).same u5
    refine⟨_,rs++[pd],rfl,by rw[upd_same,List.map_append];rfl,Same.updF (sG.trans sG4) hpr,by simp[lrs],fun b hb=>(List.mem_append.mp hb).elim (frs b) (fun z=>by rw[List.mem_singleton.mp z];exact fpd),fun j y' hj'=>?_⟩
    by_cases hji:j<rs.length
    ·rw[List.getElem?_append_left hji] at hj'
     obtain⟨ad2,z2,z3⟩:=hrs j y' hj'
     exact⟨ad2,(z2.same (yY (st:=[pr]) sG4)).same u5,z3⟩
    ·rw[List.getElem?_append_right (by omega)] at hj'
     have ej:j=rs.length:=by
      have:=(List.getElem?_eq_some_iff.mp hj').1
      simp at this
      omega
     subst ej
     rw[Nat.sub_self] at hj'
     cases hj'
     rw[lrs,hus,hgz]
     exact⟨ad',hA5,fa⟩
  ·rintro σ G ⟨o3,rs,rfl,hprG,sG,lrs,frs,hrs⟩
   rw[List.length_map] at lrs
   refine⟨_,rfl,pw,rfl,⟨_,SqL.of (sG _ _ hpw)⟩,fun D hD _=>?_⟩
   refine yo (K:=K) (a:=pw) (xs:=ws.map V.ref) (fun i zs τ G'=>∃ (o:Option V) (qs:List Addr),τ=[o]∧zs=qs.map V.ref∧qs.length=i∧(∀ q∈qs,H q=none∧q≠D)∧(∀ (j:Nat) q q',ws[j]?=some q→qs[j]?=some q'→∀ kvs,H q=some (.dK kvs)→G' q'=some (.dK kvs))∧G' D=some (.lst zs)∧Same G G') ?_ ?_ ?_ ?_
   ·exact⟨none,[],rfl,rfl,rfl,(fun q hq=>nomatch hq),fun j q q' h h'=>by simp at h',upd_same,Same.new hD⟩
   ·rintro i zs τ G' ⟨o,qs,_,_,_,_,_,_,sm⟩
    exact SqL.of (sm _ _ (sG _ _ hpw))
   ·rintro i v zs τ G' hi ⟨o,qs,rfl,rfl,lq,fq,hq,hD',sm⟩
    obtain⟨q,hqi,rfl⟩:∃ q,ws[i]?=some q∧v=.ref q:=by
     rw[List.getElem?_map] at hi
     obtain⟨x,h1,h2⟩:=Option.map_eq_some_iff.mp hi
     exact⟨x,h1,h2.symm⟩
    obtain⟨kvs,hk⟩:=Fw q (List.mem_of_getElem? hqi)
    have hk':=sm _ _ (sG _ _ hk)
    have hil:=(List.getElem?_eq_some_iff.mp hqi).1
    refine gn_if ?_
    refine⟨_,rfl,q,kvs,rfl,hk',fun pd hpd=>?_⟩
    have n1:=Same.new (o:=HO.dK kvs) hpd
    have npd:pd≠D:=fun z=>by rw[z,hD'] at hpd;cases hpd
    have fpd:H pd=none:=(sG.trans sm).free hpd
    refine⟨n1 _ _ hD',by rw[List.length_map,lq];exact zm (by omega),some (.ref q),qs++[pd],rfl,by simp,by simp[lq],fun b hb=>(List.mem_append.mp hb).elim (fq b) (fun z=>by rw[List.mem_singleton.mp z];exact⟨fpd,npd⟩),fun j y y' hj hj' kvs' hk1=>?_,upd_same,Same.updF (sm.trans n1) hD⟩
    by_cases hji:j<qs.length
    ·rw[List.getElem?_append_left hji] at hj'
     rw[upd_ne (fq _ (List.mem_of_getElem? hj')).2]
     exact n1 _ _ (hq j y y' hj hj' kvs' hk1)
    ·rw[List.getElem?_append_right (by omega)] at hj'
     have ej:j=qs.length:=by
      have:=(List.getElem?_eq_some_iff.mp hj').1
      simp at this
      omega
     subst ej
     rw[Nat.sub_self] at hj'
     cases hj'
     rw[lq,hqi] at hj
     cases hj
     rw[hk] at hk1
     cases hk1
     rw[upd_ne npd]
     exact upd_same
   ·rintro zs τ G2 ⟨o,qs,rfl,rfl,lq,fq,hq,hD2,sm⟩
    rw[List.length_map] at lq
    refine⟨_,rfl,(by show 2≤sizeLine;decide),fun qd hqd=>?_⟩
    have n2:=Same.new (o:=HO.tup [V.ref D,V.ref pr]) hqd
    have s2:=sm.trans n2
    exact k qd D pr qs rs _ (sG.trans s2) upd_same (n2 _ _ hD2) (s2 _ _ hprG) (sG.free hD) hpr (fun q hq=>(fq q hq).1) frs lq lrs (fun j q q' h1 h2 kvs h3=>n2 _ _ (hq j q q' h1 h2 kvs h3)) fun j q' h2=>by
     obtain⟨ad',z2,z3⟩:=hrs j q' h2
     exact⟨ad',(z2.same yC).same s2,z3⟩
end
end K04
namespace K04
open PySem L2
open Classical in
noncomputable def hidc (p:Addr→Prop) (H:Hp):Hp:=fun b=>if p b then none else H b
section
variable {p:Addr→Prop}{H H':Hp}{b q:Addr}{o:HO}
theorem yi (n:¬ p b) (h:H b=some o):hidc p H b=some o:=by unfold hidc;rw[if_neg n];exact h
theorem uH (e:hidc p H b=some o):¬ p b∧H b=some o:=by
 unfold hidc at e
 split at e
 ·cases e
 ·exact⟨‹_›,e⟩
theorem Y1 (x:Same H H'):Same (hidc p H) (hidc p H'):=fun b o e=>by
 obtain⟨n,e'⟩:=uH e
 exact yi n (x b o e')
theorem HrAt.hidc {ad:Int→Addr}{hs:List Int}{g:Int→List (Int×Int)}(h:HrAt H q ad hs g) (nq:¬ p q) (na:∀ x∈hs,¬ p (ad x)) (nt:∀ b xs,H b=some (.tup xs)→¬ p b):HrAt (hidc p H) q ad hs g :=
 ⟨yi nq h.q,h.inj,fun x hx=>by
  obtain⟨rs,h1,h2,h3⟩:=h.at_ x hx
  exact⟨rs,yi (na x hx) h1,h2.mono fun b xs e=>yi (nt b xs e) e,h3⟩⟩
theorem RnP.copied {e2 e3 e4:Ex}{f0:Int→Int}{hs:List Int}{ls:List (Int×Int)}{n:Nat}{ws gs ws0 gs0 wsd gsd:List Addr}{H1:Hp}(R1:RnP H e2 e3 e4 f0 hs (List.replicate n (hs,ls)) ws gs0)
  (fw:∀ q∈wsd,¬ p q) (fg:∀ q∈gsd,¬ p q) (lw:wsd.length=ws.length) (lg:gsd.length=n) (nt:∀ b xs,H' b=some (.tup xs)→¬ p b)
  (cw:∀ (j:Nat) q q',ws[j]?=some q→wsd[j]?=some q'→∀ kvs,H q=some (.dK kvs)→H' q'=some (.dK kvs))
  (cg:∀ (j:Nat) q',gsd[j]?=some q'→∃ ad',HrAt H' q' ad' hs (hrd e2 e3 (hs,ls) (La e2 e3 e4 f0 (List.replicate n (hs,ls)) j) (j+1))∧∀ x∈hs,¬ p (ad' x)):RnP (hidc p H') e2 e3 e4 f0 hs (List.replicate n (hs,ls)) wsd gsd:=by
 have lwd:wsd.length=(List.replicate n (hs,ls)).length+1:=lw.trans R1.lw
 refine⟨lwd,by rw[lg,List.length_replicate],fun q e=>?_,fun k q r e e'=>?_,fun k q r e e'=>?_⟩
 ·have h0:0<ws.length:=by rw[R1.lw];omega
  exact yi (fw q (List.mem_of_getElem? e)) (cw 0 _ q (List.getElem?_eq_getElem h0) e _ (R1.z _ (List.getElem?_eq_getElem h0)))
 ·have hk:k+1<ws.length:=by
   have:=(List.getElem?_eq_some_iff.mp e).1
   omega
  exact yi (fw q (List.mem_of_getElem? e)) (cw (k+1) _ q (List.getElem?_eq_getElem hk) e _ (R1.w k _ r (List.getElem?_eq_getElem hk) e'))
 ·obtain⟨ad,hA,fr⟩:=cg k q e
  have er:r=(hs,ls):=by
   rw[List.getElem?_replicate] at e'
   split at e'
   ·cases e';rfl
   ·cases e'
  subst er
  exact⟨ad,hA.hidc (fg q (List.mem_of_getElem? e)) fr nt⟩
end
theorem ProgAt.mono {a:Ad}{H H':Hp}{e1 e2 e3 e4:Ex}{r:V}(s:∀ b C dx fs,H b=some (.ins C dx fs)→H' b=some (.ins C dx fs)) (h:ProgAt a H e1 e2 e3 e4 r):ProgAt a H' e1 e2 e3 e4 r:=by
 obtain⟨p,dx,r1,r2,r3,r4,e,hp,⟨⟨a1,b1⟩,⟨a2,b2⟩,⟨a3,b3⟩,⟨a4,b4⟩,z⟩⟩:=h
 exact⟨p,dx,r1,r2,r3,r4,e,s _ _ _ _ hp,⟨⟨a1.mono s,b1⟩,⟨a2.mono s,b2⟩,⟨a3.mono s,b3⟩,⟨a4.mono s,b4⟩,z⟩⟩
theorem vb {hs ns:List Int}(W:Hs hs) (pm:ns.Perm hs) (sd:ns.Pairwise (· ≤ ·)):ns=hs:=pm.eq_of_pairwise (le:=(· ≤ ·)) (fun a b _ _ h1 h2=>Int.le_antisymm h1 h2) sd (W.up.imp fun {a b} h=>Int.le_of_lt h)
end K04
namespace K04
open PySem L2
open L2.Srt (wn WV)
theorem Ext.fr {l:Addr}{H H' H2:Hp}(k:Ext l H' H2) (s:Same H H') (h:H l=none):Same H H2:=fun b o e=>k b o (s b o e) (ne_of_none e h)
theorem zup {K:PySem.W.Frag}{H H':Hp}{a:Addr}{xs:List V}(h:SqL K H a xs) (s:Same H H'):SqL K H' a xs:=by
 rcases h with(h | ⟨o,h⟩) | h
 ·exact .inl (.inl (s _ _ h))
 ·exact .inl (.inr ⟨o,s _ _ h⟩)
 ·exact .inr h
theorem RnP.plainW {H:Hp}{e2 e3 e4:Ex}{f0:Int→Int}{hs:List Int}{ls:List (Int×Int)}{n:Nat}{ws gs:List Addr}(R:RnP H e2 e3 e4 f0 hs (List.replicate n (hs,ls)) ws gs) (l:hs.length≤12):∀ q∈ws,∃ (f:Int→Int) (us:List Int),H q=some (.dK (tabI f us))∧us.length≤12:=fun q hq=>by
 obtain⟨j,hj,rfl⟩:=List.getElem_of_mem hq
 have lw:=R.lw
 rw[List.length_replicate] at lw
 cases j with
 |zero=>exact⟨_,_,R.z _ (List.getElem?_eq_getElem hj),l⟩
 |succ j=>exact⟨_,_,R.w j _ (hs,ls) (List.getElem?_eq_getElem hj) (by rw[List.getElem?_replicate,if_pos (by omega)]),l⟩
theorem RnP.plainG {H:Hp}{e2 e3 e4:Ex}{f0:Int→Int}{hs:List Int}{ls:List (Int×Int)}{n:Nat}{ws gs:List Addr}(R:RnP H e2 e3 e4 f0 hs (List.replicate n (hs,ls)) ws gs) (l:hs.length≤12):∀ q∈gs,∃ (ad:Int→Addr) (us:List Int) (g:Int→List (Int×Int)),HrAt H q ad us g∧us.length≤12:=fun q hq=>by
 obtain⟨j,hj,rfl⟩:=List.getElem_of_mem hq
 have lg:=R.lg
 rw[List.length_replicate] at lg
 obtain⟨ad,hA⟩:=R.g j _ (hs,ls) (List.getElem?_eq_getElem hj) (by rw[List.getElem?_replicate,if_pos (by omega)])
 exact⟨ad,_,_,hA,l⟩
section
variable {P:Program}{w:World}{K:PySem.W.Frag}{mg:Str→Option Value}{base:Heap}{a:Ad}
def spLaw (K:PySem.W.Frag):Sp:=fun vs H Q _=>∃ (a:Addr) (ns:List Int),vs=[.ref a]∧SqL K H a (ns.map V.int)∧ns.length≤63∧∀ H',Q (.bl true) H'
theorem sp_law_of {K:PySem.W.Frag}{H:Hp}{a:Addr}{ns:List Int}(hl:ns.length≤63) (hO:zhi H) (hS:SqL K H a (ns.map V.int)):spLaw K [.ref a] H (fun v _=>v=.bl true) fun _ _ _=>False:=⟨a,ns,rfl,hS,hl,fun _=>rfl⟩
theorem ok_law (T:Txt w K mg a):FnOk P w K mg base CX0 26 a.f_qE a.d_qE ["_law_script"] (spLaw K):=by
 have c_qt:Callee P w K mg base "_law_cell_at" a.f_qt a.d_qt ["_law_script", "_law_k"] 1 (WU K):=⟨VP T,T.g_qt,T.F_qt.kp,T.b_qt⟩
 have c_qu:Callee P w K mg base "_law_draws" a.f_qu a.d_qu ["_law_cell", "_law_many"] 1 vM:=⟨uA T,T.g_qu,T.F_qu.kp,T.b_qu⟩
 have c_qv:Callee P w K mg base "_law_take" a.f_qv a.d_qv ["_law_xs", "_law_size"] 1 wa:=⟨xJ T,T.g_qv,T.F_qv.kp,T.b_qv⟩
 have c_qw:Callee P w K mg base "_law_hands" a.f_qw a.d_qw ["_law_xs", "_law_most"] 2 zuw:=⟨zj4 T,T.g_qw,T.F_qw.kp,T.b_qw⟩
 have c_qx:Callee P w K mg base "_law_lines" a.f_qx a.d_qx ["_law_xs", "_law_hands_here"] 2 zuv:=⟨zj3 T,T.g_qx,T.F_qx.kp,T.b_qx⟩
 have c_qz:Callee P w K mg base "_law_program" a.f_qz a.d_qz ["_law_cell"] 6 zuu:=⟨zj2 T,T.g_qz,T.F_qz.kp,T.b_qz⟩
 have c_qC:Callee P w K mg base "_law_program_made" a.f_qC a.d_qC ["_law_program_here"] 24 (zus a):=⟨zj0 T,T.g_qC,T.F_qC.kp,T.b_qC⟩
 have c_qD:Callee P w K mg base "_law_copied" a.f_qD a.d_qD ["_law_worths", "_law_heard"] 1 zuD:=⟨zj8 T,T.g_qD,T.F_qD.kp,T.b_qD⟩
 have c_qg:Callee P w K mg base "plain_worths" a.f_qg a.d_qg ["web", "program", "rounds"] 14 (zur a):=⟨zjZ T,T.g_qg,T.F_qg.kp,T.b_qg⟩
 have c_qh:Callee P w K mg base "plain_heard" a.f_qh a.d_qh ["web", "program", "rounds"] 14 (zut a):=⟨zj1 T,T.g_qh,T.F_qh.kp,T.b_qh⟩
 have m_Web:Maker P w K mg base "Web" a.c_Web a.f_qY a.d_qY ["self", "hands", "lines"] 4 (zfr a):=⟨zfY T,T.g_Web,T.mk_Web,T.b_qY⟩
 refine T.F_qE.ok sc_qE (fun vs H Q E h=>?_) (fun cdv A outer s H vs Q E hr h=>?_)
 ·obtain⟨x,ns,rfl,_⟩:=h
  rfl
 ·obtain⟨sc,ns,rfl,hS,hlen,k⟩:=h
  have hu:=xp hr
  have un:∀ n:Nat,n≤8→(A.deeper (PyProof.Rows.envOfC "law" (defScope uU) s.heap.objs.size a.f_qE cdv)).units+n+2<cLine:=fun n hn=>by
   have:=hr.units
   omega
  refine zB (w_pss_cons (zi (i:=1) sc_qE.nd rfl (Or.inl rfl) (zj c_qu (hr.mono (by omega)) (zx (zj c_qt (hr.mono (by omega)) (w_pa_N (w_pv 0) (zl zd w_pa_nil))) (zl zd w_pa_nil))))
   (w_pss_cons (zi (i:=2) sc_qE.nd rfl (Or.inl rfl) (zj c_qw (hr.mono (by omega)) (w_pa_N (w_pv 1) (zl zd w_pa_nil))))
   (w_pss_cons (zi (i:=3) sc_qE.nd rfl (Or.inl rfl) (zj c_qx (hr.mono (by omega)) (w_pa_N (w_pv 1) (w_pa_N (w_pv 2) w_pa_nil))))
   (w_pss_cons (zi (i:=4) sc_qE.nd rfl (Or.inl rfl) (zj c_qv (hr.mono (by omega)) (w_pa_N (w_pv 1) (zl zd w_pa_nil))))
   (w_pss_cons (zi (i:=5) sc_qE.nd rfl (Or.inl rfl) (zj c_qC (hr.mono (by omega)) (zx (zj c_qz (hr.mono (by omega)) (zx (zj c_qt (hr.mono (by omega)) (w_pa_N (w_pv 0) (zl zd w_pa_nil))) w_pa_nil)) w_pa_nil)))
   (w_pss_cons (zi (i:=6) sc_qE.nd rfl (Or.inl rfl) (zj c_qC (hr.mono (by omega)) (zx (zj c_qz (hr.mono (by omega)) (zx (zj c_qt (hr.mono (by omega)) (w_pa_N (w_pv 0) (zl zd w_pa_nil))) w_pa_nil)) w_pa_nil)))
   (w_pss_cons (zi (i:=7) sc_qE.nd rfl (Or.inl rfl) (xm m_Web (hr.mono (by omega)) (w_pa_N (w_pv 2) (w_pa_N (w_pv 3) w_pa_nil))))
   (w_pss_cons (zi (i:=8) sc_qE.nd rfl (Or.inl rfl) (w_pe_callB wm (by rfl) T.n_sorted y0 (w_pa_N (w_pv 2) w_pa_nil)))
   (w_pss_cons (zy (zV PySem.F.plainAttrs_list PySem.F.slot_list_append PySem.F.type_list_append zC (w_pv 2) (zae (wp wX zd) w_pa_nil)))
   (w_pss_cons (zy (XN PySem.F.plainAttrs_list PySem.F.slot_list_clear PySem.F.type_list_clear Wn (w_pv 3)))
   (w_pss_cons (zi (i:=9) sc_qE.nd rfl (Or.inl rfl) (zj c_qg (hr.mono (by omega)) (w_pa_N (w_pv 7) (w_pa_N (w_pv 5) (w_pa_N (w_pv 4) w_pa_nil)))))
   (w_pss_cons (zi (i:=10) sc_qE.nd rfl (Or.inl rfl) (zj c_qh (hr.mono (by omega)) (w_pa_N (w_pv 7) (w_pa_N (w_pv 5) (w_pa_N (w_pv 4) w_pa_nil)))))
   (w_pss_cons (zi (i:=11) sc_qE.nd rfl (Or.inl rfl) (zj c_qD (hr.mono (by omega)) (w_pa_N (w_pv 9) (w_pa_N (w_pv 10) w_pa_nil))))
   (w_pss_cons (zy (zj c_qg (hr.mono (by omega)) (zx (xm m_Web (hr.mono (by omega)) (w_pa_N (w_pv 8) (zf (zr w_pa_nil) w_pa_nil))) (w_pa_N (w_pv 6) (zl zd w_pa_nil)))))
   (w_pss_cons (zO PassesOwn.never rfl (zE (w_pv 9)) (zt (i:=12) sc_qE.nd rfl (Or.inl rfl))
    (ze (zy (wS (w_pv 12)))))
   (w_pss_cons (zO PassesOwn.never rfl (zE (w_pv 10)) (zt (i:=12) sc_qE.nd rfl (Or.inl rfl))
    (w_pss_cons (Zl PassesOwn.never rfl (w_pv 12) (zt (i:=13) sc_qE.nd rfl (Or.inl rfl))
     (ze (zy (zV PySem.F.plainAttrs_list PySem.F.slot_list_append PySem.F.type_list_append zC (w_pv 13) (wT (zF (zl zd (zl zd w_pa_nil))) w_pa_nil)))))
    (ze (zy (wS (w_pv 12))))))
   (w_pss_cons (zy (zV PySem.F.plainAttrs_list PySem.F.slot_list_append PySem.F.type_list_append zC (w_pv 9) (zf xa w_pa_nil)))
   (w_pss_cons (zy (zV PySem.F.plainAttrs_list PySem.F.slot_list_append PySem.F.type_list_append zC (w_pv 10) (zf xa w_pa_nil)))
   (w_pss_cons (w_ps_if (w_pt_cmpR YH (zF (zx (zj c_qg (hr.mono (by omega)) (w_pa_N (w_pv 7) (w_pa_N (w_pv 5) (w_pa_N (w_pv 4) w_pa_nil)))) (zx (zj c_qh (hr.mono (by omega)) (w_pa_N (w_pv 7) (w_pa_N (w_pv 5) (w_pa_N (w_pv 4) w_pa_nil)))) w_pa_nil))) (w_pv 11) (zv _))
    (ze (zg yK))
    zk)
   (w_pss_cons (zi (i:=14) sc_qE.nd rfl (Or.inl rfl) (zj c_qg (hr.mono (by omega)) (w_pa_N (w_pv 7) (w_pa_N (w_pv 5) (zl zd w_pa_nil)))))
   (w_pss_cons (w_ps_if (ziw (Zj (w_pt_cmpR YH (w_pv 14) (y9 vN (zq zH (w_pv 11) zd (fun _ _=>rfl)) xB (xA zd)) (zv _)) (ug (w_pt_cmpR YH (zj c_qh (hr.mono (by omega)) (w_pa_N (w_pv 7) (w_pa_N (w_pv 5) (zl zd w_pa_nil)))) (zr w_pa_nil) (zv _)))))
    (ze (zg yK))
    zk)
   (ze (zg (zX (zG yr (w_pe_callB zn (by rfl) T.n_len zU (zf (zq zH (w_pv 11) zd (fun _ _=>rfl)) w_pa_nil)) (zh ym (w_pv 4) zd) (zv _)) (zX (zG yr (w_pe_callB zn (by rfl) T.n_len zU (zf (zq zH (w_pv 11) zd (fun _ _=>rfl)) w_pa_nil)) (w_pv 4) (zv _)) (zW (zG W3 (w_pe_callB wn (by rfl) T.n_sorted y0 (zf (zq zN (zq zH (w_pv 11) zd (fun _ _=>rfl)) zd (fun _ _=>rfl)) w_pa_nil)) (w_pv 8) (zv _)))))))))))))))))))))))))))) ?_
  refine⟨_,rfl,sc,ns,0,rfl,hS,by decide,fun c0=>⟨c0,60,rfl,by decide,fun l H1 hl0 s1 y1=>?_⟩⟩
  refine⟨_,rfl,l,rfl,s1,fun h hs H2 hh0 hh wh s2 x2=>?_⟩
  have hne:=s1.ne hh0
  refine⟨_,rfl,_,rfl,l,h,hs,rfl,s2,hh,hne,wh,fun q rs ls H3 hq0 hq L wl s3 x3=>?_⟩
  have hh3:=x3 _ _ hh hne
  have hql:=s2.ne hq0
  refine⟨_,rfl,l,6,rfl,s3,by decide,fun n H4 hn0 hn6 s4 x4=>?_⟩
  obtain⟨n,rfl⟩:∃ m:Nat,n=m:=⟨n.toNat,by omega⟩
  have S4:Same H H4:=((x2.trans x3).trans x4).fr y1 hl0
  have hh4:=x4 _ _ hh3 hne
  have hq4:=x4 _ _ hq hql
  refine⟨_,rfl,sc,ns,1,rfl,zup hS S4,by decide,fun c1=>⟨c1,rfl,fun q5 v1 v2 v3 v4 e1 e2 e3 e4 H5 hq5 F5 s5=>⟨q5,v1,v2,v3,v4,e1,e2,e3,e4,rfl,hq5,F5,fun r H6 hP s6=>?_⟩⟩⟩
  have s46:=s5.trans s6
  refine⟨_,rfl,sc,ns,2,rfl,zup hS (S4.trans s46),by decide,fun c2=>⟨c2,rfl,fun q7 u1 u2 u3 u4 d1 d2 d3 d4 H7 hq7 F7 s7=>⟨q7,u1,u2,u3,u4,d1,d2,d3,d4,rfl,hq7,F7,fun r2 H8 hP2 s8=>?_⟩⟩⟩
  have s68:=s7.trans s8
  have s48:=s46.trans s68
  have hh8:=s48 _ _ hh4
  have hq8:=s48 _ _ hq4
  have L8:LnAt H8 rs ls:=(L.mono fun b xs e=>x4 _ _ e fun z=>by
   obtain⟨ms,e',_⟩:=s3
   rw[z,e'] at e
   cases e).same s48
  have hP8:=ProgAt.same s68 hP
  refine⟨_,rfl,_,rfl,fun x dx nx ndx nex=>?_⟩
  have m9:Same H8 (upd (upd H8 dx (.own x)) x (.ins a.c_Web dx [])):=(Same.new ndx).updF nx
  refine⟨x,dx,h,q,rs,hs,ls,rfl,upd_same,m9 _ _ hh8,m9 _ _ hq8,L8.same m9,wh,wl,fun oh ol d ad H9 foh fd fad x9 W9=>?_⟩
  have s9:Same H8 H9:=fun b o e=>x9 b o (m9 b o e) (ne_of_none e nx)
  refine⟨rfl,?_⟩
  have hh9:=s9 _ _ hh8
  have hq9:=s9 _ _ hq8
  have hP9:=ProgAt.same s9 hP8
  have hP29:=ProgAt.same s9 hP2
  have nhq:h≠q:=fun z=>by rw[← z,hh] at hq0;cases hq0
  have l12:=wh.l12
  -- kept
  refine⟨_,rfl,h,hs,rfl,SqL.of hh9,by omega,fun pk ms hpk pm sd=>?_⟩
  have ems:=vb wh pm sd
  subst ems
  have n10:=Same.new (o:=HO.lst (ms.map V.int)) hpk
  have hh10:=n10 _ _ hh9
  have hq10:=n10 _ _ hq9
  have nkh:pk≠h:=fun z=>by rw[z,hh9] at hpk;cases hpk
  have nkq:pk≠q:=fun z=>by rw[z,hq9] at hpk;cases hpk
  have hpk10:=upd_same (H:=H9) (a:=pk) (o:=HO.lst (ms.map V.int))
  generalize hH10:upd H9 pk (HO.lst (ms.map V.int))=H10 at *
  refine⟨_,rfl,.inl ⟨rfl,_,SqL.of hh10⟩,_,rfl,h,_,_,rfl,rfl,hh10,(by rw[List.length_map];exact zm (by omega)),?_⟩
  have hq11:(upd H10 h (HO.lst (ms.map V.int++[V.int (-5)]))) q=_:=(upd_ne nhq.symm).trans hq10
  refine⟨_,rfl,.inl ⟨rfl,_,SqL.of hq11⟩,q,_,rfl,rfl,hq11,?_⟩
  have nhx:∀ {b:Addr}{o:HO},H8 b=some o→b≠x:=fun e=>ne_of_none e nx
  have W10:=W9.same n10
  have W11:=((WebAt.hide (l:=h) W10 (nhx hh8) (ne_of_none (m9 _ _ hh8) foh) (ne_of_none (m9 _ _ hh8) fd) (fun y hy=>ne_of_none (m9 _ _ hh8) (fad y hy))).same (yB (p:=h) (o:=HO.lst (ms.map V.int++[V.int (-5)])) (by simp))).same yC
  have W12:=((WebAt.hide (l:=q) W11 (nhx hq8) (ne_of_none (m9 _ _ hq8) foh) (ne_of_none (m9 _ _ hq8) fd) (fun y hy=>ne_of_none (m9 _ _ hq8) (fad y hy))).same (yB (p:=q) (o:=HO.lst []) (by simp))).same yC
  have ki:∀ b C dx fs,H10 b=some (.ins C dx fs)→(upd (upd H10 h (HO.lst (ms.map V.int++[V.int (-5)]))) q (HO.lst [])) b=some (.ins C dx fs):=fun b C dx fs e=>by
   rw[upd_ne (fun z=>by rw[z,hq10] at e;cases e),upd_ne (fun z=>by rw[z,hh10] at e;cases e)]
   exact e
  have hP12:=ProgAt.mono ki (ProgAt.same n10 hP9)
  have hP212:=ProgAt.mono ki (ProgAt.same n10 hP29)
  have hpk12:(upd (upd H10 h (HO.lst (ms.map V.int++[V.int (-5)]))) q (HO.lst [])) pk=some (.lst (ms.map V.int)):=by
   rw[upd_ne nkq,upd_ne nkh]
   exact hpk10
  generalize upd (upd H10 h (HO.lst (ms.map V.int++[V.int (-5)]))) q (HO.lst [])=H12 at *
  have Wb:WbP a H12 x ms ls:=⟨wh,wl,dx,oh,ol,d,ad,W12⟩
  clear W9 W10 W11 hP9 hP29 hP8 hP ki hh10 hq10 hq11 hpk10 n10 nkh nkq nhx hpk hh9 hq9
  refine⟨_,rfl,_,rfl,_,rfl,x,ms,ls,r,e1,e2,e3,e4,n,rfl,Wb,hP12,by omega,fun pw ws gs0 H13 fpw fws s13 hpw R1=>?_⟩
  refine⟨_,rfl,_,rfl,_,rfl,x,ms,ls,r,e1,e2,e3,e4,n,rfl,Wb.same s13,ProgAt.same s13 hP12,by omega,fun pg ws0 gs H14 fpg fgs fr s14 hpg R2=>?_⟩
  have lw:=R1.lw
  have lg:=R2.lg
  rw[List.length_replicate] at lw lg
  have R1':=R1.same s14
  have hpw14:=s14 _ _ hpw
  refine⟨_,rfl,_,rfl,pw,pg,ws,gs,fun j=>(ms,hrd e2 e3 (ms,ls) (La e2 e3 e4 (w0 ms ls e1) (List.replicate n (ms,ls)) j) (j+1)),rfl,hpw14,hpg,by omega,by omega,fun b hb=>?_,fun j b hb=>?_,fun qd pwd pgd wsd gsd H15 s15 hqd hpwd hpgd fpwd fpgd fwsd fgsd lwd lgd cw cg=>?_⟩
  ·obtain⟨f,us,h1,_⟩:=R1'.plainW l12 b hb
   exact⟨_,h1⟩
  ·obtain⟨adj,hA⟩:=R2.g j b (ms,ls) hb (by rw[List.getElem?_replicate,if_pos (by have:=(List.getElem?_eq_some_iff.mp hb).1;omega)])
   exact⟨adj,hA,v8 wh,l12⟩
  -- the second web
  have hpk15:=s15 _ _ (s14 _ _ (s13 _ _ hpk12))
  have hP215:=ProgAt.same s15 (ProgAt.same s14 (ProgAt.same s13 hP212))
  refine⟨_,rfl,(by show 0≤sizeLine;decide),fun pe hpe=>?_⟩
  have n16:=Same.new (o:=HO.lst []) hpe
  refine fun x2 dx2 nx2 ndx2 nex2=>?_
  have m17:Same (upd H15 pe (HO.lst [])) (upd (upd (upd H15 pe (HO.lst [])) dx2 (.own x2)) x2 (.ins a.c_Web dx2 [])):=(Same.new ndx2).updF nx2
  have wl0:Ls ms []:=⟨List.nodup_nil,(fun p hp=>nomatch hp),Nat.zero_le _⟩
  refine⟨x2,dx2,pk,pe,[],ms,[],rfl,upd_same,m17 _ _ (n16 _ _ hpk15),m17 _ _ upd_same,⟨rfl,fun i r q e=>by cases e⟩,wh,wl0,fun oh2 ol2 dn2 ad2 H17 _ _ _ x17 W17=>?_⟩
  have s17:Same (upd H15 pe (HO.lst [])) H17:=fun b o e=>x17 b o (m17 b o e) (ne_of_none e nx2)
  refine⟨rfl,?_⟩
  have s157:=n16.trans s17
  refine⟨_,rfl,x2,ms,[],r2,d1,d2,d3,d4,3,rfl,⟨wh,wl0,dx2,oh2,ol2,dn2,ad2,W17⟩,ProgAt.same s157 hP215,by decide,fun pw2 ws2 gs2 H18 _ _ s18 _ _=>?_⟩
  have s158:=s157.trans s18
  -- what may change from here on
  have P0:∃ p:Addr→Prop,∀ b,p b↔∃ o,H14 b=some o∧(∀ xs,o≠.tup xs)∧H12 b=none:=⟨_,fun _=>Iff.rfl⟩
  obtain⟨p,hp⟩:=P0
  have pn:∀ {b:Addr},H14 b=none→¬ p b:=fun e z=>by
   obtain⟨o,e',_⟩:=(hp _).mp z
   rw[e] at e';cases e'
  have pWs:∀ b∈ws,p b:=fun b hb=>by
   obtain⟨f,us,h1,_⟩:=R1'.plainW l12 b hb
   exact(hp _).mpr ⟨_,h1,(fun xs z=>by cases z),fws b hb⟩
  have pGs:∀ b∈gs,p b:=fun b hb=>by
   obtain⟨adj,us,g,h1,_⟩:=R2.plainG l12 b hb
   exact(hp _).mpr ⟨_,h1.q,(fun xs z=>by cases z),s13.free (fgs b hb)⟩
  have ppw:p pw:=(hp _).mpr ⟨_,hpw14,(fun xs z=>by cases z),fpw⟩
  have ppg:p pg:=(hp _).mpr ⟨_,hpg,(fun xs z=>by cases z),s13.free fpg⟩
  have rowF:∀ b,(∃ q∈gs,∃ kvs,H14 q=some (.dK kvs)∧∃ kv∈kvs,kv.2=V.ref b)→H13 b=none∧b≠pg∧∃ xs,H14 b=some (.lst xs)∧xs.length≤100:=by
   rintro b ⟨q,hq,kvs,h1,kv,h2,h3⟩
   obtain⟨kvs',h1',z⟩:=fr q hq
   obtain⟨adj,us,g,hA,_⟩:=R2.plainG l12 q hq
   rw[h1] at h1'
   cases h1'
   have ht:=hA.q
   rw[h1] at ht
   have ht:kvs=tab adj us:=by injection ht with ht;injection ht
   rw[ht] at h2
   obtain⟨y,hy,rfl⟩:=ul h2
   injection h3 with h3
   subst h3
   obtain⟨rs,a1,a2,a3⟩:=hA.at_ y hy
   exact⟨(z _ (ht ▸ h2) _ rfl).1,(z _ (ht ▸ h2) _ rfl).2,rs,a1,a3⟩
  have RE:RnP (hidc p H18) e2 e3 e4 (w0 ms ls e1) ms (List.replicate n (ms,ls)) wsd gsd:=by
   refine(RnP.copied (p:=p) (H:=H14) (H':=H15) (ws0:=ws) (gs:=gs) (gs0:=gs0) (H1:=H14) R1' (fun b hb=>pn (fwsd b hb)) (fun b hb=>pn (fgsd b hb)) lwd (lgd.trans lg) (fun b xs e z=>?_) cw (fun j q' hj=>?_)).same (Y1 s158)
   ·obtain⟨o,e',no,_⟩:=(hp _).mp z
    rw[s15 _ _ e'] at e
    injection e with e
    exact no xs e
   ·obtain⟨ad',a1,a2⟩:=cg j q' hj
    exact⟨ad',a1,fun y hy=>pn (a2 y hy)⟩
  have s18':=s15.trans s158
  have hpw18:=s18' _ _ hpw14
  have hpg18:=s18' _ _ hpg
  refine⟨_,rfl,pw,rfl,⟨_,SqL.of hpw18⟩,?_⟩
  refine zR (xs:=ws.map V.ref) (fun i σ G=>∃ o12:Option V,σ=[some (.ref sc),some (.ref l),some (.ref h),some (.ref q),some (.int (n:Int)),some r,some r2,some (.ref x),some (.ref pk),some (.ref pw),some (.ref pg),some (.ref qd),o12,none,none]∧(∀ b,b∉ws→G b=H18 b)∧∀ b∈ws,∃ kvs,G b=some (.dK kvs)) ?_ ?_ ?_ ?_
  ·exact⟨none,rfl,fun b _=>rfl,fun b hb=>by
    obtain⟨f,us,h1,_⟩:=R1'.plainW l12 b hb
    exact⟨_,s18' _ _ h1⟩⟩
  ·rintro i σ G hi ⟨o12,_,g1,g2⟩
   refine SqL.of ((g1 pw fun hb=>?_).trans hpw18)
   obtain⟨f,us,h1,_⟩:=R1'.plainW l12 pw hb
   rw[hpw14] at h1;cases h1
  ·rintro i v σ G hi ⟨o12,rfl,g1,g2⟩
   obtain⟨b,hb,rfl⟩:=List.mem_map.mp (List.mem_of_getElem? hi)
   obtain⟨kvs,hk⟩:=g2 b hb
   refine⟨_,rfl,b,kvs,rfl,hk,?_⟩
   refine⟨_,rfl,fun c hc=>?_,fun c hc=>?_⟩
   ·rw[upd_ne (fun z=>hc (by rw[z];exact hb))]
    exact g1 c hc
   ·by_cases z:c=b
    ·rw[z];exact⟨_,upd_same⟩
    ·rw[upd_ne z];exact g2 c hc
  ·rintro σ G ⟨o12,rfl,g1,g2⟩
   have R0:∃ row:Addr→Prop,∀ b,row b↔(∃ q∈gs,∃ kvs,H14 q=some (.dK kvs)∧∃ kv∈kvs,kv.2=V.ref b):=⟨_,fun _=>Iff.rfl⟩
   obtain⟨row,hrow⟩:=R0
   have rowF:∀ b,row b→H13 b=none∧b≠pg∧∃ xs,H14 b=some (.lst xs)∧xs.length≤100:=fun b hb=>rowF b ((hrow b).mp hb)
   have oW:∀ {b:Addr},H13 b=none→b∉ws:=fun e hb=>by
    obtain⟨f,us,h1,_⟩:=R1.plainW l12 _ hb
    rw[e] at h1;cases h1
   have hpgG:G pg=some (.lst (gs.map V.ref)):=(g1 pg (oW fpg)).trans hpg18
   have hpwG:G pw=some (.lst (ws.map V.ref)):=(g1 pw fun hb=>by
    obtain⟨f,us,h1,_⟩:=R1'.plainW l12 pw hb
    rw[hpw14] at h1;cases h1).trans hpw18
   have nrp:¬ row pg:=fun z=>(rowF _ z).2.1 rfl
   have ngp:pg∉gs:=fun hb=>by
    obtain⟨adj,us,g,h1,_⟩:=R2.plainG l12 pg hb
    have:=h1.q
    rw[hpg] at this;cases this
   refine⟨_,rfl,pg,rfl,⟨_,SqL.of hpgG⟩,?_⟩
   refine zR (xs:=gs.map V.ref) (fun i σ G2=>∃ o12 o13:Option V,σ=[some (.ref sc),some (.ref l),some (.ref h),some (.ref q),some (.int (n:Int)),some r,some r2,some (.ref x),some (.ref pk),some (.ref pw),some (.ref pg),some (.ref qd),o12,o13,none]∧(∀ b o,b∉gs→¬ row b→G b=some o→G2 b=some o)∧(∀ b,row b→∃ xs,G2 b=some (.lst xs)∧xs.length≤100+12*i)∧∀ b∈gs,∃ kvs,G2 b=some (.dK kvs)∧(kvs=[]∨H14 b=some (.dK kvs))) ?_ ?_ ?_ ?_
   ·refine⟨o12,none,rfl,fun b o _ _ e=>e,fun b hb=>?_,fun b hb=>?_⟩
    ·obtain⟨a1,_,xs,a2,a3⟩:=rowF b hb
     exact⟨xs,(g1 b (oW a1)).trans (s18' _ _ a2),by omega⟩
    ·obtain⟨adj,us,g,h1,_⟩:=R2.plainG l12 b hb
     exact⟨_,(g1 b (oW (fgs b hb))).trans (s18' _ _ h1.q),.inr h1.q⟩
   ·rintro i σ G2 hi ⟨o12,o13,_,a1,_⟩
    exact SqL.of (a1 _ _ ngp nrp hpgG)
   ·rintro i v σ G2 hi ⟨o12,o13,rfl,a1,a2,a3⟩
    obtain⟨b,hb,rfl⟩:=List.mem_map.mp (List.mem_of_getElem? hi)
    obtain⟨kvs,hk,hkv⟩:=a3 b hb
    have hil:i<gs.length:=by have:=(List.getElem?_eq_some_iff.mp hi).1;rw[List.length_map] at this;exact this
    have nrb:∀ c,row c→c≠b:=fun c hc z=>by
     obtain⟨xs,e,_⟩:=a2 c hc
     rw[z,hk] at e;cases e
    have ref:∀ kv∈kvs,∃ c,kv.2=V.ref c∧row c:=fun kv hm=>by
     rcases hkv with z | z
     ·rw[z] at hm;cases hm
     ·obtain⟨adj,us,g,h1,_⟩:=R2.plainG l12 b hb
      have ht:=h1.q
      rw[z] at ht
      have ht:kvs=tab adj us:=by injection ht with ht;injection ht
      have hm':=hm
      rw[ht] at hm'
      obtain⟨y,hy,e⟩:=ul hm'
      exact⟨adj y,by rw[e],(hrow _).mpr ⟨b,hb,kvs,z,kv,hm,by rw[e]⟩⟩
    have lk:kvs.length≤12:=by
     rcases hkv with z | z
     ·rw[z];exact Nat.zero_le _
     ·obtain⟨adj,us,g,h1,l1⟩:=R2.plainG l12 b hb
      have ht:=h1.q
      rw[z] at ht
      have ht:kvs=tab adj us:=by injection ht with ht;injection ht
      rw[ht];unfold tab;rw[List.length_map];exact l1
    refine⟨_,rfl,b,kvs,rfl,hk,fun od=>?_⟩
    refine WF (d:=b) (od:=od) (kvs:=kvs) (fun j σ G3=>∃ o13:Option V,σ=[some (.ref sc),some (.ref l),some (.ref h),some (.ref q),some (.int (n:Int)),some r,some r2,some (.ref x),some (.ref pk),some (.ref pw),some (.ref pg),some (.ref qd),some (.ref b),o13,none]∧G3 b=some (.frz od (.dK kvs))∧(∀ c o,c≠b→¬ row c→G2 c=some o→G3 c=some o)∧∀ c,row c→∃ xs,G3 c=some (.lst xs)∧xs.length≤100+12*i+j) ?_ ?_ ?_ ?_
    ·refine⟨o13,rfl,upd_same,fun c o z _ e=>by rw[upd_ne z];exact e,fun c hc=>?_⟩
     obtain⟨xs,e,le⟩:=a2 c hc
     exact⟨xs,by rw[upd_ne (nrb c hc)];exact e,by omega⟩
    ·rintro j σ G3 ⟨o13,_,e,_⟩
     exact e
    ·rintro j kv σ G3 hj ⟨o13,rfl,f1,f2,f3⟩
     obtain⟨c,ec,hc⟩:=ref kv (List.mem_of_getElem? hj)
     obtain⟨xs,ex,lx⟩:=f3 c hc
     have hjl:=(List.getElem?_eq_some_iff.mp hj).1
     rw[ec]
     refine⟨_,rfl,.inl ⟨rfl,_,SqL.of ex⟩,(by show 2≤sizeLine;decide),fun pt hpt=>?_⟩
     have n4:=Same.new (o:=HO.tup [V.int 0,V.int 0]) hpt
     refine⟨c,xs,_,rfl,rfl,n4 _ _ ex,zm (by omega),?_⟩
     refine⟨_,rfl,?_,fun c' o z nr e=>?_,fun c' hc'=>?_⟩
     ·rw[upd_ne (nrb c hc).symm]
      exact n4 _ _ f1
     ·rw[upd_ne (fun(z:c'=c)=>nr (by rw[z];exact hc))]
      exact n4 _ _ (f2 c' o z nr e)
     ·by_cases z:c'=c
      ·rw[z,upd_same]
       exact⟨_,rfl,by simp;omega⟩
      ·obtain⟨xs',ex',lx'⟩:=f3 c' hc'
       rw[upd_ne z]
       exact⟨xs',n4 _ _ ex',by omega⟩
    ·rintro σ G3 ⟨o13,rfl,f1,f2,f3⟩
     refine⟨_,rfl,b,kvs,rfl,upd_same,?_⟩
     refine⟨_,_,rfl,fun c o z nr e=>?_,fun c hc=>?_,fun c hc=>?_⟩
     ·have nb:c≠b:=fun e=>z (e ▸ hb)
      rw[upd_ne nb,upd_ne nb]
      exact f2 c o nb nr (a1 c o z nr e)
     ·obtain⟨xs,ex,lx⟩:=f3 c hc
      rw[upd_ne (nrb c hc),upd_ne (nrb c hc)]
      exact⟨xs,ex,by omega⟩
     ·by_cases z:c=b
      ·rw[z,upd_same]
       exact⟨[],rfl,.inl rfl⟩
      ·obtain⟨kvs',e',d'⟩:=a3 c hc
       have nr:¬ row c:=fun hr=>by
        obtain⟨xs,e,_⟩:=a2 c hr
        rw[e'] at e;cases e
       rw[upd_ne z,upd_ne z]
       exact⟨kvs',f2 c _ z nr e',d'⟩
   ·rintro σ G2 ⟨o12,o13,rfl,a1,a2,a3⟩
    have pRow:∀ b,row b→p b:=fun b hb=>by
     obtain⟨b1,_,xs,b2,_⟩:=rowF b hb
     exact(hp _).mpr ⟨_,b2,(fun xs z=>by cases z),s13.free b1⟩
    have hpw2:G2 pw=some (.lst (ws.map V.ref)):=a1 _ _ (fun hb=>by
     obtain⟨adj,us,g,h1,_⟩:=R2.plainG l12 pw hb
     have:=h1.q
     rw[hpw14] at this;cases this) (fun z=>by
     have:=(rowF _ z).1
     rw[hpw] at this;cases this) hpwG
    have hpg2:=a1 _ _ ngp nrp hpgG
    have npp:pg≠pw:=fun z=>by rw[z,hpw] at fpg;cases fpg
    have sK2:∀ b o,hidc p H18 b=some o→¬ p b∧G2 b=some o:=fun b o e=>by
     obtain⟨np,e'⟩:=uH e
     exact⟨np,a1 b o (fun z=>np (pGs b z)) (fun z=>np (pRow b z)) ((g1 b fun z=>np (pWs b z)).trans e')⟩
    refine⟨_,rfl,.inl ⟨rfl,_,SqL.of hpw2⟩,fun pd1 hpd1=>?_⟩
    have n5:=Same.new (o:=HO.dK []) hpd1
    refine⟨pw,_,_,rfl,rfl,n5 _ _ hpw2,(by rw[List.length_map];exact zm (by omega)),?_⟩
    have hpg3:(upd (upd G2 pd1 (HO.dK [])) pw (HO.lst (ws.map V.ref++[V.ref pd1]))) pg=some (.lst (gs.map V.ref)):=by
     rw[upd_ne npp];exact n5 _ _ hpg2
    refine⟨_,rfl,.inl ⟨rfl,_,SqL.of hpg3⟩,fun pd2 hpd2=>?_⟩
    have n6:=Same.new (o:=HO.dK []) hpd2
    refine⟨pg,_,_,rfl,rfl,n6 _ _ hpg3,(by rw[List.length_map];exact zm (by omega)),?_⟩
    have sK:Same (hidc p H18) (upd (upd (upd (upd G2 pd1 (HO.dK [])) pw (HO.lst (ws.map V.ref++[V.ref pd1]))) pd2 (HO.dK [])) pg (HO.lst (gs.map V.ref++[V.ref pd2]))):=fun b o e=>by
     obtain⟨np,e'⟩:=sK2 b o e
     rw[upd_ne (fun(z:b=pg)=>np (by rw[z];exact ppg))]
     refine n6 _ _ ?_
     rw[upd_ne (fun(z:b=pw)=>np (by rw[z];exact ppw))]
     exact n5 _ _ e'
    generalize upd (upd (upd (upd G2 pd1 (HO.dK [])) pw (HO.lst (ws.map V.ref++[V.ref pd1]))) pd2 (HO.dK [])) pg (HO.lst (gs.map V.ref++[V.ref pd2]))=Hm at *
    have sM:Same H12 Hm:=fun b o e=>sK b o (yi (fun z=>by
     obtain⟨_,_,_,z⟩:=(hp _).mp z
     rw[e] at z;cases z) (s18' _ _ (s14 _ _ (s13 _ _ e))))
    have RM:=RE.same sK
    have hqdM:=sK _ _ (yi (p:=p) (fun z=>by
     obtain⟨o,z1,z2,_⟩:=(hp _).mp z
     have:=s15 _ _ z1
     rw[hqd] at this
     injection this with this
     exact z2 _ this.symm) (s158 _ _ hqd))
    have hpwdM:=sK _ _ (yi (pn fpwd) (s158 _ _ hpwd))
    have hpgdM:=sK _ _ (yi (pn fpgd) (s158 _ _ hpgd))
    clear sK sK2 a1 a2 a3 g1 g2 rowF hrow pRow R1 R1' R2 RE cw cg
    refine⟨_,rfl,_,rfl,_,rfl,x,ms,ls,r,e1,e2,e3,e4,n,rfl,Wb.same sM,ProgAt.same sM hP12,by omega,fun pw3 ws3 gs30 H21 _ _ s21 hpw3 R3=>?_⟩
    have sM1:=sM.trans s21
    refine⟨_,rfl,_,rfl,_,rfl,x,ms,ls,r,e1,e2,e3,e4,n,rfl,Wb.same sM1,ProgAt.same sM1 hP12,by omega,fun pg3 ws30 gs3 H22 _ _ _ s22 hpg3 R4=>?_⟩
    have s2122:=s21.trans s22
    refine⟨(by show 2≤sizeLine;decide),fun tq htq=>?_⟩
    have n23:=Same.new (o:=HO.tup [V.ref pw3,V.ref pg3]) htq
    have s223:=s22.trans n23
    have sM23:=s2122.trans n23
    refine⟨_,rfl,tq,qd,_,_,8,rfl,rfl,.inr ⟨SqT.of upd_same,SqT.of (sM23 _ _ hqdM)⟩,rfl,un 8 (by omega),zhd ((R3.same s223).samew (RM.same sM23) (s223 _ _ hpw3) (sM23 _ _ hpwdM)) ((R4.same n23).sameg (RM.same sM23) (n23 _ _ hpg3) (sM23 _ _ hpgdM)),_,rfl,yh rfl ?_⟩
    generalize upd H22 tq (HO.tup [V.ref pw3,V.ref pg3])=H23 at *
    have sN:=sM.trans sM23
    refine⟨_,rfl,_,rfl,x,ms,ls,r,e1,e2,e3,e4,0,rfl,Wb.same sN,ProgAt.same sN hP12,by omega,fun pw5 ws5 gs5 H24 _ _ s24 hpw5 R5=>?_⟩
    have sM24:=sM23.trans s24
    have hqd24:=sM24 _ _ hqdM
    have hpwd24:=sM24 _ _ hpwdM
    have hpgd24:=sM24 _ _ hpgdM
    have RM24:=RM.same sM24
    refine⟨_,rfl,_,rfl,qd,_,0,_,rfl,rfl,SqT.of hqd24,rfl,_,rfl,pwd,_,rfl,SqL.of hpwd24,fun sl hsl=>?_⟩
    have lwd':wsd.length=n+1:=by omega
    have ecut:Zf (wsd.map V.ref) none (some 1)=(wsd.map V.ref).take 1:=zhf (n:=1) (by rw[List.length_map];omega)
    rw[ecut]
    have n25:=Same.new (o:=HO.lst ((wsd.map V.ref).take 1)) hsl
    have hsl':=upd_same (H:=H24) (a:=sl) (o:=HO.lst ((wsd.map V.ref).take 1))
    generalize upd H24 sl (HO.lst ((wsd.map V.ref).take 1))=H25 at *
    have l5:=R5.lw
    have R5':=R5.same n25
    have RM25:=RM24.same n25
    have hqd25:=n25 _ _ hqd24
    have hpwd25:=n25 _ _ hpwd24
    have hpgd25:=n25 _ _ hpgd24
    have sN25:=sN.trans (s24.trans n25)
    refine⟨pw5,sl,_,_,8,rfl,rfl,.inl ⟨SqL.of (n25 _ _ hpw5),SqL.of hsl'⟩,(by rw[List.length_take,List.length_map,List.length_map,l5,lwd'];simp),un 8 (by omega),fun j u v z1 z2=>K04.EqP.mono (R5'.itw RM25 (fun i hi=>by simp at hi) j u v z1 z2) (by decide),_,rfl,yh rfl ?_⟩
    refine⟨_,rfl,_,rfl,x,ms,ls,r,e1,e2,e3,e4,0,rfl,Wb.same sN25,ProgAt.same sN25 hP12,by omega,fun pg6 ws6 gs6 H26 _ _ _ s26 hpg6 R6=>?_⟩
    obtain rfl:gs6=[]:=List.length_eq_zero_iff.mp R6.lg
    refine⟨(by show 0≤sizeLine;decide),fun em hem=>?_⟩
    have n27:=Same.new (o:=HO.lst []) hem
    refine⟨pg6,em,_,_,8,rfl,rfl,.inl ⟨SqL.of (n27 _ _ hpg6),SqL.of upd_same⟩,rfl,un 8 (by omega),(fun j u v z1 z2=>by cases z2),_,rfl,yh rfl ?_⟩
    have s2627:=s26.trans n27
    generalize upd H26 em (HO.lst [])=H27 at *
    have hqd27:=s2627 _ _ hqd25
    have hpwd27:=s2627 _ _ hpwd25
    have hpgd27:=s2627 _ _ hpgd25
    have hpk27:=s2627 _ _ (sN25 _ _ hpk12)
    have RM27:=RM25.same s2627
    refine⟨_,rfl,qd,_,0,_,rfl,rfl,SqT.of hqd27,rfl,pwd,_,rfl,.inl (SqL.of hpwd27),_,rfl,_,_,rfl,rfl,rfl,_,rfl,?_⟩
    refine iteB (decide_eq_true (by rw[List.length_map,lwd'];rfl)) ?_
    refine⟨_,rfl,qd,_,1,_,rfl,rfl,SqT.of hqd27,rfl,pgd,_,rfl,.inl (SqL.of hpgd27),_,rfl,rfl,_,rfl,?_⟩
    refine iteB (decide_eq_true (by rw[List.length_map,lgd,lg])) ?_
    have hw0:0<wsd.length:=by omega
    have g0:=List.getElem?_eq_getElem hw0
    have hw27:=RM27.z _ g0
    refine⟨_,rfl,qd,_,0,_,rfl,rfl,SqT.of hqd27,rfl,pwd,_,0,_,rfl,rfl,SqL.of hpwd27,xU (j:=0) (by rw[List.getElem?_map,g0];rfl),_,_,ms,rfl,hw27,by unfold tabI;rw[List.map_map];rfl,by omega,fun so mo hso pm2 sd2=>?_⟩
    have emo:=vb wh pm2 sd2
    subst emo
    have n28:=Same.new (o:=HO.lst (mo.map V.int)) hso
    refine⟨_,rfl,so,pk,_,_,fun _=>true,0,rfl,rfl,.inl ⟨SqL.of upd_same,SqL.of (n28 _ _ hpk27)⟩,rfl,un 0 (by omega),WA,?_⟩
    have et:((List.range (mo.map V.int).length).all fun _=>true)=true:=by simp
    show Q (V.bl ((List.range (mo.map V.int).length).all fun _=>true)) _
    rw[et]
    exact k _
end
end K04
noncomputable section
noncomputable def PySem.W.Fast.tw7835894166369797639:=0
noncomputable def PySem.W.Fast.tw14633931826345236324:=0
noncomputable def PySem.W.Fast.tw8856144728478018897:=0
noncomputable def PySem.W.Fast.tw17062198468877432609:=0
noncomputable def PySem.W.Fast.tw10598372733321371305:=0
noncomputable def PySem.W.Fast.tw11616086253799572649:=0
noncomputable def PySem.W.Fast.tw17758467707605542250:=0
noncomputable def PySem.W.Fast.tw14338876466950056905:=0
noncomputable def PySem.W.Fast.tw6496138341281078435:=0
noncomputable def PySem.W.Fast.tw6216741656489410486:=0
noncomputable def PySem.W.Fast.tw6123116592370679677:=0
noncomputable def PySem.W.Fast.tw16627384631628985244:=0
noncomputable def PySem.W.Fast.tw1688954305291010661:=0
noncomputable def PySem.W.Fast.tw8697170791317315040:=0
noncomputable def PySem.W.Fast.tw10579265108948214604:=0
noncomputable def PySem.W.Fast.tw9532633636177338432:=0
noncomputable def PySem.W.Fast.tw3299963512692046226:=0
noncomputable def PySem.W.Fast.tw9316987155075272405:=0
noncomputable def PySem.W.Fast.tw5518260327533038333:=0
noncomputable def PySem.W.Fast.tw13793158388811680729:=0
noncomputable def PySem.W.Fast.tw10330366778594210143:=0
noncomputable def PySem.W.Fast.tw2679819212127310782:=0
noncomputable def PySem.W.Fast.tw1689613642844212636:=0
noncomputable def PySem.W.Fast.tw9031915412781655692:=0
noncomputable def PySem.W.Fast.tw3858109914732617049:=0
namespace Hd
open PySem PySem.W PySem.Calls PyProof.Rows
noncomputable abbrev pw:=PySem.Challenge.pw_beatless_k21_plain_runs_told_again
variable (P:Params)
noncomputable def tt {α:Type}(_:α):Bool:=true
noncomputable def S (i:Nat):Stmt:=pw.main.body.getD i (.Pass ⟨0,0,0,0⟩)
def fd (n q:Str) (s:Stmt) (g:Addr) (cl:List (Str×Addr)) (d k c m:Value) (an:Option Addr) (cd ct:Value) (b:Addr):FuncData :=
 ⟨n,q,L2.defArgs s,.stmts (L2.defBody s),L2.defScope s,g,cl,d,k,c,m,an,cd,ct,b⟩
noncomputable abbrev an:Option Value:=(Option.some (.ref 6))
noncomputable def env:Env:={ scope:=pw.main.scope,locals:=mainNs,globals:=mainNs,cells:=[],code:=(.ref 13),frame:=some 14 }
noncomputable abbrev bE:List Stmt:=behindTheImports pw
abbrev cE:Code:=.body bE env
noncomputable abbrev qE:Pos:=(Pos.mk 0 0 0 0)
noncomputable abbrev B:List Frame:=[topFrame qE]
def s0 (w:World) (os:OsState):Shared:=⟨boot_heap w.params,⟨[]⟩,boot_drawn,boot_toks,os⟩
def zs:List Str:=List.map Str.ofString ["/claim/cut.py", "<module>", "__main__", "__name__", "beatless.exprs", "__doc__", "__package__", "__loader__", "__spec__", "__annotations__", "__builtins__", "__file__", "__cached__", "_wall", "first_worths", "heard_in", "worths_behind", "run_pieces", "worths_by_pieces", "heard_by_pieces", "plain_worths", "plain_heard", "Expr", "k", "beatless.plain", "pieces", "program", "last", "worths", "heard", "web", "rounds", "first", "turn", "__module__", "__qualname__", "__firstlineno__", "__static_attributes__", "__dict__", "__weakref__", "Num", "__init__", "reckon", "told", "words", "self", "value", "Num.__init__", "Num.reckon", "Num.told", "Num.words", "Name", "word", "Name.__init__", "Name.reckon", "Name.told", "Name.words", "Two", "one", "other", "Two.__init__", "Two.reckon", "Two.told", "Two.words", "Mod", "inner", "number", "Mod.__init__", "Mod.reckon", "Mod.told", "Mod.words", "beatless.errors", "Less", "BeatlessError", "third", "fourth", "Less.__init__", "Less.reckon", "Less.told", "Less.words", "NoWeb", "NoHand", "beatless.programs", "NoProgram", "is_whole", "START_NAMES", "SEND_NAMES", "RENEW_NAMES", "TWO_WORDS", "MOST_WORDS", "MOST_DEEP", "is_short_number", "is_word_of", "is_divisor", "are_sound", "is_sound", "count_words", "beatless.wholes", "me", "lines", "worth", "round", "to", "sum", "least", "most", "count", "add", "sub", "min", "max", "parts", "names", "deep", "part", "expr", "beatless.webs", "Program", "MOST_HANDS", "LAST_HAND", "are_hands", "is_line", "are_lines", "near_by_hand", "first_worth", "word_to", "next_worth", "start", "send", "when", "renew", "Program.__init__", "hand", "Program.first_worth", "Program.word_to", "Program.next_worth", "hands", "ahead", "line", "seen", "near", "law_beatless_k21_plain_runs_told_again", "Web", "_law_cell_at", "_law_draws", "_law_take", "_law_hands", "has_hand", "has_line", "neighbours", "groups", "group_of", "Web.__init__", "Web.hands", "Web.lines", "Web.has_hand", "Web.has_line", "Web.neighbours", "Web.groups", "Web.group_of", "own_hands", "own_lines", "_law_script", "_law_k", "_law_cell", "_law_many", "_law_found", "_law_rest", "_law_number", "_law_mixed", "_law_xs", "_law_size", "_law_lines", "_law_near", "_law_expr", "_law_program", "_law_heard_names", "_law_made", "_law_program_made", "_law_copied", "law", "_law_hands_here", "_law_way", "_law_j", "_law_near_here", "_law_draw", "_law_at", "_law_first", "_law_send", "_law_when", "_law_told", "_law_program_here", "_law_lines_here", "_law_rounds", "_law_other", "_law_web", "_law_kept", "_law_worths", "_law_heard", "_law_due", "_law_row", "_law_none"]
def s (n:Nat):Str:=zs.getD n ⟨#[]⟩
noncomputable def k0:Value:=.type "tuple"
noncomputable def k1:Value:=.type "code"
noncomputable def k2:Value:=.type "function"
noncomputable def k3:Value:=.type "frame"
noncomputable def k4:Value:=.type "dict"
noncomputable def k5:Value:=.builtin "__main__.__loader__#opaque"
noncomputable def k6:Value:=.type "builtin_function_or_method"
noncomputable def k7:Value:=.builtin "type.__prepare__"
noncomputable def k8:Value:=.type "type"
noncomputable def k9:Value:=.type "object"
noncomputable def k10:Value:=.builtin "object.__new__"
noncomputable def k11:Value:=.type "getset_descriptor"
noncomputable def k12:Value:=.builtin "function.__dict__"
noncomputable def k13:Value:=.builtin "function.__dict__#set"
noncomputable def k14:Value:=.builtin "ExceptionGroup.__weakref__"
noncomputable def k15:Value:=.type "super"
noncomputable def k16:Value:=.builtin "object.__init_subclass__"
noncomputable def k17:Value:=.type "ValueError"
noncomputable def k18:Value:=.type "Exception"
noncomputable def k19:Value:=.type "BaseException"
noncomputable def k20:Value:=.builtin "ValueError.__new__"
instance (n:Nat):OfNat Value n:=⟨.ref n⟩
noncomputable def iv (n:Int):Value:=.int n 0
def sv (n:Nat) (t:Tok):Value:=.str (s n) t
def en (P:Params) (x:Nat) (t:Tok) (v:Value):DictEntry:=⟨PyData.keyHash P (s x),sv x t,v⟩
def tO (l:Array Value):Obj:=Obj.mk k0 .none (Data.seq l 0) #[]
noncomputable def vO (l:Array Value):Obj:=Obj.mk .none .none (Data.fields l) #[]
def cO (n q:Nat) (a b c:Tok) (l m:Int) (k:Int) (r1 r2 r3 r4 r5:Addr) (x:Int) (y:Tok):Obj:=Obj.mk k1 .none (Data.fields #[(sv n a),(sv q b),(.str (s 0) c),(.int l 0),(.int m 0),(.int 0 0),(.int 0 0),(.int k 0),(.ref r1),(.bool true),(.int 181 0),(.ref r2),.none,(.ref r3),(.ref r4),(.ref r5),(.int x 0),(.int l 0),(.str (s 0) y)]) #[]
def uO (n q:Nat) (z:Stmt) (m:Nat) (t:Tok) (r:Addr):Obj:=Obj.mk k2 .none (Data.func (fd (s n) (s q) z 3 [] .none .none .none (sv m t) .none (.ref r) .none 0)) #[]
def gO (n q:Nat) (z:Stmt):Obj:=Obj.mk .none .none (Data.func (fd (s n) (s q) z 0 [] .none .none .none .none .none .none .none 0)) #[]
def o0:=tO #[]
def o1:=vO #[]
def o2:=Obj.mk k1 .none (Data.fields #[(sv 1 182),(sv 1 183),(sv 0 184),(iv 1),(iv 0),(iv 0),(iv 0),(iv 0),11,(.bool false),(iv 181),12,.none,.none,.none,.none,(iv 185),(iv 1),(sv 0 186)]) #[]
def o3:=Obj.mk k3 .none Data.plain #[(some 13),(some 3),(some 3),.none,(some (sv 2 164)),.none,(some 0)]
noncomputable abbrev N:=@BT.node
def t14:=N (boot_o_0 P) (N (boot_o_1 P) (N (boot_o_3 P) (N (boot_o_7 P) .nil .nil) (N o0 .nil .nil)) (N (boot_o_5 P) (N (boot_o_9 P) .nil .nil) (N o2 .nil .nil))) (N (boot_o_2 P) (N (boot_o_4 P) (N (boot_o_8 P) .nil .nil) (N o1 .nil .nil)) (N (boot_o_6 P) (N (boot_o_10 P) .nil .nil) (N o3 .nil .nil)))
def sa (w:World) (os:OsState):SharedT:=⟨(t14 w.params),15,(Life.mk [] [] [] 0 [] [] false #[] [] 0 false false false 0 [2000,10,10] false 0 true [] [] 0 false),⟨[]⟩,(Drawn.mk 0 0 0 0),187,os⟩
def La (w:World) (os:OsState):Option (Shared×Thread):=topGo treeTable pw w 11 an 12 (s0 w os) (topStub pw)
def Ra (w:World) (os:OsState):Option (Shared×Thread):=some ((sa w os).abs,⟨denote treeTable cE,cE,(Pos.mk 0 0 0 0),B⟩)
theorem qa:tt (Hd.La,Hd.Ra)=true:=by k_qdec
theorem ra:∀ w,Fast.tw11367235000924431832 w=Fast.tw15912052731592885781 w:=fun w=>by kernel_rfl
theorem ea (w:World) (os:OsState):Hd.La w os=Hd.Ra w os:=((congrFun (congrFun Fast.te11367235000924431832 w) os).trans (congrFun (ra w) os)).trans (congrFun (congrFun Fast.te15912052731592885781 w) os).symm
def sb0 (w:World) (os:OsState):SharedT:=⟨(t14 w.params),15,(Life.mk [] [] [] 0 [] [] false #[] [] 0 false false false 0 [2000,10,10] false 0 true [] [] 0 false),⟨[]⟩,(Drawn.mk 0 0 0 0),187,os⟩
def Lb (w:World) (os:OsState):Option (Flow×SharedT×Code×Pos):=segRunT treeTable pw w 11 an 1 1 (sa w os) (blockOf bE env cE (Pos.mk 0 0 0 0) B)
def Rb (w:World) (os:OsState):Option (Flow×SharedT×Code×Pos):=some (.next,sb0 w os,cE,(Pos.mk 0 0 0 0))
theorem qb:tt (Hd.Lb,Hd.Rb)=true:=by k_qdec
theorem rb:∀ w,Fast.tw16430817790641568776 w=Hd.Rb w:=fun w=>by kernel_rfl
theorem eb (w:World) (os:OsState):Hd.Lb w os=Hd.Rb w os:=(congrFun (congrFun Fast.te16430817790641568776 w) os).trans (congrFun (rb w) os)
def zuo:List Stmt:=[S 0,S 1,S 2,S 3,S 4,S 5,S 6,S 7,S 8,S 9,S 10,S 11]
def o4:=Obj.mk k4 .none (Data.dict #[en P 3 165 (sv 4 263),en P 5 166 .none,en P 6 167 .none,en P 7 168 k5,en P 8 169 .none,en P 9 170 6,en P 10 171 4,en P 11 173 (sv 0 172),en P 12 174 .none,en P 13 193 21,en P 14 201 26,en P 15 207 31,en P 16 213 36,en P 17 228 43,en P 18 236 50,en P 19 244 57,en P 20 253 64,en P 21 262 71,en P 22 284 81] 19) #[]
def o5:=vO #[(iv 1),(iv 0),20,(iv 5),(iv 0),25,(iv 7),(iv 0),30,(iv 16),(iv 0),35,(iv 23),(iv 0),42,(iv 34),(iv 0),49,(iv 36),(iv 0),56,(iv 38),(iv 0),63,(iv 40),(iv 0),70,(iv 43),(iv 0),77]
def o6:=tO #[]
def o7:=vO #[]
def o8:=tO #[(sv 23 190)]
def o9:=tO #[]
def o10:=gO 13 13 (S 0)
def o11:=cO 13 13 187 188 189 1 1 3 15 16 17 18 19 191 192
def o12:=uO 13 13 (S 0) 2 164 20
def o13:=tO #[]
def o14:=vO #[]
def o15:=gO 14 14 (S 2)
def o16:=Obj.mk k1 .none (Data.fields #[(sv 14 196),(sv 14 197),(sv 0 198),(iv 5),(iv 2),(iv 0),(iv 0),(iv 3),22,(.bool true),(iv 181),23,.none,.none,.none,24,(iv 199),(iv 5),(sv 0 200)]) #[]
def o17:=uO 14 14 (S 2) 24 194 25
def o18:=tO #[]
def o19:=vO #[]
def o20:=gO 15 15 (S 3)
def o21:=Obj.mk k1 .none (Data.fields #[(sv 15 202),(sv 15 203),(sv 0 204),(iv 7),(iv 4),(iv 0),(iv 0),(iv 3),27,(.bool true),(iv 181),28,.none,.none,.none,29,(iv 205),(iv 7),(sv 0 206)]) #[]
def o22:=uO 15 15 (S 3) 24 194 30
def o23:=tO #[]
def o24:=vO #[]
def o25:=gO 16 16 (S 4)
def o26:=Obj.mk k1 .none (Data.fields #[(sv 16 208),(sv 16 209),(sv 0 210),(iv 16),(iv 5),(iv 0),(iv 0),(iv 3),32,(.bool true),(iv 181),33,.none,.none,.none,34,(iv 211),(iv 16),(sv 0 212)]) #[]
def o27:=uO 16 16 (S 4) 24 194 35
def o28:=tO #[]
def o29:=vO #[]
def o30:=tO #[(sv 25 217),(sv 26 218),(sv 27 219),(sv 28 220),(sv 29 221),(sv 30 222),(sv 31 223),(sv 32 224),(sv 33 225)]
def o31:=tO #[]
def o32:=gO 17 17 (S 5)
def o33:=cO 17 17 214 215 216 23 2 3 37 38 39 40 41 226 227
def o34:=uO 17 17 (S 5) 24 194 42
def o35:=tO #[]
def o36:=vO #[]
def o37:=tO #[(sv 25 232),(sv 26 233)]
def o38:=tO #[]
def o39:=gO 18 18 (S 6)
def o40:=cO 18 18 229 230 231 34 2 3 44 45 46 47 48 234 235
def o41:=uO 18 18 (S 6) 24 194 49
def o42:=tO #[]
def o43:=vO #[]
def o44:=tO #[(sv 25 240),(sv 26 241)]
def o45:=tO #[]
def o46:=gO 19 19 (S 7)
def o47:=cO 19 19 237 238 239 36 2 3 51 52 53 54 55 242 243
def o48:=uO 19 19 (S 7) 24 194 56
def o49:=tO #[]
def o50:=vO #[]
def o51:=tO #[(sv 30 248),(sv 26 249),(sv 31 250)]
def o52:=tO #[]
def o53:=gO 20 20 (S 8)
def o54:=cO 20 20 245 246 247 38 3 3 58 59 60 61 62 251 252
def o55:=uO 20 20 (S 8) 24 194 63
def o56:=tO #[]
def o57:=vO #[]
def o58:=tO #[(sv 30 257),(sv 26 258),(sv 31 259)]
def o59:=tO #[]
def o60:=gO 21 21 (S 9)
def o61:=cO 21 21 254 255 256 40 3 3 65 66 67 68 69 260 261
def o62:=uO 21 21 (S 9) 24 194 70
def o63:=tO #[]
def o64:=Obj.mk k6 .none (Data.fields #[k7,k8]) #[]
def o65:=Obj.mk k4 .none (Data.dict #[en P 34 272 (sv 4 263),en P 35 274 (sv 22 273),en P 36 276 (.int 43 275),en P 37 277 79] 4) #[]
def o66:=tO #[]
def o67:=vO #[]
def o68:=Obj.mk k1 .none (Data.fields #[(sv 22 267),(sv 22 268),(sv 0 269),(iv 43),(iv 0),(iv 0),(iv 0),(iv 0),75,(.bool false),(iv 181),76,.none,.none,.none,.none,(iv 270),(iv 43),(sv 0 271)]) #[]
def o69:=Obj.mk k3 .none Data.plain #[(some 77),(some 3),(some 74),.none,(some (sv 4 263)),.none,(some 0)]
def o70:=tO #[]
def o71:=Obj.mk k4 .none (Data.dict #[en P 34 272 (sv 4 263),en P 36 276 (.int 43 275),en P 37 277 79,en P 38 279 82,en P 39 281 83,en P 5 282 .none] 4) #[]
def o72:=Obj.mk k8 .none (Data.cls (ClassData.mk (s 22) [k9] [81,k9] 80 (s 22) true [] [] false .none false)) #[.none,.none,(some (sv 22 265)),(some (sv 22 273)),(some k10),(some (.bool true))]
def o73:=Obj.mk k11 .none (Data.fields #[(sv 38 278),81,k12,k13]) #[]
def o74:=Obj.mk k11 .none (Data.fields #[(sv 39 280),81,k14,.none]) #[]
def o75:=Obj.mk k15 .none (Data.fields #[81,81,81]) #[]
def o76:=Obj.mk k6 .none (Data.fields #[k16,81]) #[]
def t15:=N o54 .nil .nil
def t17:=N o70 .nil .nil
def t20:=N o62 .nil .nil
def t25:=N o58 .nil .nil
def t27:=N o74 .nil .nil
def t30:=N o66 .nil .nil
def t36:=N o56 .nil .nil
def t41:=N o64 .nil .nil
def t46:=N o60 .nil .nil
def t48:=N o76 .nil .nil
def t51:=N o68 .nil .nil
def t56:=N (boot_o_5 P) (N (boot_o_9 P) (N o8 (N o24 t36 .nil) (N o40 (N o72 .nil .nil) .nil)) (N o16 (N o32 t41 .nil) (N o48 .nil .nil))) (N o2 (N o12 (N o28 t46 .nil) (N o44 t48 .nil)) (N o20 (N o36 t51 .nil) (N o52 .nil .nil)))
def t58:=N o55 .nil .nil
def t60:=N (o71 P) .nil .nil
def t63:=N o63 .nil .nil
def t68:=N o59 .nil .nil
def t70:=N o75 .nil .nil
def t73:=N o67 .nil .nil
def t79:=N o57 .nil .nil
def t81:=N o73 .nil .nil
def t84:=N (o65 P) .nil .nil
def t89:=N o61 .nil .nil
def t93:=N o69 .nil .nil
def t98:=N (boot_o_6 P) (N (boot_o_10 P) (N o9 (N o25 t79 .nil) (N o41 t81 .nil)) (N o17 (N o33 (t84 P) .nil) (N o49 .nil .nil))) (N o3 (N o13 (N o29 t89 .nil) (N o45 .nil .nil)) (N o21 (N o37 t93 .nil) (N o53 .nil .nil)))
def t99:=N (boot_o_2 P) (N (boot_o_4 P) (N (boot_o_8 P) (N o7 (N o23 t58 .nil) (N o39 (t60 P) .nil)) (N o15 (N o31 t63 .nil) (N o47 .nil .nil))) (N o5 (N o11 (N o27 t68 .nil) (N o43 t70 .nil)) (N o19 (N o35 t73 .nil) (N o51 .nil .nil)))) (t98 P)
def zwJ:=N (boot_o_0 P) (N (boot_o_1 P) (N (o4 P) (N (boot_o_7 P) (N o6 (N o22 t15 .nil) (N o38 t17 .nil)) (N o14 (N o30 t20 .nil) (N o46 .nil .nil))) (N o0 (N o10 (N o26 t25 .nil) (N o42 t27 .nil)) (N o18 (N o34 t30 .nil) (N o50 .nil .nil)))) (t56 P)) (t99 P)
def sb1 (w:World) (os:OsState):SharedT:=⟨(zwJ w.params),86,(Life.mk [] [] [] 0 [] [] false #[] [] 0 false false false 0 [2000,10,10] false 0 true [] [] 0 false),⟨[]⟩,(Drawn.mk 0 0 0 0),285,os⟩
def L0 (w:World) (os:OsState):Option (Flow×SharedT×Code×Pos):=segRunT treeTable pw w 11 an 1 475 (sb0 w os) (piecesOf zuo env cE (Pos.mk 0 0 0 0) B)
def R0 (w:World) (os:OsState):Option (Flow×SharedT×Code×Pos):=some (.next,sb1 w os,cE,(Pos.mk 43 0 44 8))
theorem q0:tt (Hd.L0,Hd.R0)=true:=by k_qdec
theorem r0:∀ w,Fast.tw4453942571644881324 w=Hd.R0 w:=fun w=>by kernel_rfl
theorem e0 (w:World) (os:OsState):Hd.L0 w os=Hd.R0 w os:=(congrFun (congrFun Fast.te4453942571644881324 w) os).trans (congrFun (r0 w) os)
def zun:List Stmt:=[S 12]
def o77:=Obj.mk k4 .none (Data.dict #[en P 3 165 (sv 4 263),en P 5 166 .none,en P 6 167 .none,en P 7 168 k5,en P 8 169 .none,en P 9 170 6,en P 10 171 4,en P 11 173 (sv 0 172),en P 12 174 .none,en P 13 193 21,en P 14 201 26,en P 15 207 31,en P 16 213 36,en P 17 228 43,en P 18 236 50,en P 19 244 57,en P 20 253 64,en P 21 262 71,en P 22 284 81,en P 40 331 123] 20) #[]
def o78:=vO #[(iv 1),(iv 0),20,(iv 5),(iv 0),25,(iv 7),(iv 0),30,(iv 16),(iv 0),35,(iv 23),(iv 0),42,(iv 34),(iv 0),49,(iv 36),(iv 0),56,(iv 38),(iv 0),63,(iv 40),(iv 0),70,(iv 43),(iv 0),77,(iv 45),(iv 0),91]
def o79:=Obj.mk k8 .none (Data.cls (ClassData.mk (s 22) [k9] [81,k9] 80 (s 22) true [] [123] false .none false)) #[.none,.none,(some (sv 22 265)),(some (sv 22 273)),(some k10),(some (.bool true))]
def o80:=tO #[81]
def o81:=Obj.mk k6 .none (Data.fields #[k7,k8]) #[]
def o82:=Obj.mk k4 .none (Data.dict #[en P 34 292 (sv 4 263),en P 35 294 (sv 40 293),en P 36 296 (.int 45 295),en P 41 304 99,en P 42 312 106,en P 43 319 113,en P 44 326 120,en P 37 328 121] 8) #[]
def o83:=tO #[]
def o84:=vO #[(iv 47),(iv 4),98,(iv 50),(iv 4),105,(iv 53),(iv 4),112,(iv 56),(iv 4),119]
def o85:=Obj.mk k1 .none (Data.fields #[(sv 40 287),(sv 40 288),(sv 0 289),(iv 45),(iv 0),(iv 0),(iv 0),(iv 0),89,(.bool false),(iv 181),90,.none,.none,.none,.none,(iv 290),(iv 45),(sv 0 291)]) #[]
def o86:=Obj.mk k3 .none Data.plain #[(some 91),(some 3),(some 88),.none,(some (sv 4 263)),.none,(some 0)]
def o87:=tO #[]
def o88:=vO #[]
def o89:=tO #[(sv 45 300),(sv 46 301)]
def o90:=tO #[]
def o91:=gO 41 47 (L2.inClass (S 12) 0)
def o92:=cO 41 47 297 298 299 47 2 3 93 94 95 96 97 302 303
def o93:=uO 41 47 (L2.inClass (S 12) 0) 4 263 98
def o94:=tO #[]
def o95:=vO #[]
def o96:=tO #[(sv 45 308),(sv 28 309)]
def o97:=tO #[]
def o98:=gO 42 48 (L2.inClass (S 12) 1)
def o99:=cO 42 48 305 306 307 50 2 3 100 101 102 103 104 310 311
def XE:=uO 42 48 (L2.inClass (S 12) 1) 4 263 105
def XD:=tO #[]
def Wi:=vO #[]
def XC:=tO #[(sv 45 316)]
def XB:=tO #[]
def Wh:=gO 43 49 (L2.inClass (S 12) 2)
def XA:=cO 43 49 313 314 315 53 1 3 107 108 109 110 111 317 318
def Xz:=uO 43 49 (L2.inClass (S 12) 2) 4 263 112
def Xy:=tO #[]
def Wg:=vO #[]
def Xx:=tO #[(sv 45 323)]
def Xw:=tO #[]
def Wf:=gO 44 50 (L2.inClass (S 12) 3)
def Xv:=cO 44 50 320 321 322 56 1 3 114 115 116 117 118 324 325
def Xu:=uO 44 50 (L2.inClass (S 12) 3) 4 263 119
def Xs:=tO #[(sv 46 327)]
def Xr:=Obj.mk k4 .none (Data.dict #[en P 34 292 (sv 4 263),en P 36 296 (.int 45 295),en P 41 304 99,en P 42 312 106,en P 43 319 113,en P 44 326 120,en P 37 328 121,en P 5 329 .none] 2) #[]
def Xq:=Obj.mk k8 .none (Data.cls (ClassData.mk (s 40) [81] [123,81,k9] 122 (s 40) true [] [] false .none false)) #[(some 86),.none,(some (sv 40 285)),(some (sv 40 293)),(some k10),(some (.bool true))]
def We:=Obj.mk k15 .none (Data.fields #[123,123,123]) #[]
def Wd:=Obj.mk k6 .none (Data.fields #[k16,123]) #[]
def zue:=N Wh .nil .nil
def zud:=N o97 .nil .nil
def zuc:=N Xv .nil .nil
def zub:=N Wg .nil .nil
def zua:=N XD .nil .nil
def zt9:=N Xq .nil .nil
def zt8:=N Xz .nil .nil
def zt7:=N o99 .nil .nil
def zt6:=N Xs .nil .nil
def zt5:=N Xw .nil .nil
def zt4:=N XC .nil .nil
def zt3:=N Wd .nil .nil
def zwI:=N (boot_o_5 P) (N (boot_o_9 P) (N o8 (N o24 t36 (N o91 .nil .nil)) (N o40 (N o79 .nil .nil) zt8)) (N o16 (N o32 t41 zt7) (N o48 (N o83 .nil .nil) zt6))) (N o2 (N o12 (N o28 t46 (N o95 .nil .nil)) (N o44 t48 zt5)) (N o20 (N o36 t51 zt4) (N o52 (N o87 .nil .nil) zt3)))
def zt2:=N XA .nil .nil
def zt1:=N o98 .nil .nil
def zt0:=N Xu .nil .nil
def ztZ:=N Xx .nil .nil
def ztY:=N Wi .nil .nil
def ztX:=N We .nil .nil
def ztW:=N Xy .nil .nil
def ztV:=N XE .nil .nil
def ztU:=N (Xr P) .nil .nil
def ztT:=N o96 .nil .nil
def ztS:=N Wf .nil .nil
def ztR:=N XB .nil .nil
def zwH:=N (boot_o_6 P) (N (boot_o_10 P) (N o9 (N o25 t79 (N o92 .nil .nil)) (N o41 t81 ztW)) (N o17 (N o33 (t84 P) ztV) (N o49 (N o84 .nil .nil) (ztU P)))) (N o3 (N o13 (N o29 t89 ztT) (N o45 (N o80 .nil .nil) ztS)) (N o21 (N o37 t93 ztR) (N o53 (N o88 .nil .nil) .nil)))
def zwG:=N (boot_o_2 P) (N (boot_o_4 P) (N (boot_o_8 P) (N o7 (N o23 t58 (N o90 .nil .nil)) (N o39 (t60 P) zt2)) (N o15 (N o31 t63 zt1) (N o47 (N (o82 P) .nil .nil) zt0))) (N o78 (N o11 (N o27 t68 (N o94 .nil .nil)) (N o43 t70 ztZ)) (N o19 (N o35 t73 ztY) (N o51 (N o86 .nil .nil) ztX)))) (zwH P)
def zwF:=N (boot_o_0 P) (N (boot_o_1 P) (N (o77 P) (N (boot_o_7 P) (N o6 (N o22 t15 (N o89 .nil .nil)) (N o38 t17 zue)) (N o14 (N o30 t20 zud) (N o46 (N o81 .nil .nil) zuc))) (N o0 (N o10 (N o26 t25 (N o93 .nil .nil)) (N o42 t27 zub)) (N o18 (N o34 t30 zua) (N o50 (N o85 .nil .nil) zt9)))) (zwI P)) (zwG P)
def sb2 (w:World) (os:OsState):SharedT:=⟨(zwF w.params),126,(Life.mk [] [] [] 0 [] [] false #[] [] 0 false false false 0 [2000,10,10] false 0 true [] [] 0 false),⟨[]⟩,(Drawn.mk 0 0 0 0),332,os⟩
def L1 (w:World) (os:OsState):Option (Flow×SharedT×Code×Pos):=segRunT treeTable pw w 11 an 1 340 (sb1 w os) (piecesOf zun env cE (Pos.mk 43 0 44 8) B)
def R1 (w:World) (os:OsState):Option (Flow×SharedT×Code×Pos):=some (.next,sb2 w os,cE,(Pos.mk 45 0 57 32))
theorem q1:tt (Hd.L1,Hd.R1)=true:=by k_qdec
theorem r1:∀ w,Fast.tw6387051279210280424 w=Hd.R1 w:=fun w=>by kernel_rfl
theorem e1 (w:World) (os:OsState):Hd.L1 w os=Hd.R1 w os:=(congrFun (congrFun Fast.te6387051279210280424 w) os).trans (congrFun (r1 w) os)
def zum:List Stmt:=[S 13]
def zxk:=Obj.mk k4 .none (Data.dict #[en P 3 165 (sv 4 263),en P 5 166 .none,en P 6 167 .none,en P 7 168 k5,en P 8 169 .none,en P 9 170 6,en P 10 171 4,en P 11 173 (sv 0 172),en P 12 174 .none,en P 13 193 21,en P 14 201 26,en P 15 207 31,en P 16 213 36,en P 17 228 43,en P 18 236 50,en P 19 244 57,en P 20 253 64,en P 21 262 71,en P 22 284 81,en P 40 331 123,en P 51 378 163] 21) #[]
def zxj:=vO #[(iv 1),(iv 0),20,(iv 5),(iv 0),25,(iv 7),(iv 0),30,(iv 16),(iv 0),35,(iv 23),(iv 0),42,(iv 34),(iv 0),49,(iv 36),(iv 0),56,(iv 38),(iv 0),63,(iv 40),(iv 0),70,(iv 43),(iv 0),77,(iv 45),(iv 0),91,(iv 58),(iv 0),131]
def zxi:=Obj.mk k8 .none (Data.cls (ClassData.mk (s 22) [k9] [81,k9] 80 (s 22) true [] [123,163] false .none false)) #[.none,.none,(some (sv 22 265)),(some (sv 22 273)),(some k10),(some (.bool true))]
def Xp:=tO #[81]
def zgY:=Obj.mk k6 .none (Data.fields #[k7,k8]) #[]
def zgX:=Obj.mk k4 .none (Data.dict #[en P 34 339 (sv 4 263),en P 35 341 (sv 51 340),en P 36 343 (.int 58 342),en P 41 351 139,en P 42 359 146,en P 43 366 153,en P 44 373 160,en P 37 375 161] 8) #[]
def zgW:=tO #[]
def zgV:=vO #[(iv 60),(iv 4),138,(iv 63),(iv 4),145,(iv 66),(iv 4),152,(iv 69),(iv 4),159]
def zgU:=Obj.mk k1 .none (Data.fields #[(sv 51 334),(sv 51 335),(sv 0 336),(iv 58),(iv 0),(iv 0),(iv 0),(iv 0),129,(.bool false),(iv 181),130,.none,.none,.none,.none,(iv 337),(iv 58),(sv 0 338)]) #[]
def zgT:=Obj.mk k3 .none Data.plain #[(some 131),(some 3),(some 128),.none,(some (sv 4 263)),.none,(some 0)]
def U7:=tO #[]
def zgS:=vO #[]
def U6:=tO #[(sv 45 347),(sv 52 348)]
def U5:=tO #[]
def zgR:=gO 41 53 (L2.inClass (S 13) 0)
def U4:=cO 41 53 344 345 346 60 2 3 133 134 135 136 137 349 350
def U3:=uO 41 53 (L2.inClass (S 13) 0) 4 263 138
def U2:=tO #[]
def zgQ:=vO #[]
def U1:=tO #[(sv 45 355),(sv 28 356)]
def U0:=tO #[]
def zgP:=gO 42 54 (L2.inClass (S 13) 1)
def UZ:=cO 42 54 352 353 354 63 2 3 140 141 142 143 144 357 358
def UY:=uO 42 54 (L2.inClass (S 13) 1) 4 263 145
def UX:=tO #[]
def zgO:=vO #[]
def UW:=tO #[(sv 45 363)]
def UV:=tO #[]
def zgN:=gO 43 55 (L2.inClass (S 13) 2)
def UU:=cO 43 55 360 361 362 66 1 3 147 148 149 150 151 364 365
def UT:=uO 43 55 (L2.inClass (S 13) 2) 4 263 152
def US:=tO #[]
def zgM:=vO #[]
def UR:=tO #[(sv 45 370)]
def UQ:=tO #[]
def zgL:=gO 44 56 (L2.inClass (S 13) 3)
def UP:=cO 44 56 367 368 369 69 1 3 154 155 156 157 158 371 372
def UO:=uO 44 56 (L2.inClass (S 13) 3) 4 263 159
def UN:=tO #[(sv 52 374)]
def UM:=Obj.mk k4 .none (Data.dict #[en P 34 339 (sv 4 263),en P 36 343 (.int 58 342),en P 41 351 139,en P 42 359 146,en P 43 366 153,en P 44 373 160,en P 37 375 161,en P 5 376 .none] 2) #[]
def UL:=Obj.mk k8 .none (Data.cls (ClassData.mk (s 51) [81] [163,81,k9] 162 (s 51) true [] [] false .none false)) #[(some 126),.none,(some (sv 51 332)),(some (sv 51 340)),(some k10),(some (.bool true))]
def zgK:=Obj.mk k15 .none (Data.fields #[163,163,163]) #[]
def zgJ:=Obj.mk k6 .none (Data.fields #[k16,163]) #[]
def ztQ:=N zgY .nil .nil
def ztP:=N UP .nil .nil
def ztO:=N o89 ztP .nil
def ztN:=N U0 .nil .nil
def ztM:=N o70 ztN .nil
def ztL:=N U6 .nil .nil
def ztK:=N zgN .nil .nil
def ztJ:=N o81 ztK .nil
def ztI:=N zgU .nil .nil
def ztH:=N UL .nil .nil
def ztG:=N o93 ztH .nil
def ztF:=N UX .nil .nil
def ztE:=N o74 ztF .nil
def ztD:=N U3 .nil .nil
def ztC:=N zgM .nil .nil
def ztB:=N o85 ztC .nil
def ztA:=N zgW .nil .nil
def ztz:=N UN .nil .nil
def zty:=N o91 ztz .nil
def ziA:=N UZ .nil .nil
def ztx:=N zgR .nil .nil
def ztw:=N UT .nil .nil
def ztv:=N o83 ztw .nil
def ztu:=N U7 .nil .nil
def ztt:=N zgJ .nil .nil
def zts:=N o95 ztt .nil
def ztr:=N UW .nil .nil
def ztq:=N o76 ztr .nil
def ztp:=N zgQ .nil .nil
def zto:=N UQ .nil .nil
def ztn:=N o87 zto .nil
def zwE:=N (boot_o_5 P) (N (boot_o_9 P) (N o8 (N o24 (N o56 ztA .nil) zty) (N o40 (N zxi ziA .nil) zt8)) (N o16 (N o32 (N o64 ztx .nil) zt7) (N o48 ztv zt6))) (N o2 (N o12 (N o28 (N o60 ztu .nil) zts) (N o44 ztq zt5)) (N o20 (N o36 (N o68 ztp .nil) zt4) (N o52 ztn zt3)))
def ztm:=N (zgX P) .nil .nil
def ztl:=N UO .nil .nil
def ztk:=N o90 ztl .nil
def ztj:=N zgP .nil .nil
def zti:=N (o71 P) ztj .nil
def zth:=N U5 .nil .nil
def ztg:=N UU .nil .nil
def ztf:=N (o82 P) ztg .nil
def zte:=N zgT .nil .nil
def ztd:=N zgK .nil .nil
def ztc:=N o94 ztd .nil
def ztb:=N zgO .nil .nil
def zta:=N o75 ztb .nil
def zs9:=N U2 .nil .nil
def zs8:=N UR .nil .nil
def zs7:=N o86 zs8 .nil
def zs6:=N zgV .nil .nil
def zs5:=N (UM P) .nil .nil
def zs4:=N o92 (zs5 P) .nil
def zs3:=N UY .nil .nil
def zs2:=N o73 zs3 .nil
def zs1:=N U4 .nil .nil
def zs0:=N US .nil .nil
def zsZ:=N o84 zs0 .nil
def zsY:=N zgS .nil .nil
def zsX:=N UV .nil .nil
def zsW:=N o80 zsX .nil
def zsV:=N U1 .nil .nil
def zsU:=N o69 zsV .nil
def zsT:=N zgL .nil .nil
def zsS:=N o88 zsT .nil
def zwD:=N (boot_o_6 P) (N (boot_o_10 P) (N o9 (N o25 (N o57 zs6 .nil) (zs4 P)) (N o41 zs2 ztW)) (N o17 (N o33 (N (o65 P) zs1 .nil) ztV) (N o49 zsZ (ztU P)))) (N o3 (N o13 (N o29 (N o61 zsY .nil) ztT) (N o45 zsW ztS)) (N o21 (N o37 zsU ztR) (N o53 zsS (N Xp .nil .nil))))
def zwC:=N (boot_o_2 P) (N (boot_o_4 P) (N (boot_o_8 P) (N o7 (N o23 (N o55 (ztm P) .nil) ztk) (N o39 (zti P) zt2)) (N o15 (N o31 (N o63 zth .nil) zt1) (N o47 (ztf P) zt0))) (N zxj (N o11 (N o27 (N o59 zte .nil) ztc) (N o43 zta ztZ)) (N o19 (N o35 (N o67 zs9 .nil) ztY) (N o51 zs7 ztX)))) (zwD P)
def zwB:=N (boot_o_0 P) (N (boot_o_1 P) (N (zxk P) (N (boot_o_7 P) (N o6 (N o22 (N o54 ztQ .nil) ztO) (N o38 ztM zue)) (N o14 (N o30 (N o62 ztL .nil) zud) (N o46 ztJ zuc))) (N o0 (N o10 (N o26 (N o58 ztI .nil) ztG) (N o42 ztE zub)) (N o18 (N o34 (N o66 ztD .nil) zua) (N o50 ztB zt9)))) (zwE P)) (zwC P)
def sb3 (w:World) (os:OsState):SharedT:=⟨(zwB w.params),166,(Life.mk [] [] [] 0 [] [] false #[] [] 0 false false false 0 [2000,10,10] false 0 true [] [] 0 false),⟨[]⟩,(Drawn.mk 0 0 0 0),379,os⟩
def L2 (w:World) (os:OsState):Option (Flow×SharedT×Code×Pos):=segRunT treeTable pw w 11 an 1 340 (sb2 w os) (piecesOf zum env cE (Pos.mk 45 0 57 32) B)
def R2 (w:World) (os:OsState):Option (Flow×SharedT×Code×Pos):=some (.next,sb3 w os,cE,(Pos.mk 58 0 70 26))
theorem q2:tt (Hd.L2,Hd.R2)=true:=by k_qdec
theorem r2:∀ w,Fast.tw9171306275460833034 w=Hd.R2 w:=fun w=>by kernel_rfl
theorem e2 (w:World) (os:OsState):Hd.L2 w os=Hd.R2 w os:=(congrFun (congrFun Fast.te9171306275460833034 w) os).trans (congrFun (r2 w) os)
def zul:List Stmt:=[S 14]
def zxh:=Obj.mk k4 .none (Data.dict #[en P 3 165 (sv 4 263),en P 5 166 .none,en P 6 167 .none,en P 7 168 k5,en P 8 169 .none,en P 9 170 6,en P 10 171 4,en P 11 173 (sv 0 172),en P 12 174 .none,en P 13 193 21,en P 14 201 26,en P 15 207 31,en P 16 213 36,en P 17 228 43,en P 18 236 50,en P 19 244 57,en P 20 253 64,en P 21 262 71,en P 22 284 81,en P 40 331 123,en P 51 378 163,en P 57 431 203] 22) #[]
def zxg:=vO #[(iv 1),(iv 0),20,(iv 5),(iv 0),25,(iv 7),(iv 0),30,(iv 16),(iv 0),35,(iv 23),(iv 0),42,(iv 34),(iv 0),49,(iv 36),(iv 0),56,(iv 38),(iv 0),63,(iv 40),(iv 0),70,(iv 43),(iv 0),77,(iv 45),(iv 0),91,(iv 58),(iv 0),131,(iv 71),(iv 0),171]
def zxf:=Obj.mk k8 .none (Data.cls (ClassData.mk (s 22) [k9] [81,k9] 80 (s 22) true [] [123,163,203] false .none false)) #[.none,.none,(some (sv 22 265)),(some (sv 22 273)),(some k10),(some (.bool true))]
def UK:=tO #[81]
def VS:=Obj.mk k6 .none (Data.fields #[k7,k8]) #[]
def zgI:=Obj.mk k4 .none (Data.dict #[en P 34 386 (sv 4 263),en P 35 388 (sv 57 387),en P 36 390 (.int 71 389),en P 41 400 179,en P 42 410 186,en P 43 417 193,en P 44 424 200,en P 37 428 201] 8) #[]
def zgH:=tO #[]
def zgG:=vO #[(iv 73),(iv 4),178,(iv 78),(iv 4),185,(iv 89),(iv 4),192,(iv 92),(iv 4),199]
def zgF:=Obj.mk k1 .none (Data.fields #[(sv 57 381),(sv 57 382),(sv 0 383),(iv 71),(iv 0),(iv 0),(iv 0),(iv 0),169,(.bool false),(iv 181),170,.none,.none,.none,.none,(iv 384),(iv 71),(sv 0 385)]) #[]
def zgE:=Obj.mk k3 .none Data.plain #[(some 171),(some 3),(some 168),.none,(some (sv 4 263)),.none,(some 0)]
def UJ:=tO #[]
def zgD:=vO #[]
def UI:=tO #[(sv 45 394),(sv 52 395),(sv 58 396),(sv 59 397)]
def UH:=tO #[]
def zgC:=gO 41 60 (L2.inClass (S 14) 0)
def UG:=cO 41 60 391 392 393 73 4 3 173 174 175 176 177 398 399
def UF:=uO 41 60 (L2.inClass (S 14) 0) 4 263 178
def UE:=tO #[]
def zgB:=vO #[]
def UD:=tO #[(sv 45 404),(sv 28 405),(sv 58 406),(sv 59 407)]
def UC:=tO #[]
def zgA:=gO 42 61 (L2.inClass (S 14) 1)
def UB:=cO 42 61 401 402 403 78 2 3 180 181 182 183 184 408 409
def UA:=uO 42 61 (L2.inClass (S 14) 1) 4 263 185
def Uz:=tO #[]
def zgz:=vO #[]
def Uy:=tO #[(sv 45 414)]
def Ux:=tO #[]
def zgy:=gO 43 62 (L2.inClass (S 14) 2)
def Uw:=cO 43 62 411 412 413 89 1 3 187 188 189 190 191 415 416
def Uv:=uO 43 62 (L2.inClass (S 14) 2) 4 263 192
def Uu:=tO #[]
def zgx:=vO #[]
def Ut:=tO #[(sv 45 421)]
def Us:=tO #[]
def zgw:=gO 44 63 (L2.inClass (S 14) 3)
def Ur:=cO 44 63 418 419 420 92 1 3 194 195 196 197 198 422 423
def Uq:=uO 44 63 (L2.inClass (S 14) 3) 4 263 199
def Up:=tO #[(sv 58 425),(sv 59 426),(sv 52 427)]
def Uo:=Obj.mk k4 .none (Data.dict #[en P 34 386 (sv 4 263),en P 36 390 (.int 71 389),en P 41 400 179,en P 42 410 186,en P 43 417 193,en P 44 424 200,en P 37 428 201,en P 5 429 .none] 2) #[]
def Um:=Obj.mk k8 .none (Data.cls (ClassData.mk (s 57) [81] [203,81,k9] 202 (s 57) true [] [] false .none false)) #[(some 166),.none,(some (sv 57 379)),(some (sv 57 387)),(some k10),(some (.bool true))]
def zgv:=Obj.mk k15 .none (Data.fields #[203,203,203]) #[]
def zgu:=Obj.mk k6 .none (Data.fields #[k16,203]) #[]
def zsR:=N zgy .nil .nil
def zsQ:=N o54 ztQ zsR
def zsP:=N UI .nil .nil
def zsO:=N Ur .nil .nil
def zsN:=N o62 ztL zsO
def zsM:=N VS .nil .nil
def zsL:=N UC .nil .nil
def zsK:=N Xv zsL .nil
def zsJ:=N zgx .nil .nil
def zsI:=N o58 ztI zsJ
def zsH:=N UF .nil .nil
def zsG:=N Um .nil .nil
def zsF:=N o66 ztD zsG
def zsE:=N zgF .nil .nil
def zsD:=N Uz .nil .nil
def zsC:=N Xq zsD .nil
def zsB:=N Uv .nil .nil
def zsA:=N o56 ztA zsB
def zsz:=N zgC .nil .nil
def zsy:=N Up .nil .nil
def zsx:=N o64 ztx zsy
def zsw:=N zgH .nil .nil
def zsv:=N UB .nil .nil
def zsu:=N Xs zsv .nil
def zst:=N Us .nil .nil
def zss:=N o60 ztu zst
def zsr:=N zgB .nil .nil
def zsq:=N zgu .nil .nil
def zsp:=N o68 ztp zsq
def zso:=N UJ .nil .nil
def zsn:=N Uy .nil .nil
def zsm:=N Wd zsn .nil
def zwA:=N (boot_o_5 P) (N (boot_o_9 P) (N o8 (N o24 zsA zty) (N o40 (N zxf ziA .nil) (N Xz zsz .nil))) (N o16 (N o32 zsx (N o99 zsw .nil)) (N o48 ztv zsu))) (N o2 (N o12 (N o28 zss zts) (N o44 ztq (N Xw zsr .nil))) (N o20 (N o36 zsp (N XC zso .nil)) (N o52 ztn zsm)))
def zsl:=N Uw .nil .nil
def zsk:=N o55 (ztm P) zsl
def zsj:=N UH .nil .nil
def zsi:=N Uq .nil .nil
def zsh:=N o63 zth zsi
def zsg:=N (zgI P) .nil .nil
def zsf:=N zgA .nil .nil
def zse:=N Xu zsf .nil
def zsd:=N Ut .nil .nil
def zsc:=N o59 zte zsd
def zsb:=N UE .nil .nil
def zsa:=N zgv .nil .nil
def zr9:=N o67 zs9 zsa
def zr8:=N zgE .nil .nil
def zr7:=N zgz .nil .nil
def zr6:=N We zr7 .nil
def zr5:=N Uu .nil .nil
def zr4:=N o57 zs6 zr5
def zr3:=N UG .nil .nil
def zr2:=N (Uo P) .nil .nil
def zr1:=N (o65 P) zs1 (zr2 P)
def zr0:=N zgG .nil .nil
def zrZ:=N UA .nil .nil
def zrY:=N (Xr P) zrZ .nil
def zrX:=N zgw .nil .nil
def zrW:=N o61 zsY zrX
def zrV:=N UK .nil .nil
def zrU:=N UD .nil .nil
def zrT:=N Wf zrU .nil
def zrS:=N zgD .nil .nil
def zrR:=N Ux .nil .nil
def zrQ:=N Xp zrR .nil
def zwz:=N (boot_o_6 P) (N (boot_o_10 P) (N o9 (N o25 zr4 (zs4 P)) (N o41 zs2 (N Xy zr3 .nil))) (N o17 (N o33 (zr1 P) (N XE zr0 .nil)) (N o49 zsZ (zrY P)))) (N o3 (N o13 (N o29 zrW (N o96 zrV .nil)) (N o45 zsW zrT)) (N o21 (N o37 zsU (N XB zrS .nil)) (N o53 zsS zrQ)))
def zwy:=N (boot_o_2 P) (N (boot_o_4 P) (N (boot_o_8 P) (N o7 (N o23 (zsk P) ztk) (N o39 (zti P) (N XA zsj .nil))) (N o15 (N o31 zsh (N o98 (zsg P) .nil)) (N o47 (ztf P) zse))) (N zxg (N o11 (N o27 zsc ztc) (N o43 zta (N Xx zsb .nil))) (N o19 (N o35 zr9 (N Wi zr8 .nil)) (N o51 zs7 zr6)))) (zwz P)
def zwx:=N (boot_o_0 P) (N (boot_o_1 P) (N (zxh P) (N (boot_o_7 P) (N o6 (N o22 zsQ ztO) (N o38 ztM (N Wh zsP .nil))) (N o14 (N o30 zsN (N o97 zsM .nil)) (N o46 ztJ zsK))) (N o0 (N o10 (N o26 zsI ztG) (N o42 ztE (N Wg zsH .nil))) (N o18 (N o34 zsF (N XD zsE .nil)) (N o50 ztB zsC)))) (zwA P)) (zwy P)
def sb4 (w:World) (os:OsState):SharedT:=⟨(zwx w.params),206,(Life.mk [] [] [] 0 [] [] false #[] [] 0 false false false 0 [2000,10,10] false 0 true [] [] 0 false),⟨[]⟩,(Drawn.mk 0 0 0 0),432,os⟩
def L3 (w:World) (os:OsState):Option (Flow×SharedT×Code×Pos):=segRunT treeTable pw w 11 an 1 346 (sb3 w os) (piecesOf zul env cE (Pos.mk 58 0 70 26) B)
def R3 (w:World) (os:OsState):Option (Flow×SharedT×Code×Pos):=some (.next,sb4 w os,cE,(Pos.mk 71 0 93 66))
theorem q3:tt (Hd.L3,Hd.R3)=true:=by k_qdec
theorem r3:∀ w,Fast.tw6196771281854559479 w=Hd.R3 w:=fun w=>by kernel_rfl
theorem e3 (w:World) (os:OsState):Hd.L3 w os=Hd.R3 w os:=(congrFun (congrFun Fast.te6196771281854559479 w) os).trans (congrFun (r3 w) os)
def zuk:List Stmt:=[S 15]
def zxe:=Obj.mk k4 .none (Data.dict #[en P 3 165 (sv 4 263),en P 5 166 .none,en P 6 167 .none,en P 7 168 k5,en P 8 169 .none,en P 9 170 6,en P 10 171 4,en P 11 173 (sv 0 172),en P 12 174 .none,en P 13 193 21,en P 14 201 26,en P 15 207 31,en P 16 213 36,en P 17 228 43,en P 18 236 50,en P 19 244 57,en P 20 253 64,en P 21 262 71,en P 22 284 81,en P 40 331 123,en P 51 378 163,en P 57 431 203,en P 64 480 243] 23) #[]
def zxd:=vO #[(iv 1),(iv 0),20,(iv 5),(iv 0),25,(iv 7),(iv 0),30,(iv 16),(iv 0),35,(iv 23),(iv 0),42,(iv 34),(iv 0),49,(iv 36),(iv 0),56,(iv 38),(iv 0),63,(iv 40),(iv 0),70,(iv 43),(iv 0),77,(iv 45),(iv 0),91,(iv 58),(iv 0),131,(iv 71),(iv 0),171,(iv 94),(iv 0),211]
def zxc:=Obj.mk k8 .none (Data.cls (ClassData.mk (s 22) [k9] [81,k9] 80 (s 22) true [] [123,163,203,243] false .none false)) #[.none,.none,(some (sv 22 265)),(some (sv 22 273)),(some k10),(some (.bool true))]
def Ul:=tO #[81]
def zgt:=Obj.mk k6 .none (Data.fields #[k7,k8]) #[]
def zgs:=Obj.mk k4 .none (Data.dict #[en P 34 439 (sv 4 263),en P 35 441 (sv 64 440),en P 36 443 (.int 94 442),en P 41 452 219,en P 42 460 226,en P 43 467 233,en P 44 474 240,en P 37 477 241] 8) #[]
def zgr:=tO #[]
def zgq:=vO #[(iv 96),(iv 4),218,(iv 100),(iv 4),225,(iv 103),(iv 4),232,(iv 106),(iv 4),239]
def zgp:=Obj.mk k1 .none (Data.fields #[(sv 64 434),(sv 64 435),(sv 0 436),(iv 94),(iv 0),(iv 0),(iv 0),(iv 0),209,(.bool false),(iv 181),210,.none,.none,.none,.none,(iv 437),(iv 94),(sv 0 438)]) #[]
def zgo:=Obj.mk k3 .none Data.plain #[(some 211),(some 3),(some 208),.none,(some (sv 4 263)),.none,(some 0)]
def Uk:=tO #[]
def zgn:=vO #[]
def Uj:=tO #[(sv 45 447),(sv 65 448),(sv 66 449)]
def Ui:=tO #[]
def zgm:=gO 41 67 (L2.inClass (S 15) 0)
def Uh:=cO 41 67 444 445 446 96 3 3 213 214 215 216 217 450 451
def Ug:=uO 41 67 (L2.inClass (S 15) 0) 4 263 218
def Uf:=tO #[]
def zgl:=vO #[]
def Ue:=tO #[(sv 45 456),(sv 28 457)]
def Ud:=tO #[]
def zgk:=gO 42 68 (L2.inClass (S 15) 1)
def zgj:=cO 42 68 453 454 455 100 2 3 220 221 222 223 224 458 459
def zgi:=uO 42 68 (L2.inClass (S 15) 1) 4 263 225
def zgh:=tO #[]
def zit:=vO #[]
def zgg:=tO #[(sv 45 464)]
def zgf:=tO #[]
def zis:=gO 43 69 (L2.inClass (S 15) 2)
def zge:=cO 43 69 461 462 463 103 1 3 227 228 229 230 231 465 466
def zgd:=uO 43 69 (L2.inClass (S 15) 2) 4 263 232
def zgc:=tO #[]
def zir:=vO #[]
def zgb:=tO #[(sv 45 471)]
def zga:=tO #[]
def ziq:=gO 44 70 (L2.inClass (S 15) 3)
def zf9:=cO 44 70 468 469 470 106 1 3 234 235 236 237 238 472 473
def zf8:=uO 44 70 (L2.inClass (S 15) 3) 4 263 239
def zf7:=tO #[(sv 65 475),(sv 66 476)]
def zf6:=Obj.mk k4 .none (Data.dict #[en P 34 439 (sv 4 263),en P 36 443 (.int 94 442),en P 41 452 219,en P 42 460 226,en P 43 467 233,en P 44 474 240,en P 37 477 241,en P 5 478 .none] 2) #[]
def zf5:=Obj.mk k8 .none (Data.cls (ClassData.mk (s 64) [81] [243,81,k9] 242 (s 64) true [] [] false .none false)) #[(some 206),.none,(some (sv 64 432)),(some (sv 64 440)),(some k10),(some (.bool true))]
def zio:=Obj.mk k15 .none (Data.fields #[243,243,243]) #[]
def zin:=Obj.mk k6 .none (Data.fields #[k16,243]) #[]
def zrP:=N Ud .nil .nil
def zrO:=N zgt .nil .nil
def zrN:=N zf9 .nil .nil
def zrM:=N Wh zsP zrN
def ziz:=N zis .nil .nil
def zrL:=N Uj .nil .nil
def zrK:=N zgh .nil .nil
def zrJ:=N zgp .nil .nil
def zrI:=N zf5 .nil .nil
def zrH:=N Wg zsH zrI
def zrG:=N zir .nil .nil
def zrF:=N XD zsE zrG
def zrE:=N Ug .nil .nil
def zrD:=N zgj .nil .nil
def zrC:=N zgr .nil .nil
def zrB:=N zf7 .nil .nil
def zrA:=N Xz zsz zrB
def zrz:=N zgd .nil .nil
def zry:=N zgm .nil .nil
def zrx:=N zgg .nil .nil
def zrw:=N Uk .nil .nil
def zrv:=N zin .nil .nil
def zru:=N Xw zsr zrv
def zrt:=N zga .nil .nil
def zrs:=N XC zso zrt
def zrr:=N zgl .nil .nil
def zww:=N (boot_o_5 P) (N (boot_o_9 P) (N o8 (N o24 zsA (N o91 ztz zrD)) (N o40 (N zxc ziA zrC) zrA)) (N o16 (N o32 zsx (N o99 zsw zrz)) (N o48 (N o83 ztw zry) zsu))) (N o2 (N o12 (N o28 zss (N o95 ztt zrx)) (N o44 (N o76 ztr zrw) zru)) (N o20 (N o36 zsp zrs) (N o52 (N o87 zto zrr) zsm)))
def zrq:=N zgk .nil .nil
def zrp:=N (zgs P) .nil .nil
def zro:=N zf8 .nil .nil
def zrn:=N XA zsj zro
def zrm:=N zge .nil .nil
def zrl:=N Ui .nil .nil
def zrk:=N zit .nil .nil
def zrj:=N zgo .nil .nil
def zri:=N zio .nil .nil
def zrh:=N Xx zsb zri
def zrg:=N zgb .nil .nil
def zrf:=N Wi zr8 zrg
def zre:=N Uf .nil .nil
def zrd:=N zgi .nil .nil
def zrc:=N zgq .nil .nil
def zrb:=N (zf6 P) .nil .nil
def zra:=N Xy zr3 (zrb P)
def zq9:=N zgc .nil .nil
def zq8:=N Uh .nil .nil
def zq7:=N zgf .nil .nil
def zq6:=N zgn .nil .nil
def zq5:=N Ul .nil .nil
def zq4:=N ziq .nil .nil
def zq3:=N XB zrS zq4
def zq2:=N Ue .nil .nil
def zwv:=N (boot_o_6 P) (N (boot_o_10 P) (N o9 (N o25 zr4 (N o92 (zs5 P) zrd)) (N o41 (N o73 zs3 zrc) (zra P))) (N o17 (N o33 (zr1 P) (N XE zr0 zq9)) (N o49 (N o84 zs0 zq8) (zrY P)))) (N o3 (N o13 (N o29 zrW (N o96 zrV zq7)) (N o45 (N o80 zsX zq6) zrT)) (N o21 (N o37 (N o69 zsV zq5) zq3) (N o53 (N o88 zsT zq2) zrQ)))
def zwu:=N (boot_o_2 P) (N (boot_o_4 P) (N (boot_o_8 P) (N o7 (N o23 (zsk P) (N o90 ztl zrq)) (N o39 (N (o71 P) ztj (zrp P)) zrn)) (N o15 (N o31 zsh (N o98 (zsg P) zrm)) (N o47 (N (o82 P) ztg zrl) zse))) (N zxd (N o11 (N o27 zsc (N o94 ztd zrk)) (N o43 (N o75 ztb zrj) zrh)) (N o19 (N o35 zr9 zrf) (N o51 (N o86 zs8 zre) zr6)))) (zwv P)
def zwt:=N (boot_o_0 P) (N (boot_o_1 P) (N (zxe P) (N (boot_o_7 P) (N o6 (N o22 zsQ (N o89 ztP zrP)) (N o38 (N o70 ztN zrO) zrM)) (N o14 (N o30 zsN (N o97 zsM ziz)) (N o46 (N o81 ztK zrL) zsK))) (N o0 (N o10 (N o26 zsI (N o93 ztH zrK)) (N o42 (N o74 ztF zrJ) zrH)) (N o18 (N o34 zsF zrF) (N o50 (N o85 ztC zrE) zsC)))) (zww P)) (zwu P)
def sb5 (w:World) (os:OsState):SharedT:=⟨(zwt w.params),246,(Life.mk [] [] [] 0 [] [] false #[] [] 0 false false false 0 [2000,10,10] false 0 true [] [] 0 false),⟨[]⟩,(Drawn.mk 0 0 0 0),481,os⟩
def L4 (w:World) (os:OsState):Option (Flow×SharedT×Code×Pos):=segRunT treeTable pw w 11 an 1 342 (sb4 w os) (piecesOf zuk env cE (Pos.mk 71 0 93 66) B)
def R4 (w:World) (os:OsState):Option (Flow×SharedT×Code×Pos):=some (.next,sb5 w os,cE,(Pos.mk 94 0 107 64))
theorem q4:tt (Hd.L4,Hd.R4)=true:=by k_qdec
theorem r4:∀ w,Fast.tw18063231807419426806 w=Hd.R4 w:=fun w=>by kernel_rfl
theorem e4 (w:World) (os:OsState):Hd.L4 w os=Hd.R4 w os:=(congrFun (congrFun Fast.te18063231807419426806 w) os).trans (congrFun (r4 w) os)
def zuj:List Stmt:=[S 16,S 17,S 18]
def zxb:=Obj.mk k4 .none (Data.dict #[en P 3 165 (sv 71 534),en P 5 166 .none,en P 6 167 .none,en P 7 168 k5,en P 8 169 .none,en P 9 170 6,en P 10 171 4,en P 11 173 (sv 0 172),en P 12 174 .none,en P 13 193 21,en P 14 201 26,en P 15 207 31,en P 16 213 36,en P 17 228 43,en P 18 236 50,en P 19 244 57,en P 20 253 64,en P 21 262 71,en P 22 284 81,en P 40 331 123,en P 51 378 163,en P 57 431 203,en P 64 480 243,en P 72 533 283,en P 73 553 295] 25) #[]
def zxa:=vO #[(iv 1),(iv 0),20,(iv 5),(iv 0),25,(iv 7),(iv 0),30,(iv 16),(iv 0),35,(iv 23),(iv 0),42,(iv 34),(iv 0),49,(iv 36),(iv 0),56,(iv 38),(iv 0),63,(iv 40),(iv 0),70,(iv 43),(iv 0),77,(iv 45),(iv 0),91,(iv 58),(iv 0),131,(iv 71),(iv 0),171,(iv 94),(iv 0),211,(iv 108),(iv 0),251,(iv 127),(iv 0),291]
def VR:=Obj.mk k8 .none (Data.cls (ClassData.mk (s 22) [k9] [81,k9] 80 (s 22) true [] [123,163,203,243,283] false .none false)) #[.none,.none,(some (sv 22 265)),(some (sv 22 273)),(some k10),(some (.bool true))]
def zf4:=tO #[81]
def zim:=Obj.mk k6 .none (Data.fields #[k7,k8]) #[]
def zil:=Obj.mk k4 .none (Data.dict #[en P 34 488 (sv 4 263),en P 35 490 (sv 72 489),en P 36 492 (.int 108 491),en P 41 503 259,en P 42 511 266,en P 43 518 273,en P 44 525 280,en P 37 530 281] 8) #[]
def zik:=tO #[]
def zij:=vO #[(iv 110),(iv 4),258,(iv 116),(iv 4),265,(iv 121),(iv 4),272,(iv 124),(iv 4),279]
def zii:=Obj.mk k1 .none (Data.fields #[(sv 72 483),(sv 72 484),(sv 0 485),(iv 108),(iv 0),(iv 0),(iv 0),(iv 0),249,(.bool false),(iv 181),250,.none,.none,.none,.none,(iv 486),(iv 108),(sv 0 487)]) #[]
def zih:=Obj.mk k3 .none Data.plain #[(some 251),(some 3),(some 248),.none,(some (sv 4 263)),.none,(some 0)]
def zf3:=tO #[]
def zig:=vO #[]
def zif:=tO #[(sv 45 496),(sv 58 497),(sv 59 498),(sv 74 499),(sv 75 500)]
def zie:=tO #[]
def znA:=gO 41 76 (L2.inClass (S 16) 0)
def zid:=cO 41 76 493 494 495 110 5 3 253 254 255 256 257 501 502
def zic:=uO 41 76 (L2.inClass (S 16) 0) 4 263 258
def zib:=tO #[]
def znz:=vO #[]
def zia:=tO #[(sv 45 507),(sv 28 508)]
def zh9:=tO #[]
def zny:=gO 42 77 (L2.inClass (S 16) 1)
def zh8:=cO 42 77 504 505 506 116 2 3 260 261 262 263 264 509 510
def zh7:=uO 42 77 (L2.inClass (S 16) 1) 4 263 265
def zh6:=tO #[]
def znx:=vO #[]
def zh5:=tO #[(sv 45 515)]
def zh4:=tO #[]
def znw:=gO 43 78 (L2.inClass (S 16) 2)
def zh3:=cO 43 78 512 513 514 121 1 3 267 268 269 270 271 516 517
def zh2:=uO 43 78 (L2.inClass (S 16) 2) 4 263 272
def zh1:=tO #[]
def znv:=vO #[]
def zh0:=tO #[(sv 45 522)]
def zhZ:=tO #[]
def znu:=gO 44 79 (L2.inClass (S 16) 3)
def zhY:=cO 44 79 519 520 521 124 1 3 274 275 276 277 278 523 524
def zhX:=uO 44 79 (L2.inClass (S 16) 3) 4 263 279
def zhW:=tO #[(sv 75 526),(sv 58 527),(sv 59 528),(sv 74 529)]
def zhV:=Obj.mk k4 .none (Data.dict #[en P 34 488 (sv 4 263),en P 36 492 (.int 108 491),en P 41 503 259,en P 42 511 266,en P 43 518 273,en P 44 525 280,en P 37 530 281,en P 5 531 .none] 2) #[]
def zhU:=Obj.mk k8 .none (Data.cls (ClassData.mk (s 72) [81] [283,81,k9] 282 (s 72) true [] [] false .none false)) #[(some 246),.none,(some (sv 72 481)),(some (sv 72 489)),(some k10),(some (.bool true))]
def znt:=Obj.mk k15 .none (Data.fields #[283,283,283]) #[]
def zns:=Obj.mk k6 .none (Data.fields #[k16,283]) #[]
def zhT:=tO #[k17]
def znr:=Obj.mk k6 .none (Data.fields #[k7,k8]) #[]
def znq:=Obj.mk k4 .none (Data.dict #[en P 34 543 (sv 71 534),en P 35 545 (sv 73 544),en P 36 547 (.int 127 546),en P 37 548 293] 4) #[]
def znp:=tO #[]
def zno:=vO #[]
def znn:=Obj.mk k1 .none (Data.fields #[(sv 73 538),(sv 73 539),(sv 0 540),(iv 127),(iv 0),(iv 0),(iv 0),(iv 0),289,(.bool false),(iv 181),290,.none,.none,.none,.none,(iv 541),(iv 127),(sv 0 542)]) #[]
def znm:=Obj.mk k3 .none Data.plain #[(some 291),(some 3),(some 288),.none,(some (sv 71 534)),.none,(some 0)]
def zhS:=tO #[]
def zhR:=Obj.mk k4 .none (Data.dict #[en P 34 543 (sv 71 534),en P 36 547 (.int 127 546),en P 37 548 293,en P 39 550 296,en P 5 551 .none] 3) #[]
def zw9:=Obj.mk k8 .none (Data.cls (ClassData.mk (s 73) [k17] [295,k17,k18,k19,k9] 294 (s 73) true [] [] false .none false)) #[(some 286),.none,(some (sv 73 536)),(some (sv 73 544)),(some k20),(some (.bool true))]
def zhQ:=Obj.mk k11 .none (Data.fields #[(sv 39 549),295,k14,.none]) #[]
def znl:=Obj.mk k15 .none (Data.fields #[295,295,295]) #[]
def znk:=Obj.mk k6 .none (Data.fields #[k16,295]) #[]
def zq1:=N zif .nil .nil
def zq0:=N zgY zq1 .nil
def zqZ:=N znr .nil .nil
def zqY:=N UP zqZ .nil
def zqX:=N o89 zqY zrP
def zqW:=N znw .nil .nil
def zqV:=N U0 zqW .nil
def zqU:=N o70 zqV zrO
def zqT:=N zh9 .nil .nil
def zqS:=N U6 zqT .nil
def zqR:=N o62 zqS zsO
def zqQ:=N zhY .nil .nil
def zqP:=N zgN zqQ .nil
def zqO:=N o81 zqP zrL
def zqN:=N zim .nil .nil
def zqM:=N zic .nil .nil
def zqL:=N zgU zqM .nil
def zqK:=N znn .nil .nil
def zqJ:=N UL zqK .nil
def zqI:=N o26 (N o58 zqL zsJ) (N o93 zqJ zrK)
def zqH:=N znv .nil .nil
def zqG:=N UX zqH .nil
def zqF:=N o74 zqG zrJ
def zqE:=N zh6 .nil .nil
def zqD:=N U3 zqE .nil
def zqC:=N o66 zqD zsG
def zqB:=N zhU .nil .nil
def zqA:=N zgM zqB .nil
def zqz:=N o85 zqA zrE
def zqy:=N zii .nil .nil
def zqx:=N znA .nil .nil
def zqw:=N zgW zqx .nil
def zqv:=N znp .nil .nil
def zqu:=N UN zqv .nil
def zqt:=N o91 zqu zrD
def zqs:=N zh2 .nil .nil
def zqr:=N UZ zqs .nil
def zqq:=N VR zqr zrC
def zqp:=N zh8 .nil .nil
def zqo:=N zgR zqp .nil
def zqn:=N znl .nil .nil
def zqm:=N zgH zqn .nil
def zql:=N o32 (N o64 zqo zsy) (N o99 zqm zrz)
def zqk:=N zhW .nil .nil
def zqj:=N UT zqk .nil
def zqi:=N o83 zqj zry
def zqh:=N zik .nil .nil
def zqg:=N znz .nil .nil
def zqf:=N U7 zqg .nil
def zqe:=N zhS .nil .nil
def zqd:=N zgJ zqe .nil
def zqc:=N o28 (N o60 zqf zst) (N o95 zqd zrx)
def zqb:=N zhZ .nil .nil
def zqa:=N UW zqb .nil
def zp9:=N o76 zqa zrw
def zp8:=N zh5 .nil .nil
def zp7:=N zgQ zp8 .nil
def zp6:=N o68 zp7 zsq
def zp5:=N zns .nil .nil
def zp4:=N UQ zp5 .nil
def zp3:=N o87 zp4 zrr
def zp2:=N zf3 .nil .nil
def zws:=N (boot_o_5 P) (N (boot_o_9 P) (N o8 (N o24 (N o56 zqw zsB) zqt) (N o40 zqq zrA)) (N o16 zql (N o48 zqi (N Xs zsv zqh)))) (N o2 (N o12 zqc (N o44 zp9 zru)) (N o20 (N o36 zp6 zrs) (N o52 zp3 (N Wd zsn zp2))))
def zp1:=N zie .nil .nil
def zp0:=N (zgX P) zp1 .nil
def zpZ:=N (znq P) .nil .nil
def zpY:=N UO (zpZ P) .nil
def zpX:=N o90 (zpY P) zrq
def zpW:=N zh3 .nil .nil
def zpV:=N zgP zpW .nil
def zpU:=N (o71 P) zpV (zrp P)
def zpT:=N zny .nil .nil
def zpS:=N U5 zpT .nil
def zpR:=N zhQ .nil .nil
def zpQ:=N (zgI P) zpR .nil
def zpP:=N o31 (N o63 zpS zsi) (N o98 (zpQ P) zrm)
def zpO:=N zhX .nil .nil
def zpN:=N UU zpO .nil
def zpM:=N (o82 P) zpN zrl
def zpL:=N (zil P) .nil .nil
def zpK:=N zib .nil .nil
def zpJ:=N zgT zpK .nil
def zpI:=N znm .nil .nil
def zpH:=N zgK zpI .nil
def zpG:=N o27 (N o59 zpJ zsd) (N o94 zpH zrk)
def zpF:=N zh0 .nil .nil
def zpE:=N zgO zpF .nil
def zpD:=N o75 zpE zrj
def zpC:=N znx .nil .nil
def zpB:=N U2 zpC .nil
def zpA:=N o67 zpB zsa
def zpz:=N znt .nil .nil
def zpy:=N UR zpz .nil
def zpx:=N o86 zpy zre
def zpw:=N zih .nil .nil
def zpv:=N zid .nil .nil
def zpu:=N zgV zpv .nil
def zpt:=N zno .nil .nil
def zps:=N (UM P) zpt .nil
def zpr:=N o92 (zps P) zrd
def zpq:=N zh1 .nil .nil
def zpp:=N UY zpq .nil
def zpo:=N o73 zpp zrc
def zpn:=N zh7 .nil .nil
def zpm:=N U4 zpn .nil
def zpl:=N znk .nil .nil
def zpk:=N zgG zpl .nil
def zpj:=N o33 (N (o65 P) zpm (zr2 P)) (N XE zpk zq9)
def zpi:=N (zhV P) .nil .nil
def zph:=N US (zpi P) .nil
def zpg:=N o84 (zph P) zq8
def zpf:=N zij .nil .nil
def zpe:=N zia .nil .nil
def zpd:=N zgS zpe .nil
def zpc:=N (zhR P) .nil .nil
def zpb:=N UK (zpc P) .nil
def zpa:=N o29 (N o61 zpd zrX) (N o96 (zpb P) zq7)
def zo9:=N znu .nil .nil
def zo8:=N UV zo9 .nil
def zo7:=N o80 zo8 zq6
def zo6:=N zf4 .nil .nil
def zo5:=N zh4 .nil .nil
def zo4:=N U1 zo5 .nil
def zo3:=N o69 zo4 zq5
def zo2:=N zhT .nil .nil
def zo1:=N zgL zo2 .nil
def zo0:=N o88 zo1 zq2
def zoZ:=N zig .nil .nil
def zwr:=N (boot_o_6 P) (N (boot_o_10 P) (N o9 (N o25 (N o57 zpu zr5) (zpr P)) (N o41 zpo (zra P))) (N o17 (zpj P) (N o49 (zpg P) (N (Xr P) zrZ zpf)))) (N o3 (N o13 (zpa P) (N o45 zo7 (N Wf zrU zo6))) (N o21 (N o37 zo3 zq3) (N o53 zo0 (N Xp zrR zoZ))))
def zwq:=N (boot_o_2 P) (N (boot_o_4 P) (N (boot_o_8 P) (N o7 (N o23 (N o55 (zp0 P) zsl) (zpX P)) (N o39 (zpU P) zrn)) (N o15 (zpP P) (N o47 (zpM P) (N Xu zsf (zpL P))))) (N zxa (N o11 zpG (N o43 zpD zrh)) (N o19 (N o35 zpA zrf) (N o51 zpx (N We zr7 zpw))))) (zwr P)
def zwp:=N (boot_o_0 P) (N (boot_o_1 P) (N (zxb P) (N (boot_o_7 P) (N o6 (N o22 (N o54 zq0 zsR) zqX) (N o38 zqU zrM)) (N o14 (N o30 zqR (N o97 (N VS (N zw9 .nil .nil) .nil) ziz)) (N o46 zqO (N Xv zsL zqN)))) (N o0 (N o10 zqI (N o42 zqF zrH)) (N o18 (N o34 zqC zrF) (N o50 zqz (N Xq zsD zqy))))) (zws P)) (zwq P)
def sb6 (w:World) (os:OsState):SharedT:=⟨(zwp w.params),299,(Life.mk [] [] [] 0 [] [] false #[] [] 0 false false false 0 [2000,10,10] false 0 true [] [] 0 false),⟨[]⟩,(Drawn.mk 0 0 0 0),554,os⟩
def L5 (w:World) (os:OsState):Option (Flow×SharedT×Code×Pos):=segRunT treeTable pw w 11 an 1 541 (sb5 w os) (piecesOf zuj env cE (Pos.mk 94 0 107 64) B)
def R5 (w:World) (os:OsState):Option (Flow×SharedT×Code×Pos):=some (.next,sb6 w os,cE,(Pos.mk 127 0 128 8))
theorem q5:tt (Hd.L5,Hd.R5)=true:=by k_qdec
theorem r5:∀ w,Fast.tw7289443652863241282 w=Hd.R5 w:=fun w=>by kernel_rfl
theorem e5 (w:World) (os:OsState):Hd.L5 w os=Hd.R5 w os:=(congrFun (congrFun Fast.te7289443652863241282 w) os).trans (congrFun (r5 w) os)
def zui:List Stmt:=[S 19,S 20]
def zw8:=Obj.mk k4 .none (Data.dict #[en P 3 165 (sv 71 534),en P 5 166 .none,en P 6 167 .none,en P 7 168 k5,en P 8 169 .none,en P 9 170 6,en P 10 171 4,en P 11 173 (sv 0 172),en P 12 174 .none,en P 13 193 21,en P 14 201 26,en P 15 207 31,en P 16 213 36,en P 17 228 43,en P 18 236 50,en P 19 244 57,en P 20 253 64,en P 21 262 71,en P 22 284 81,en P 40 331 123,en P 51 378 163,en P 57 431 203,en P 64 480 243,en P 72 533 283,en P 73 553 295,en P 80 569 308,en P 81 585 320] 27) #[]
def zw7:=vO #[(iv 1),(iv 0),20,(iv 5),(iv 0),25,(iv 7),(iv 0),30,(iv 16),(iv 0),35,(iv 23),(iv 0),42,(iv 34),(iv 0),49,(iv 36),(iv 0),56,(iv 38),(iv 0),63,(iv 40),(iv 0),70,(iv 43),(iv 0),77,(iv 45),(iv 0),91,(iv 58),(iv 0),131,(iv 71),(iv 0),171,(iv 94),(iv 0),211,(iv 108),(iv 0),251,(iv 127),(iv 0),291,(iv 129),(iv 0),304,(iv 131),(iv 0),316]
def zw6:=Obj.mk k8 .none (Data.cls (ClassData.mk (s 73) [k17] [295,k17,k18,k19,k9] 294 (s 73) true [] [308,320] false .none false)) #[(some 286),.none,(some (sv 73 536)),(some (sv 73 544)),(some k20),(some (.bool true))]
def zhP:=tO #[295]
def znj:=Obj.mk k6 .none (Data.fields #[k7,k8]) #[]
def zni:=Obj.mk k4 .none (Data.dict #[en P 34 561 (sv 71 534),en P 35 563 (sv 80 562),en P 36 565 (.int 129 564),en P 37 566 306] 4) #[]
def znh:=tO #[]
def zng:=vO #[]
def znf:=Obj.mk k1 .none (Data.fields #[(sv 80 556),(sv 80 557),(sv 0 558),(iv 129),(iv 0),(iv 0),(iv 0),(iv 0),302,(.bool false),(iv 181),303,.none,.none,.none,.none,(iv 559),(iv 129),(sv 0 560)]) #[]
def zne:=Obj.mk k3 .none Data.plain #[(some 304),(some 3),(some 301),.none,(some (sv 71 534)),.none,(some 0)]
def zhO:=tO #[]
def zhN:=Obj.mk k4 .none (Data.dict #[en P 34 561 (sv 71 534),en P 36 565 (.int 129 564),en P 37 566 306,en P 5 567 .none] 2) #[]
def zhM:=Obj.mk k8 .none (Data.cls (ClassData.mk (s 80) [295] [308,295,k17,k18,k19,k9] 307 (s 80) true [] [] false .none false)) #[(some 299),.none,(some (sv 80 554)),(some (sv 80 562)),(some k20),(some (.bool true))]
def znd:=Obj.mk k15 .none (Data.fields #[308,308,308]) #[]
def znc:=Obj.mk k6 .none (Data.fields #[k16,308]) #[]
def zhL:=tO #[295]
def znb:=Obj.mk k6 .none (Data.fields #[k7,k8]) #[]
def zna:=Obj.mk k4 .none (Data.dict #[en P 34 577 (sv 71 534),en P 35 579 (sv 81 578),en P 36 581 (.int 131 580),en P 37 582 318] 4) #[]
def zm9:=tO #[]
def zm8:=vO #[]
def zm7:=Obj.mk k1 .none (Data.fields #[(sv 81 572),(sv 81 573),(sv 0 574),(iv 131),(iv 0),(iv 0),(iv 0),(iv 0),314,(.bool false),(iv 181),315,.none,.none,.none,.none,(iv 575),(iv 131),(sv 0 576)]) #[]
def zm6:=Obj.mk k3 .none Data.plain #[(some 316),(some 3),(some 313),.none,(some (sv 71 534)),.none,(some 0)]
def zhK:=tO #[]
def zhJ:=Obj.mk k4 .none (Data.dict #[en P 34 577 (sv 71 534),en P 36 581 (.int 131 580),en P 37 582 318,en P 5 583 .none] 2) #[]
def zhI:=Obj.mk k8 .none (Data.cls (ClassData.mk (s 81) [295] [320,295,k17,k18,k19,k9] 319 (s 81) true [] [] false .none false)) #[(some 311),.none,(some (sv 81 570)),(some (sv 81 578)),(some k20),(some (.bool true))]
def zm5:=Obj.mk k15 .none (Data.fields #[320,320,320]) #[]
def zm4:=Obj.mk k6 .none (Data.fields #[k16,320]) #[]
def zoY:=N (zhJ P) .nil .nil
def zoX:=N zgy (zoY P) .nil
def zoW:=N zng .nil .nil
def zoV:=N UI zoW .nil
def zoU:=N zhL .nil .nil
def zoT:=N UC zoU .nil
def zoS:=N (zhN P) .nil .nil
def zoR:=N UF (zoS P) .nil
def zoQ:=N zhP .nil .nil
def zoP:=N zgF zoQ .nil
def zoO:=N zm8 .nil .nil
def zoN:=N Uz zoO .nil
def zoM:=N zm5 .nil .nil
def zoL:=N Uv zoM .nil
def zoK:=N zne .nil .nil
def zoJ:=N zgC zoK .nil
def zoI:=N (zna P) .nil .nil
def zoH:=N UB (zoI P) .nil
def zoG:=N znd .nil .nil
def zoF:=N zgB zoG .nil
def zoE:=N (zni P) .nil .nil
def zoD:=N UJ (zoE P) .nil
def zoC:=N zm6 .nil .nil
def zoB:=N Uy zoC .nil
def zwo:=N (boot_o_5 P) (N (boot_o_9 P) (N o8 (N o24 (N o56 zqw zoL) zqt) (N o40 zqq (N Xz zoJ zrB))) (N o16 zql (N o48 zqi (N Xs (zoH P) zqh)))) (N o2 (N o12 zqc (N o44 zp9 (N Xw zoF zrv))) (N o20 (N o36 zp6 (N XC (zoD P) zrt)) (N o52 zp3 (N Wd zoB zp2))))
def zwn:=N (boot_o_1 P) (N (zw8 P) (N (boot_o_7 P) (N o6 (N o22 (N o54 zq0 (zoX P)) zqX) (N o38 zqU (N Wh zoV zrN))) (N o14 (N o30 zqR (N o97 (N VS (N zw6 .nil .nil) .nil) ziz)) (N o46 zqO (N Xv zoT zqN)))) (N o0 (N o10 zqI (N o42 zqF (N Wg (zoR P) zrI))) (N o18 (N o34 zqC (N XD zoP zrG)) (N o50 zqz (N Xq zoN zqy))))) (zwo P)
def zoA:=N zhI .nil .nil
def zoz:=N Uw zoA .nil
def zoy:=N znf .nil .nil
def zox:=N UH zoy .nil
def zow:=N znb .nil .nil
def zov:=N zgA zow .nil
def zou:=N zhM .nil .nil
def zot:=N UE zou .nil
def zos:=N znj .nil .nil
def zor:=N zgE zos .nil
def zoq:=N zm7 .nil .nil
def zop:=N zgz zoq .nil
def zoo:=N zm4 .nil .nil
def zon:=N o57 zpu (N Uu zoo .nil)
def zom:=N zhO .nil .nil
def zol:=N UG zom .nil
def zok:=N zm9 .nil .nil
def zoj:=N UA zok .nil
def zoi:=N znc .nil .nil
def zoh:=N UD zoi .nil
def zog:=N znh .nil .nil
def zof:=N zgD zog .nil
def zoe:=N zhK .nil .nil
def zod:=N Ux zoe .nil
def zwm:=N (boot_o_6 P) (N (boot_o_10 P) (N o9 (N o25 zon (zpr P)) (N o41 zpo (N Xy zol (zrb P)))) (N o17 (zpj P) (N o49 (zpg P) (N (Xr P) zoj zpf)))) (N o3 (N o13 (zpa P) (N o45 zo7 (N Wf zoh zo6))) (N o21 (N o37 zo3 (N XB zof zq4)) (N o53 zo0 (N Xp zod zoZ))))
def zwl:=N (boot_o_0 P) (zwn P) (N (boot_o_2 P) (N (boot_o_4 P) (N (boot_o_8 P) (N o7 (N o23 (N o55 (zp0 P) zoz) (zpX P)) (N o39 (zpU P) (N XA zox zro))) (N o15 (zpP P) (N o47 (zpM P) (N Xu zov (zpL P))))) (N zw7 (N o11 zpG (N o43 zpD (N Xx zot zri))) (N o19 (N o35 zpA (N Wi zor zrg)) (N o51 zpx (N We zop zpw))))) (zwm P))
def sb7 (w:World) (os:OsState):SharedT:=⟨(zwl w.params),323,(Life.mk [] [] [] 0 [] [] false #[] [] 0 false false false 0 [2000,10,10] false 0 true [] [] 0 false),⟨[]⟩,(Drawn.mk 0 0 0 0),586,os⟩
def L6 (w:World) (os:OsState):Option (Flow×SharedT×Code×Pos):=segRunT treeTable pw w 11 an 1 427 (sb6 w os) (piecesOf zui env cE (Pos.mk 127 0 128 8) B)
def R6 (w:World) (os:OsState):Option (Flow×SharedT×Code×Pos):=some (.next,sb7 w os,cE,(Pos.mk 131 0 132 8))
theorem q6:tt (Hd.L6,Hd.R6)=true:=by k_qdec
theorem r6:∀ w,Fast.tw11518265509499319272 w=Hd.R6 w:=fun w=>by kernel_rfl
theorem e6 (w:World) (os:OsState):Hd.L6 w os=Hd.R6 w os:=(congrFun (congrFun Fast.te11518265509499319272 w) os).trans (congrFun (r6 w) os)
def zuh:List Stmt:=[S 21,S 22,S 23,S 24,S 25,S 26,S 27,S 28,S 29,S 30,S 31,S 32,S 33,S 34,S 35,S 36]
def zw5:=Obj.mk k4 .none (Data.dict #[en P 3 165 (sv 82 611),en P 5 166 .none,en P 6 167 .none,en P 7 168 k5,en P 8 169 .none,en P 9 170 6,en P 10 171 4,en P 11 173 (sv 0 172),en P 12 174 .none,en P 13 193 21,en P 14 201 26,en P 15 207 31,en P 16 213 36,en P 17 228 43,en P 18 236 50,en P 19 244 57,en P 20 253 64,en P 21 262 71,en P 22 284 81,en P 40 331 123,en P 51 378 163,en P 57 431 203,en P 64 480 243,en P 72 533 283,en P 73 553 295,en P 80 569 308,en P 81 585 320,en P 83 601 332,en P 84 610 341,en P 85 615 342,en P 86 621 343,en P 87 630 344,en P 88 635 345,en P 89 637 (.int 60 636),en P 90 639 (.int 8 638),en P 91 646 352,en P 92 654 359,en P 93 661 366,en P 94 671 373,en P 95 680 380,en P 96 686 385] 41) #[]
def zw4:=vO #[(iv 1),(iv 0),20,(iv 5),(iv 0),25,(iv 7),(iv 0),30,(iv 16),(iv 0),35,(iv 23),(iv 0),42,(iv 34),(iv 0),49,(iv 36),(iv 0),56,(iv 38),(iv 0),63,(iv 40),(iv 0),70,(iv 43),(iv 0),77,(iv 45),(iv 0),91,(iv 58),(iv 0),131,(iv 71),(iv 0),171,(iv 94),(iv 0),211,(iv 108),(iv 0),251,(iv 127),(iv 0),291,(iv 129),(iv 0),304,(iv 131),(iv 0),316,(iv 133),(iv 0),328,(iv 136),(iv 0),340,(iv 145),(iv 0),351,(iv 147),(iv 0),358,(iv 149),(iv 0),365,(iv 151),(iv 0),372,(iv 156),(iv 0),379,(iv 170),(iv 0),384]
def zhH:=Obj.mk k8 .none (Data.cls (ClassData.mk (s 73) [k17] [295,k17,k18,k19,k9] 294 (s 73) true [] [308,320,332] false .none false)) #[(some 286),.none,(some (sv 73 536)),(some (sv 73 544)),(some k20),(some (.bool true))]
def zhG:=tO #[295]
def zm3:=Obj.mk k6 .none (Data.fields #[k7,k8]) #[]
def zm2:=Obj.mk k4 .none (Data.dict #[en P 34 593 (sv 71 534),en P 35 595 (sv 83 594),en P 36 597 (.int 133 596),en P 37 598 330] 4) #[]
def zm1:=tO #[]
def zm0:=vO #[]
def zmZ:=Obj.mk k1 .none (Data.fields #[(sv 83 588),(sv 83 589),(sv 0 590),(iv 133),(iv 0),(iv 0),(iv 0),(iv 0),326,(.bool false),(iv 181),327,.none,.none,.none,.none,(iv 591),(iv 133),(sv 0 592)]) #[]
def zmY:=Obj.mk k3 .none Data.plain #[(some 328),(some 3),(some 325),.none,(some (sv 71 534)),.none,(some 0)]
def zhF:=tO #[]
def zhE:=Obj.mk k4 .none (Data.dict #[en P 34 593 (sv 71 534),en P 36 597 (.int 133 596),en P 37 598 330,en P 5 599 .none] 2) #[]
def zhD:=Obj.mk k8 .none (Data.cls (ClassData.mk (s 83) [295] [332,295,k17,k18,k19,k9] 331 (s 83) true [] [] false .none false)) #[(some 323),.none,(some (sv 83 586)),(some (sv 83 594)),(some k20),(some (.bool true))]
def zmX:=Obj.mk k15 .none (Data.fields #[332,332,332]) #[]
def zmW:=Obj.mk k6 .none (Data.fields #[k16,332]) #[]
def zhC:=tO #[]
def zmV:=vO #[]
def zhB:=tO #[(sv 46 607)]
def zhA:=tO #[]
def zmU:=gO 84 84 (S 23)
def zhz:=cO 84 84 604 605 606 136 1 3 335 336 337 338 339 608 609
def zhy:=uO 84 84 (S 23) 97 602 340
def zhx:=tO #[(sv 98 613),(sv 99 614)]
def zhw:=tO #[(sv 100 616),(sv 98 617),(sv 101 618),(sv 99 619),(sv 102 620)]
def zhv:=tO #[(sv 100 622),(sv 98 623),(sv 101 624),(sv 99 625),(sv 103 626),(sv 104 627),(sv 105 628),(sv 106 629)]
def zhu:=tO #[(sv 107 631),(sv 108 632),(sv 109 633),(sv 110 634)]
def zht:=tO #[]
def zmT:=vO #[]
def zhs:=tO #[(sv 46 643)]
def zhr:=tO #[]
def zmS:=gO 91 91 (S 31)
def zhq:=cO 91 91 640 641 642 145 1 3 346 347 348 349 350 644 645
def zhp:=uO 91 91 (S 31) 82 611 351
def zmR:=tO #[]
def zwc:=vO #[]
def zmQ:=tO #[(sv 52 650),(sv 44 651)]
def zmP:=tO #[]
def zwb:=gO 92 92 (S 32)
def zmO:=cO 92 92 647 648 649 147 2 3 353 354 355 356 357 652 653
def zmN:=uO 92 92 (S 32) 82 611 358
def zmM:=tO #[]
def zwa:=vO #[]
def zmL:=tO #[(sv 66 658)]
def zmK:=tO #[]
def zv9:=gO 93 93 (S 33)
def zmJ:=cO 93 93 655 656 657 149 1 3 360 361 362 363 364 659 660
def zmI:=uO 93 93 (S 33) 82 611 365
def zmH:=tO #[]
def zv8:=vO #[]
def zmG:=tO #[(sv 111 665),(sv 112 666),(sv 113 667),(sv 114 668)]
def zmF:=tO #[]
def zv7:=gO 94 94 (S 34)
def zmE:=cO 94 94 662 663 664 151 3 3 367 368 369 370 371 669 670
def zmD:=uO 94 94 (S 34) 82 611 372
def zmC:=tO #[]
def zv6:=vO #[]
def zmB:=tO #[(sv 115 675),(sv 112 676),(sv 113 677)]
def zmA:=tO #[]
def zv5:=gO 95 95 (S 35)
def zmz:=cO 95 95 672 673 674 156 3 3 374 375 376 377 378 678 679
def zmy:=uO 95 95 (S 35) 82 611 379
def zmx:=tO #[]
def zv4:=vO #[]
def zv3:=gO 96 96 (S 36)
def zmw:=Obj.mk k1 .none (Data.fields #[(sv 96 681),(sv 96 682),(sv 0 683),(iv 170),(iv 1),(iv 0),(iv 0),(iv 3),381,(.bool true),(iv 181),382,.none,.none,.none,383,(iv 684),(iv 170),(sv 0 685)]) #[]
def zmv:=uO 96 96 (S 36) 82 611 384
def zoc:=N zv3 .nil .nil
def zob:=N zgY zq1 zoc
def zoa:=N zhq .nil .nil
def zn9:=N Ud zoa .nil
def zn8:=N zhC .nil .nil
def zn7:=N zgt zn8 .nil
def zn6:=N zmH .nil .nil
def zn5:=N zf9 zn6 .nil
def zn4:=N zm0 .nil .nil
def zn3:=N zhH .nil .nil
def zn2:=N zmN .nil .nil
def zn1:=N zis zn2 .nil
def zfp:=N zhw .nil .nil
def zfo:=N Uj zfp .nil
def zfn:=N zv6 .nil .nil
def zfm:=N zim zfn .nil
def zfl:=N zhG .nil .nil
def zfk:=N zmQ .nil .nil
def zfj:=N zgh zfk .nil
def zfi:=N zmU .nil .nil
def zfh:=N zgp zfi .nil
def zfg:=N zv7 .nil .nil
def zff:=N zf5 zfg .nil
def zfe:=N (zhE P) .nil .nil
def zfd:=N Um (zfe P) .nil
def zfc:=N zmK .nil .nil
def zfb:=N zir zfc .nil
def zfa:=N zmT .nil .nil
def ze9:=N Ug zfa .nil
def ze8:=N zmz .nil .nil
def ze7:=N zii ze8 .nil
def zje:=N o0 (N o10 (N o26 (N o58 zqL (N zgx zfl .nil)) (N o93 zqJ zfj)) (N o42 (N o74 zqG zfh) (N Wg (zoR P) zff))) (N o18 (N o34 (N o66 zqD (zfd P)) (N XD zoP zfb)) (N o50 (N o85 zqA ze9) (N Xq zoN ze7)))
def ze6:=N zmv .nil .nil
def ze5:=N zgW zqx ze6
def ze4:=N zmR .nil .nil
def ze3:=N zgj ze4 .nil
def ze2:=N zhB .nil .nil
def ze1:=N zgr ze2 .nil
def ze0:=N zmG .nil .nil
def zeZ:=N zf7 ze0 .nil
def zeY:=N zmY .nil .nil
def zeX:=N Up zeY .nil
def zeW:=N zwa .nil .nil
def zeV:=N zgd zeW .nil
def zeU:=N zhu .nil .nil
def zeT:=N zgm zeU .nil
def zeS:=N zmA .nil .nil
def zeR:=N zik zeS .nil
def zeQ:=N (zm2 P) .nil .nil
def zeP:=N zwb .nil .nil
def zeO:=N zgg zeP .nil
def zeN:=N zhy .nil .nil
def zeM:=N Uk zeN .nil
def zeL:=N zmD .nil .nil
def zeK:=N zin zeL .nil
def zeJ:=N zmX .nil .nil
def zeI:=N zgu zeJ .nil
def zeH:=N zmJ .nil .nil
def zeG:=N zga zeH .nil
def zeF:=N zhr .nil .nil
def zeE:=N zgl zeF .nil
def zeD:=N zmx .nil .nil
def zeC:=N zf3 zeD .nil
def zjd:=N o2 (N o12 (N o28 (N o60 zqf (N Us (zeQ P) .nil)) (N o95 zqd zeO)) (N o44 (N o76 zqa zeM) (N Xw zoF zeK))) (N o20 (N o36 (N o68 zp7 zeI) (N XC (zoD P) zeG)) (N o52 (N o87 zp4 zeE) (N Wd zoB zeC)))
def zjc:=N (boot_o_5 P) (N (boot_o_9 P) (N o8 (N o24 (N o56 ze5 zoL) (N o91 zqu ze3)) (N o40 (N VR zqr ze1) (N Xz zoJ zeZ))) (N o16 (N o32 (N o64 zqo zeX) (N o99 zqm zeV)) (N o48 (N o83 zqj zeT) (N Xs (zoH P) zeR)))) (zjd P)
def zeB:=N zmw .nil .nil
def zeA:=N (zgX P) zp1 zeB
def zez:=N zhp .nil .nil
def zey:=N zgk zez .nil
def zex:=N zmV .nil .nil
def zew:=N (zgs P) zex .nil
def zev:=N zv8 .nil .nil
def zeu:=N zf8 zev .nil
def zet:=N zmZ .nil .nil
def zes:=N Uq zet .nil
def zer:=N zmM .nil .nil
def zeq:=N zge zer .nil
def zep:=N zhv .nil .nil
def zeo:=N Ui zep .nil
def zen:=N zmB .nil .nil
def zem:=N (zil P) zen .nil
def zel:=N zm3 .nil .nil
def zek:=N zmP .nil .nil
def zej:=N zit zek .nil
def zei:=N zhz .nil .nil
def zeh:=N zgo zei .nil
def zeg:=N zmE .nil .nil
def zef:=N zio zeg .nil
def zee:=N zhD .nil .nil
def zed:=N zgv zee .nil
def zec:=N zv9 .nil .nil
def zeb:=N zgb zec .nil
def zea:=N zhs .nil .nil
def zd9:=N Uf zea .nil
def zd8:=N zmy .nil .nil
def zd7:=N zih zd8 .nil
def zjb:=N zw4 (N o11 (N o27 (N o59 zpJ (N Ut zel .nil)) (N o94 zpH zej)) (N o43 (N o75 zpE zeh) (N Xx zot zef))) (N o19 (N o35 (N o67 zpB zed) (N Wi zor zeb)) (N o51 (N o86 zpy zd9) (N We zop zd7)))
def zd6:=N zwc .nil .nil
def zd5:=N zgi zd6 .nil
def zd4:=N zhA .nil .nil
def zd3:=N zgq zd4 .nil
def zd2:=N zmF .nil .nil
def zd1:=N (zf6 P) zd2 .nil
def zd0:=N zhF .nil .nil
def zdZ:=N (Uo P) zd0 .nil
def zdY:=N zmL .nil .nil
def zdX:=N zgc zdY .nil
def zdW:=N zht .nil .nil
def zdV:=N Uh zdW .nil
def zdU:=N zv5 .nil .nil
def zdT:=N zij zdU .nil
def zdS:=N zm1 .nil .nil
def zdR:=N zmO .nil .nil
def zdQ:=N zgf zdR .nil
def zdP:=N zhx .nil .nil
def zdO:=N zgn zdP .nil
def zdN:=N zmC .nil .nil
def zdM:=N zf4 zdN .nil
def zdL:=N zmW .nil .nil
def zdK:=N Ul zdL .nil
def zdJ:=N zmI .nil .nil
def zdI:=N ziq zdJ .nil
def zdH:=N zmS .nil .nil
def zdG:=N Ue zdH .nil
def zdF:=N zv4 .nil .nil
def zdE:=N zig zdF .nil
def zja:=N o3 (N o13 (N o29 (N o61 zpd (N zgw zdS .nil)) (N o96 (zpb P) zdQ)) (N o45 (N o80 zo8 zdO) (N Wf zoh zdM))) (N o21 (N o37 (N o69 zo4 zdK) (N XB zof zdI)) (N o53 (N o88 zo1 zdG) (N Xp zod zdE)))
def zi9:=N (boot_o_6 P) (N (boot_o_10 P) (N o9 (N o25 zon (N o92 (zps P) zd5)) (N o41 (N o73 zpp zd3) (N Xy zol (zd1 P)))) (N o17 (N o33 (N (o65 P) zpm (zdZ P)) (N XE zpk zdX)) (N o49 (N o84 (zph P) zdV) (N (Xr P) zoj zdT)))) (zja P)
def zi8:=N (boot_o_2 P) (N (boot_o_4 P) (N (boot_o_8 P) (N o7 (N o23 (N o55 (zeA P) zoz) (N o90 (zpY P) zey)) (N o39 (N (o71 P) zpV (zew P)) (N XA zox zeu))) (N o15 (N o31 (N o63 zpS zes) (N o98 (zpQ P) zeq)) (N o47 (N (o82 P) zpN zeo) (N Xu zov (zem P))))) zjb) (zi9 P)
def zi7:=N (boot_o_0 P) (N (boot_o_1 P) (N (zw5 P) (N (boot_o_7 P) (N o6 (N o22 (N o54 zob (zoX P)) (N o89 zqY zn9)) (N o38 (N o70 zqV zn7) (N Wh zoV zn5))) (N o14 (N o30 (N o62 zqS (N Ur zn4 .nil)) (N o97 (N VS zn3 .nil) zn1)) (N o46 (N o81 zqP zfo) (N Xv zoT zfm)))) (zje P)) (zjc P)) (zi8 P)
def sb8 (w:World) (os:OsState):SharedT:=⟨(zi7 w.params),386,(Life.mk [] [] [] 0 [] [] false #[] [] 0 false false false 0 [2000,10,10] false 0 true [] [] 0 false),⟨[]⟩,(Drawn.mk 0 0 0 0),687,os⟩
def L7 (w:World) (os:OsState):Option (Flow×SharedT×Code×Pos):=segRunT treeTable pw w 11 an 1 515 (sb7 w os) (piecesOf zuh env cE (Pos.mk 131 0 132 8) B)
def R7 (w:World) (os:OsState):Option (Flow×SharedT×Code×Pos):=some (.next,sb8 w os,cE,(Pos.mk 170 0 171 53))
theorem q7:tt (Hd.L7,Hd.R7)=true:=by k_qdec
theorem r7:∀ w,Fast.tw9490284035958612641 w=Hd.R7 w:=fun w=>by kernel_rfl
theorem e7 (w:World) (os:OsState):Hd.L7 w os=Hd.R7 w os:=(congrFun (congrFun Fast.te9490284035958612641 w) os).trans (congrFun (r7 w) os)
def zug:List Stmt:=[S 37,S 38,S 39,S 40,S 41,S 42,S 43,S 44]
def zw3:=Obj.mk k4 .none (Data.dict #[en P 3 165 (sv 116 757),en P 5 166 .none,en P 6 167 .none,en P 7 168 k5,en P 8 169 .none,en P 9 170 6,en P 10 171 4,en P 11 173 (sv 0 172),en P 12 174 .none,en P 13 193 21,en P 14 201 26,en P 15 207 31,en P 16 213 36,en P 17 228 43,en P 18 236 50,en P 19 244 57,en P 20 253 64,en P 21 262 71,en P 22 284 81,en P 40 331 123,en P 51 378 163,en P 57 431 203,en P 64 480 243,en P 72 533 283,en P 73 553 295,en P 80 569 308,en P 81 585 320,en P 83 601 332,en P 84 610 341,en P 85 615 342,en P 86 621 343,en P 87 630 344,en P 88 635 345,en P 89 637 (.int 60 636),en P 90 639 (.int 8 638),en P 91 646 352,en P 92 654 359,en P 93 661 366,en P 94 671 373,en P 95 680 380,en P 96 686 385,en P 117 756 423,en P 118 760 (.int 12 759),en P 119 762 (.int 99 761),en P 120 771 434,en P 121 779 441,en P 122 789 448,en P 123 801 455] 48) #[]
def zw2:=vO #[(iv 1),(iv 0),20,(iv 5),(iv 0),25,(iv 7),(iv 0),30,(iv 16),(iv 0),35,(iv 23),(iv 0),42,(iv 34),(iv 0),49,(iv 36),(iv 0),56,(iv 38),(iv 0),63,(iv 40),(iv 0),70,(iv 43),(iv 0),77,(iv 45),(iv 0),91,(iv 58),(iv 0),131,(iv 71),(iv 0),171,(iv 94),(iv 0),211,(iv 108),(iv 0),251,(iv 127),(iv 0),291,(iv 129),(iv 0),304,(iv 131),(iv 0),316,(iv 133),(iv 0),328,(iv 136),(iv 0),340,(iv 145),(iv 0),351,(iv 147),(iv 0),358,(iv 149),(iv 0),365,(iv 151),(iv 0),372,(iv 156),(iv 0),379,(iv 170),(iv 0),384,(iv 172),(iv 0),391,(iv 207),(iv 0),433,(iv 216),(iv 0),440,(iv 222),(iv 0),447,(iv 231),(iv 0),454]
def zv2:=tO #[]
def zv1:=Obj.mk k6 .none (Data.fields #[k7,k8]) #[]
def zv0:=Obj.mk k4 .none (Data.dict #[en P 34 694 (sv 82 611),en P 35 696 (sv 117 695),en P 36 698 (.int 172 697),en P 41 709 399,en P 124 718 406,en P 125 731 413,en P 126 744 420,en P 37 749 421] 8) #[]
def zvZ:=tO #[]
def zvY:=vO #[(iv 174),(iv 4),398,(iv 188),(iv 4),405,(iv 191),(iv 4),412,(iv 197),(iv 4),419]
def zvX:=Obj.mk k1 .none (Data.fields #[(sv 117 689),(sv 117 690),(sv 0 691),(iv 172),(iv 0),(iv 0),(iv 0),(iv 0),389,(.bool false),(iv 181),390,.none,.none,.none,.none,(iv 692),(iv 172),(sv 0 693)]) #[]
def zvW:=Obj.mk k3 .none Data.plain #[(some 391),(some 3),(some 388),.none,(some (sv 82 611)),.none,(some 0)]
def zmu:=tO #[]
def zvV:=vO #[]
def zmt:=tO #[(sv 45 702),(sv 127 703),(sv 128 704),(sv 129 705),(sv 130 706)]
def zms:=tO #[]
def zvU:=gO 41 131 (L2.inClass (S 37) 0)
def zmr:=cO 41 131 699 700 701 174 5 3 393 394 395 396 397 707 708
def zmq:=uO 41 131 (L2.inClass (S 37) 0) 82 611 398
def zmp:=tO #[]
def zvT:=vO #[]
def zmo:=tO #[(sv 45 713),(sv 132 714),(sv 99 715)]
def zmn:=tO #[]
def zvS:=gO 124 133 (L2.inClass (S 37) 1)
def zmm:=cO 124 133 710 711 712 188 3 3 400 401 402 403 404 716 717
def zml:=uO 124 133 (L2.inClass (S 37) 1) 82 611 405
def zmk:=tO #[]
def zvR:=vO #[]
def zmj:=tO #[(sv 45 722),(sv 100 723),(sv 132 724),(sv 33 725),(sv 99 726),(sv 59 727),(sv 28 728)]
def zmi:=tO #[]
def zvQ:=gO 125 134 (L2.inClass (S 37) 2)
def zmh:=cO 125 134 719 720 721 191 6 3 407 408 409 410 411 729 730
def zmg:=uO 125 134 (L2.inClass (S 37) 2) 82 611 412
def zmf:=tO #[]
def zvP:=vO #[]
def zme:=tO #[(sv 45 735),(sv 100 736),(sv 132 737),(sv 33 738),(sv 99 739),(sv 29 740),(sv 28 741)]
def zmd:=tO #[]
def zvO:=gO 126 135 (L2.inClass (S 37) 3)
def zmc:=cO 126 135 732 733 734 197 6 3 414 415 416 417 418 742 743
def zmb:=uO 126 135 (L2.inClass (S 37) 3) 82 611 419
def zma:=tO #[(sv 130 745),(sv 128 746),(sv 127 747),(sv 129 748)]
def zl9:=Obj.mk k4 .none (Data.dict #[en P 34 694 (sv 82 611),en P 36 698 (.int 172 697),en P 41 709 399,en P 124 718 406,en P 125 731 413,en P 126 744 420,en P 37 749 421,en P 38 751 424,en P 39 753 425,en P 5 754 .none] 4) #[]
def zl8:=Obj.mk k8 .none (Data.cls (ClassData.mk (s 117) [k9] [423,k9] 422 (s 117) true [] [] false .none false)) #[.none,.none,(some (sv 117 687)),(some (sv 117 695)),(some k10),(some (.bool true))]
def zl7:=Obj.mk k11 .none (Data.fields #[(sv 38 750),423,k12,k13]) #[]
def zl6:=Obj.mk k11 .none (Data.fields #[(sv 39 752),423,k14,.none]) #[]
def zvN:=Obj.mk k15 .none (Data.fields #[423,423,423]) #[]
def zvM:=Obj.mk k6 .none (Data.fields #[k16,423]) #[]
def zl5:=tO #[]
def zvL:=vO #[]
def zl4:=tO #[(sv 136 766),(sv 137 767),(sv 132 768)]
def zl3:=tO #[]
def zvK:=gO 120 120 (S 41)
def zl2:=cO 120 120 763 764 765 207 1 3 428 429 430 431 432 769 770
def zl1:=uO 120 120 (S 41) 116 757 433
def zl0:=tO #[]
def zvJ:=vO #[]
def zlZ:=tO #[(sv 138 775),(sv 136 776)]
def zlY:=tO #[]
def zvI:=gO 121 121 (S 42)
def zlX:=cO 121 121 772 773 774 216 2 3 435 436 437 438 439 777 778
def zlW:=uO 121 121 (S 42) 116 757 440
def zlV:=tO #[]
def zvH:=vO #[]
def zlU:=tO #[(sv 99 783),(sv 136 784),(sv 139 785),(sv 138 786)]
def zlT:=tO #[]
def zvG:=gO 122 122 (S 43)
def zlS:=cO 122 122 780 781 782 222 2 3 442 443 444 445 446 787 788
def zlR:=uO 122 122 (S 43) 116 757 447
def zlQ:=tO #[]
def zvF:=vO #[]
def zlP:=tO #[(sv 136 793),(sv 99 794),(sv 140 795),(sv 132 796),(sv 58 797),(sv 59 798)]
def zlO:=tO #[]
def zvE:=gO 123 123 (S 44)
def zlN:=cO 123 123 790 791 792 231 2 3 449 450 451 452 453 799 800
def zlM:=uO 123 123 (S 44) 116 757 454
def zdD:=N zlS .nil .nil
def zdC:=N zgy (zoY P) zdD
def zdB:=N zvP .nil .nil
def zdA:=N zmq .nil .nil
def zdz:=N zl3 .nil .nil
def zdy:=N UI zoW zdz
def zdx:=N zvX .nil .nil
def zdw:=N zlM .nil .nil
def zdv:=N Ur zn4 zdw
def zdu:=N zl8 .nil .nil
def zdt:=N zmk .nil .nil
def zds:=N zvI .nil .nil
def zdr:=N UC zoU zds
def zdq:=N zv1 .nil .nil
def zdp:=N zlP .nil .nil
def zdo:=N zgx zfl zdp
def zdn:=N zmc .nil .nil
def zdm:=N zmn .nil .nil
def zdl:=N zl0 .nil .nil
def zdk:=N UF (zoS P) zdl
def zdj:=N zmt .nil .nil
def zdi:=N zvM .nil .nil
def zdh:=N zgF zoQ zdi
def zdg:=N zvQ .nil .nil
def zdf:=N zvH .nil .nil
def zde:=N Uz zoO zdf
def zi6:=N o0 (N o10 (N o26 (N o58 (N zgU zqM zdq) zdo) (N o93 (N UL zqK zdn) zfj)) (N o42 (N o74 (N UX zqH zdm) zfh) (N Wg (zdk P) zff))) (N o18 (N o34 (N o66 (N U3 zqE zdj) (zfd P)) (N XD zdh zfb)) (N o50 (N o85 (N zgM zqB zdg) ze9) (N Xq zde ze7)))
def zdd:=N zlQ .nil .nil
def zdc:=N Uv zoM zdd
def zdb:=N zmd .nil .nil
def zda:=N zvT .nil .nil
def zc9:=N zl2 .nil .nil
def zc8:=N zgC zoK zc9
def zc7:=N zmu .nil .nil
def zc6:=N zl6 .nil .nil
def zc5:=N zgH zqn zc6
def zc4:=N zmj .nil .nil
def zc3:=N zlW .nil .nil
def zc2:=N UB (zoI P) zc3
def zc1:=N zvZ .nil .nil
def zc0:=N zvE .nil .nil
def zcZ:=N Us (zeQ P) zc0
def zcY:=N zma .nil .nil
def zcX:=N zmm .nil .nil
def zcW:=N zlZ .nil .nil
def zcV:=N zgB zoG zcW
def zcU:=N zvU .nil .nil
def zcT:=N zvL .nil .nil
def zcS:=N UJ (zoE P) zcT
def zcR:=N zmg .nil .nil
def zcQ:=N zlT .nil .nil
def zcP:=N Uy zoC zcQ
def zi5:=N o2 (N o12 (N o28 (N o60 (N U7 zqg zc1) (zcZ P)) (N o95 (N zgJ zqe zcY) zeO)) (N o44 (N o76 (N UW zqb zcX) zeM) (N Xw zcV zeK))) (N o20 (N o36 (N o68 (N zgQ zp8 zcU) zeI) (N XC (zcS P) zeG)) (N o52 (N o87 (N UQ zp5 zcR) zeE) (N Wd zcP zeC)))
def zi4:=N (boot_o_5 P) (N (boot_o_9 P) (N o8 (N o24 (N o56 ze5 zdc) (N o91 (N UN zqv zdb) ze3)) (N o40 (N VR (N UZ zqs zda) ze1) (N Xz zc8 zeZ))) (N o16 (N o32 (N o64 (N zgR zqp zc7) zeX) (N o99 zc5 zeV)) (N o48 (N o83 (N UT zqk zc4) zeT) (N Xs (zc2 P) zeR)))) (zi5 P)
def zcO:=N zlR .nil .nil
def zcN:=N Uw zoA zcO
def zcM:=N zme .nil .nil
def zcL:=N zmp .nil .nil
def zcK:=N zvK .nil .nil
def zcJ:=N UH zoy zcK
def zcI:=N zvW .nil .nil
def zcH:=N zl7 .nil .nil
def zcG:=N (zgI P) zpR zcH
def zcF:=N zvR .nil .nil
def zcE:=N zlX .nil .nil
def zcD:=N zgA zow zcE
def zcC:=N (zv0 P) .nil .nil
def zcB:=N zlO .nil .nil
def zcA:=N Ut zel zcB
def zcz:=N zmb .nil .nil
def zcy:=N zvS .nil .nil
def zcx:=N zvJ .nil .nil
def zcw:=N UE zou zcx
def zcv:=N zms .nil .nil
def zcu:=N zl5 .nil .nil
def zct:=N zgE zos zcu
def zcs:=N zmh .nil .nil
def zcr:=N zlU .nil .nil
def zcq:=N zgz zoq zcr
def zi3:=N zw2 (N o11 (N o27 (N o59 (N zgT zpK (zcC P)) zcA) (N o94 (N zgK zpI zcz) zej)) (N o43 (N o75 (N zgO zpF zcy) zeh) (N Xx zcw zef))) (N o19 (N o35 (N o67 (N U2 zpC zcv) zed) (N Wi zct zeb)) (N o51 (N o86 (N UR zpz zcs) zd9) (N We zcq zd7)))
def zcp:=N zv2 .nil .nil
def zco:=N zvF .nil .nil
def zcn:=N Uu zoo zco
def zcm:=N zvO .nil .nil
def zcl:=N zmo .nil .nil
def zck:=N zl1 .nil .nil
def zcj:=N UG zom zck
def zci:=N zvV .nil .nil
def zch:=N zvN .nil .nil
def zcg:=N zgG zpl zch
def zcf:=N zmi .nil .nil
def zce:=N zlV .nil .nil
def zcd:=N UA zok zce
def zcc:=N zvY .nil .nil
def zcb:=N zlN .nil .nil
def zca:=N zgw zdS zcb
def zb9:=N (zl9 P) .nil .nil
def zb8:=N zml .nil .nil
def zb7:=N zlY .nil .nil
def zb6:=N UD zoi zb7
def zb5:=N zmr .nil .nil
def zb4:=N zl4 .nil .nil
def zb3:=N zgD zog zb4
def zb2:=N zmf .nil .nil
def zb1:=N zvG .nil .nil
def zb0:=N Ux zoe zb1
def zi2:=N o3 (N o13 (N o29 (N o61 (N zgS zpe zcc) zca) (N o96 (N UK (zpc P) (zb9 P)) zdQ)) (N o45 (N o80 (N UV zo9 zb8) zdO) (N Wf zb6 zdM))) (N o21 (N o37 (N o69 (N U1 zo5 zb5) zdK) (N XB zb3 zdI)) (N o53 (N o88 (N zgL zo2 zb2) zdG) (N Xp zb0 zdE)))
def zi1:=N (boot_o_6 P) (N (boot_o_10 P) (N o9 (N o25 (N o57 (N zgV zpv zcp) zcn) (N o92 (N (UM P) zpt zcm) zd5)) (N o41 (N o73 (N UY zpq zcl) zd3) (N Xy zcj (zd1 P)))) (N o17 (N o33 (N (o65 P) (N U4 zpn zci) (zdZ P)) (N XE zcg zdX)) (N o49 (N o84 (N US (zpi P) zcf) zdV) (N (Xr P) zcd zdT)))) (zi2 P)
def zi0:=N (boot_o_2 P) (N (boot_o_4 P) (N (boot_o_8 P) (N o7 (N o23 (N o55 (zeA P) zcN) (N o90 (N UO (zpZ P) zcM) zey)) (N o39 (N (o71 P) (N zgP zpW zcL) (zew P)) (N XA zcJ zeu))) (N o15 (N o31 (N o63 (N U5 zpT zcI) zes) (N o98 (zcG P) zeq)) (N o47 (N (o82 P) (N UU zpO zcF) zeo) (N Xu zcD (zem P))))) (zi3 P)) (zi1 P)
def ziZ:=N (boot_o_0 P) (N (boot_o_1 P) (N (zw3 P) (N (boot_o_7 P) (N o6 (N o22 (N o54 zob (zdC P)) (N o89 (N UP zqZ zdB) zn9)) (N o38 (N o70 (N U0 zqW zdA) zn7) (N Wh zdy zn5))) (N o14 (N o30 (N o62 (N U6 zqT zdx) zdv) (N o97 (N VS zn3 zdu) zn1)) (N o46 (N o81 (N zgN zqQ zdt) zfo) (N Xv zdr zfm)))) (zi6 P)) (zi4 P)) (zi0 P)
def sb9 (w:World) (os:OsState):SharedT:=⟨(ziZ w.params),456,(Life.mk [] [] [] 0 [] [] false #[] [] 0 false false false 0 [2000,10,10] false 0 true [] [] 0 false),⟨[]⟩,(Drawn.mk 0 0 0 0),802,os⟩
def L8 (w:World) (os:OsState):Option (Flow×SharedT×Code×Pos):=segRunT treeTable pw w 11 an 1 490 (sb8 w os) (piecesOf zug env cE (Pos.mk 170 0 171 53) B)
def R8 (w:World) (os:OsState):Option (Flow×SharedT×Code×Pos):=some (.next,sb9 w os,cE,(Pos.mk 231 0 238 15))
theorem q8:tt (Hd.L8,Hd.R8)=true:=by k_qdec
theorem r8:∀ w,Fast.tw7116466485190837356 w=Hd.R8 w:=fun w=>by kernel_rfl
theorem e8 (w:World) (os:OsState):Hd.L8 w os=Hd.R8 w os:=(congrFun (congrFun Fast.te7116466485190837356 w) os).trans (congrFun (r8 w) os)
def zuf:List Stmt:=[S 45,S 46,S 47,S 48,S 49,S 50]
def zw1:=Obj.mk k4 .none (Data.dict #[en P 3 165 (sv 141 888),en P 5 166 .none,en P 6 167 .none,en P 7 168 k5,en P 8 169 .none,en P 9 170 6,en P 10 171 4,en P 11 173 (sv 0 172),en P 12 174 .none,en P 13 193 21,en P 14 201 26,en P 15 207 31,en P 16 213 36,en P 17 228 43,en P 18 236 50,en P 19 244 57,en P 20 253 64,en P 21 262 71,en P 22 284 81,en P 40 331 123,en P 51 378 163,en P 57 431 203,en P 64 480 243,en P 72 533 283,en P 73 553 295,en P 80 569 308,en P 81 585 320,en P 83 601 332,en P 84 610 341,en P 85 615 342,en P 86 621 343,en P 87 630 344,en P 88 635 345,en P 89 637 (.int 60 636),en P 90 639 (.int 8 638),en P 91 646 352,en P 92 654 359,en P 93 661 366,en P 94 671 373,en P 95 680 380,en P 96 686 385,en P 117 756 423,en P 118 760 (.int 12 759),en P 119 762 (.int 99 761),en P 120 771 434,en P 121 779 441,en P 122 789 448,en P 123 801 455,en P 142 887 521,en P 143 897 532,en P 144 910 539,en P 145 918 546,en P 146 924 551] 53) #[]
def zw0:=vO #[(iv 1),(iv 0),20,(iv 5),(iv 0),25,(iv 7),(iv 0),30,(iv 16),(iv 0),35,(iv 23),(iv 0),42,(iv 34),(iv 0),49,(iv 36),(iv 0),56,(iv 38),(iv 0),63,(iv 40),(iv 0),70,(iv 43),(iv 0),77,(iv 45),(iv 0),91,(iv 58),(iv 0),131,(iv 71),(iv 0),171,(iv 94),(iv 0),211,(iv 108),(iv 0),251,(iv 127),(iv 0),291,(iv 129),(iv 0),304,(iv 131),(iv 0),316,(iv 133),(iv 0),328,(iv 136),(iv 0),340,(iv 145),(iv 0),351,(iv 147),(iv 0),358,(iv 149),(iv 0),365,(iv 151),(iv 0),372,(iv 156),(iv 0),379,(iv 170),(iv 0),384,(iv 172),(iv 0),391,(iv 207),(iv 0),433,(iv 216),(iv 0),440,(iv 222),(iv 0),447,(iv 231),(iv 0),454,(iv 239),(iv 0),461,(iv 273),(iv 0),531,(iv 277),(iv 0),538,(iv 291),(iv 0),545,(iv 295),(iv 0),550]
def zvD:=tO #[]
def zvC:=Obj.mk k6 .none (Data.fields #[k7,k8]) #[]
def zvB:=Obj.mk k4 .none (Data.dict #[en P 34 809 (sv 116 757),en P 35 811 (sv 142 810),en P 36 813 (.int 239 812),en P 41 822 469,en P 136 829 476,en P 99 836 483,en P 147 844 490,en P 148 853 497,en P 149 861 504,en P 150 868 511,en P 151 876 518,en P 37 880 519] 12) #[]
def zvA:=tO #[]
def zvz:=vO #[(iv 241),(iv 4),468,(iv 250),(iv 4),475,(iv 253),(iv 4),482,(iv 256),(iv 4),489,(iv 259),(iv 4),496,(iv 262),(iv 4),503,(iv 267),(iv 4),510,(iv 270),(iv 4),517]
def zvy:=Obj.mk k1 .none (Data.fields #[(sv 142 804),(sv 142 805),(sv 0 806),(iv 239),(iv 0),(iv 0),(iv 0),(iv 0),459,(.bool false),(iv 181),460,.none,.none,.none,.none,(iv 807),(iv 239),(sv 0 808)]) #[]
def zvx:=Obj.mk k3 .none Data.plain #[(some 461),(some 3),(some 458),.none,(some (sv 116 757)),.none,(some 0)]
def zlL:=tO #[]
def zvw:=vO #[]
def zlK:=tO #[(sv 45 817),(sv 136 818),(sv 99 819)]
def zlJ:=tO #[]
def zvv:=gO 41 152 (L2.inClass (S 45) 0)
def zlI:=cO 41 152 814 815 816 241 3 3 463 464 465 466 467 820 821
def zlH:=uO 41 152 (L2.inClass (S 45) 0) 116 757 468
def zlG:=tO #[]
def zvu:=vO #[]
def zlF:=tO #[(sv 45 826)]
def zlE:=tO #[]
def zvt:=gO 136 153 (L2.inClass (S 45) 1)
def zlD:=cO 136 153 823 824 825 250 1 3 470 471 472 473 474 827 828
def zlC:=uO 136 153 (L2.inClass (S 45) 1) 116 757 475
def zlB:=tO #[]
def zvs:=vO #[]
def zlA:=tO #[(sv 45 833)]
def zlz:=tO #[]
def zvr:=gO 99 154 (L2.inClass (S 45) 2)
def zly:=cO 99 154 830 831 832 253 1 3 477 478 479 480 481 834 835
def zlx:=uO 99 154 (L2.inClass (S 45) 2) 116 757 482
def zlw:=tO #[]
def zvq:=vO #[]
def zlv:=tO #[(sv 45 840),(sv 132 841)]
def zlu:=tO #[]
def zvp:=gO 147 155 (L2.inClass (S 45) 3)
def zlt:=cO 147 155 837 838 839 256 2 3 484 485 486 487 488 842 843
def zls:=uO 147 155 (L2.inClass (S 45) 3) 116 757 489
def zlr:=tO #[]
def zvo:=vO #[]
def zlq:=tO #[(sv 45 848),(sv 58 849),(sv 59 850)]
def zlp:=tO #[]
def zvn:=gO 148 156 (L2.inClass (S 45) 4)
def zlo:=cO 148 156 845 846 847 259 3 3 491 492 493 494 495 851 852
def zln:=uO 148 156 (L2.inClass (S 45) 4) 116 757 496
def zlm:=tO #[]
def zvm:=vO #[]
def zll:=tO #[(sv 45 857),(sv 132 858)]
def zlk:=tO #[]
def zvl:=gO 149 157 (L2.inClass (S 45) 5)
def zlj:=cO 149 157 854 855 856 262 2 3 498 499 500 501 502 859 860
def zli:=uO 149 157 (L2.inClass (S 45) 5) 116 757 503
def zlh:=tO #[]
def zvk:=vO #[]
def zlg:=tO #[(sv 45 865)]
def zlf:=tO #[]
def zvj:=gO 150 158 (L2.inClass (S 45) 6)
def zle:=cO 150 158 862 863 864 267 1 3 505 506 507 508 509 866 867
def zld:=uO 150 158 (L2.inClass (S 45) 6) 116 757 510
def zlc:=tO #[]
def zvi:=vO #[]
def zlb:=tO #[(sv 45 872),(sv 132 873)]
def zla:=tO #[]
def zvh:=gO 151 159 (L2.inClass (S 45) 7)
def zk9:=cO 151 159 869 870 871 270 2 3 512 513 514 515 516 874 875
def zk8:=uO 151 159 (L2.inClass (S 45) 7) 116 757 517
def zk7:=tO #[(sv 140 877),(sv 160 878),(sv 161 879)]
def zk6:=Obj.mk k4 .none (Data.dict #[en P 34 809 (sv 116 757),en P 36 813 (.int 239 812),en P 41 822 469,en P 136 829 476,en P 99 836 483,en P 147 844 490,en P 148 853 497,en P 149 861 504,en P 150 868 511,en P 151 876 518,en P 37 880 519,en P 38 882 522,en P 39 884 523,en P 5 885 .none] 4) #[]
def zk5:=Obj.mk k8 .none (Data.cls (ClassData.mk (s 142) [k9] [521,k9] 520 (s 142) true [] [] false .none false)) #[.none,.none,(some (sv 142 802)),(some (sv 142 810)),(some k10),(some (.bool true))]
def zk4:=Obj.mk k11 .none (Data.fields #[(sv 38 881),521,k12,k13]) #[]
def zk3:=Obj.mk k11 .none (Data.fields #[(sv 39 883),521,k14,.none]) #[]
def zvg:=Obj.mk k15 .none (Data.fields #[521,521,521]) #[]
def zvf:=Obj.mk k6 .none (Data.fields #[k16,521]) #[]
def zk2:=tO #[]
def zve:=vO #[]
def zk1:=tO #[(sv 162 893),(sv 163 894)]
def zk0:=tO #[]
def zvd:=gO 143 143 (S 47)
def zkZ:=cO 143 143 890 891 892 273 2 3 526 527 528 529 530 895 896
def zkY:=uO 143 143 (S 47) 141 888 531
def zkX:=tO #[]
def zvc:=vO #[]
def zkW:=tO #[(sv 164 901),(sv 165 902),(sv 166 903),(sv 167 904),(sv 168 905),(sv 163 906),(sv 169 907)]
def zkV:=tO #[]
def zvb:=gO 144 144 (S 48)
def zkU:=cO 144 144 898 899 900 277 2 3 533 534 535 536 537 908 909
def zkT:=uO 144 144 (S 48) 141 888 538
def zkS:=tO #[]
def zva:=vO #[]
def zkR:=tO #[(sv 170 914),(sv 171 915)]
def zkQ:=tO #[]
def zu9:=gO 145 145 (S 49)
def zkP:=cO 145 145 911 912 913 291 2 3 540 541 542 543 544 916 917
def zkO:=uO 145 145 (S 49) 141 888 545
def zkN:=tO #[]
def zu8:=vO #[]
def zu7:=gO 146 146 (S 50)
def zkM:=Obj.mk k1 .none (Data.fields #[(sv 146 919),(sv 146 920),(sv 0 921),(iv 295),(iv 2),(iv 0),(iv 0),(iv 3),547,(.bool true),(iv 181),548,.none,.none,.none,549,(iv 922),(iv 295),(sv 0 923)]) #[]
def zkL:=uO 146 146 (S 50) 141 888 550
def zbZ:=N zgY (N zif (N zld .nil .nil) .nil) zoc
def zbY:=N UP (N znr (N zkQ .nil .nil) .nil) zdB
def zbX:=N zlA .nil .nil
def zbW:=N U0 (N znw (N zve .nil .nil) .nil) zdA
def zbV:=N zlL .nil .nil
def zbU:=N zf9 zn6 (N zvn .nil .nil)
def zbT:=N U6 (N zh9 (N zk7 .nil .nil) .nil) zdx
def zbS:=N o97 (N VS (N zhH (N zkL .nil .nil) .nil) zdu) (N zis zn2 (N zlu .nil .nil))
def zbR:=N zgN (N zhY (N zkW .nil .nil) .nil) zdt
def zbQ:=N zvu .nil .nil
def zbP:=N zim zfn (N zlj .nil .nil)
def zbO:=N zgU (N zic (N zla .nil .nil) .nil) zdq
def zbN:=N o93 (N UL (N znn (N zkN .nil .nil) .nil) zdn) (N zgh zfk (N zlx .nil .nil))
def zbM:=N UX (N znv (N zkZ .nil .nil) .nil) zdm
def zbL:=N zvv .nil .nil
def zbK:=N zf5 zfg (N zvm .nil .nil)
def zbJ:=N U3 (N zh6 (N zk3 .nil .nil) .nil) zdj
def zbI:=N zvA .nil .nil
def zbH:=N zir zfc (N zlr .nil .nil)
def zbG:=N zgM (N zhU (N zkT .nil .nil) .nil) zdg
def zbF:=N zlD .nil .nil
def zbE:=N zii ze8 (N zlg .nil .nil)
def ziY:=N o0 (N o10 (N o26 (N o58 zbO zdo) zbN) (N o42 (N o74 zbM (N zgp zfi zbL)) (N Wg (zdk P) zbK))) (N o18 (N o34 (N o66 zbJ (N Um (zfe P) zbI)) (N XD zdh zbH)) (N o50 (N o85 zbG (N Ug zfa zbF)) (N Xq zde zbE)))
def zbD:=N zgW (N znA (N zvi .nil .nil) .nil) ze6
def zbC:=N o91 (N UN (N znp (N zkP .nil .nil) .nil) zdb) (N zgj ze4 (N zvr .nil .nil))
def zbB:=N UZ (N zh2 (N zk0 .nil .nil) .nil) zda
def zbA:=N zlK .nil .nil
def zbz:=N zf7 ze0 (N zln .nil .nil)
def zby:=N zgR (N zh8 (N zk5 .nil .nil) .nil) zc7
def zbx:=N zvC .nil .nil
def zbw:=N zgd zeW (N zlt .nil .nil)
def zbv:=N UT (N zhW (N zvb .nil .nil) .nil) zc4
def zbu:=N zlE .nil .nil
def zbt:=N zik zeS (N zlh .nil .nil)
def zbs:=N U7 (N znz (N zk9 .nil .nil) .nil) zc1
def zbr:=N o95 (N zgJ (N zhS (N zu7 .nil .nil) .nil) zcY) (N zgg zeP (N zvq .nil .nil))
def zbq:=N UW (N zhZ (N zkX .nil .nil) .nil) zcX
def zbp:=N zlH .nil .nil
def zbo:=N zin zeL (N zlk .nil .nil)
def zbn:=N zgQ (N zh5 (N zvf .nil .nil) .nil) zcU
def zbm:=N zvy .nil .nil
def zbl:=N zga zeH (N zlq .nil .nil)
def zbk:=N UQ (N zns (N zva .nil .nil) .nil) zcR
def zbj:=N zlB .nil .nil
def zbi:=N zf3 zeD (N zvj .nil .nil)
def ziX:=N o2 (N o12 (N o28 (N o60 zbs (zcZ P)) zbr) (N o44 (N o76 zbq (N Uk zeN zbp)) (N Xw zcV zbo))) (N o20 (N o36 (N o68 zbn (N zgu zeJ zbm)) (N XC (zcS P) zbl)) (N o52 (N o87 zbk (N zgl zeF zbj)) (N Wd zcP zbi)))
def ziW:=N (boot_o_5 P) (N (boot_o_9 P) (N o8 (N o24 (N o56 zbD zdc) zbC) (N o40 (N VR zbB (N zgr ze2 zbA)) (N Xz zc8 zbz))) (N o16 (N o32 (N o64 zby (N Up zeY zbx)) (N o99 zc5 zbw)) (N o48 (N o83 zbv (N zgm zeU zbu)) (N Xs (zc2 P) zbt)))) (ziX P)
def zbh:=N (zgX P) (N zie (N zlc .nil .nil) .nil) zeB
def zbg:=N UO (N (znq P) (N zu9 .nil .nil) .nil) zcM
def zbf:=N zlz .nil .nil
def zbe:=N zgP (N zh3 (N zk1 .nil .nil) .nil) zcL
def zbd:=N zvw .nil .nil
def zbc:=N zf8 zev (N zlo .nil .nil)
def zbb:=N U5 (N zny (N (zk6 P) .nil .nil) .nil) zcI
def zba:=N zvD .nil .nil
def za9:=N zge zer (N zvp .nil .nil)
def za8:=N UU (N zhX (N zkV .nil .nil) .nil) zcF
def za7:=N zlF .nil .nil
def za6:=N (zil P) zen (N zli .nil .nil)
def za5:=N zgT (N zib (N zvh .nil .nil) .nil) (zcC P)
def za4:=N o94 (N zgK (N znm (N zu8 .nil .nil) .nil) zcz) (N zit zek (N zlw .nil .nil))
def za3:=N zgO (N zh0 (N zkY .nil .nil) .nil) zcy
def za2:=N zlI .nil .nil
def za1:=N zio zeg (N zll .nil .nil)
def za0:=N U2 (N znx (N zvg .nil .nil) .nil) zcv
def zaZ:=N zvz .nil .nil
def zaY:=N zgb zec (N zvo .nil .nil)
def zaX:=N UR (N znt (N zkS .nil .nil) .nil) zcs
def zaW:=N zlC .nil .nil
def zaV:=N zih zd8 (N zlf .nil .nil)
def ziV:=N zw0 (N o11 (N o27 (N o59 (za5 P) zcA) za4) (N o43 (N o75 za3 (N zgo zei za2)) (N Xx zcw za1))) (N o19 (N o35 (N o67 za0 (N zgv zee zaZ)) (N Wi zct zaY)) (N o51 (N o86 zaX (N Uf zea zaW)) (N We zcq zaV)))
def zaU:=N zgV (N zid (N zlb .nil .nil) .nil) zcp
def zaT:=N o92 (N (UM P) (N zno (N zkO .nil .nil) .nil) zcm) (N zgi zd6 (N zly .nil .nil))
def zaS:=N UY (N zh1 (N zvd .nil .nil) .nil) zcl
def zaR:=N zlJ .nil .nil
def zaQ:=N (zf6 P) zd2 (N zlm .nil .nil)
def zaP:=N U4 (N zh7 (N zk4 .nil .nil) .nil) zci
def zaO:=N (zvB P) .nil .nil
def zaN:=N zgc zdY (N zls .nil .nil)
def zaM:=N US (N (zhV P) (N zkU .nil .nil) .nil) zcf
def zaL:=N zvt .nil .nil
def zaK:=N zij zdU (N zvk .nil .nil)
def zaJ:=N zgS (N zia (N zk8 .nil .nil) .nil) zcc
def zaI:=N o96 (N UK (N (zhR P) (N zkM .nil .nil) .nil) (zb9 P)) (N zgf zdR (N zlv .nil .nil))
def zaH:=N UV (N znu (N zvc .nil .nil) .nil) zb8
def zaG:=N zlG .nil .nil
def zaF:=N zf4 zdN (N zvl .nil .nil)
def zaE:=N U1 (N zh4 (N zk2 .nil .nil) .nil) zb5
def zaD:=N zvx .nil .nil
def zaC:=N ziq zdJ (N zlp .nil .nil)
def zaB:=N zgL (N zhT (N zkR .nil .nil) .nil) zb2
def zaA:=N zvs .nil .nil
def zaz:=N zig zdF (N zle .nil .nil)
def ziU:=N o3 (N o13 (N o29 (N o61 zaJ zca) (zaI P)) (N o45 (N o80 zaH (N zgn zdP zaG)) (N Wf zb6 zaF))) (N o21 (N o37 (N o69 zaE (N Ul zdL zaD)) (N XB zb3 zaC)) (N o53 (N o88 zaB (N Ue zdH zaA)) (N Xp zb0 zaz)))
def ziT:=N (boot_o_6 P) (N (boot_o_10 P) (N o9 (N o25 (N o57 zaU zcn) (zaT P)) (N o41 (N o73 zaS (N zgq zd4 zaR)) (N Xy zcj (zaQ P)))) (N o17 (N o33 (N (o65 P) zaP (N (Uo P) zd0 (zaO P))) (N XE zcg zaN)) (N o49 (N o84 (zaM P) (N Uh zdW zaL)) (N (Xr P) zcd zaK)))) (ziU P)
def ziS:=N (boot_o_2 P) (N (boot_o_4 P) (N (boot_o_8 P) (N o7 (N o23 (N o55 (zbh P) zcN) (N o90 (zbg P) (N zgk zez zbf))) (N o39 (N (o71 P) zbe (N (zgs P) zex zbd)) (N XA zcJ zbc))) (N o15 (N o31 (N o63 (zbb P) (N Uq zet zba)) (N o98 (zcG P) za9)) (N o47 (N (o82 P) za8 (N Ui zep za7)) (N Xu zcD (za6 P))))) (ziV P)) (ziT P)
def ziR:=N (boot_o_0 P) (N (boot_o_1 P) (N (zw1 P) (N (boot_o_7 P) (N o6 (N o22 (N o54 zbZ (zdC P)) (N o89 zbY (N Ud zoa zbX))) (N o38 (N o70 zbW (N zgt zn8 zbV)) (N Wh zdy zbU))) (N o14 (N o30 (N o62 zbT zdv) zbS) (N o46 (N o81 zbR (N Uj zfp zbQ)) (N Xv zdr zbP)))) (ziY P)) (ziW P)) (ziS P)
def zuG (w:World) (os:OsState):SharedT:=⟨(ziR w.params),552,(Life.mk [] [] [] 0 [] [] false #[] [] 0 false false false 0 [2000,10,10] false 0 true [] [] 0 false),⟨[]⟩,(Drawn.mk 0 0 0 0),925,os⟩
def L9 (w:World) (os:OsState):Option (Flow×SharedT×Code×Pos):=segRunT treeTable pw w 11 an 1 578 (sb9 w os) (piecesOf zuf env cE (Pos.mk 231 0 238 15) B)
def R9 (w:World) (os:OsState):Option (Flow×SharedT×Code×Pos):=some (.next,zuG w os,cE,(Pos.mk 295 0 303 21))
theorem q9:tt (Hd.L9,Hd.R9)=true:=by k_qdec
theorem r9:∀ w,Fast.tw16134767483146388640 w=Hd.R9 w:=fun w=>by kernel_rfl
theorem e9 (w:World) (os:OsState):Hd.L9 w os=Hd.R9 w os:=(congrFun (congrFun Fast.te16134767483146388640 w) os).trans (congrFun (r9 w) os)
def zfq:List Stmt:=[S 51,S 52,S 53,S 54,S 55,S 56,S 57,S 58,S 59]
def zkK:=Obj.mk k4 .none (Data.dict #[en P 3 165 (sv 141 888),en P 5 166 .none,en P 6 167 .none,en P 7 168 k5,en P 8 169 .none,en P 9 170 6,en P 10 171 4,en P 11 173 (sv 0 172),en P 12 174 .none,en P 13 193 21,en P 14 201 26,en P 15 207 31,en P 16 213 36,en P 17 228 43,en P 18 236 50,en P 19 244 57,en P 20 253 64,en P 21 262 71,en P 22 284 81,en P 40 331 123,en P 51 378 163,en P 57 431 203,en P 64 480 243,en P 72 533 283,en P 73 553 295,en P 80 569 308,en P 81 585 320,en P 83 601 332,en P 84 610 341,en P 85 615 342,en P 86 621 343,en P 87 630 344,en P 88 635 345,en P 89 637 (.int 60 636),en P 90 639 (.int 8 638),en P 91 646 352,en P 92 654 359,en P 93 661 366,en P 94 671 373,en P 95 680 380,en P 96 686 385,en P 117 756 423,en P 118 760 (.int 12 759),en P 119 762 (.int 99 761),en P 120 771 434,en P 121 779 441,en P 122 789 448,en P 123 801 455,en P 142 887 521,en P 143 897 532,en P 144 910 539,en P 145 918 546,en P 146 924 551,en P 172 939 558,en P 173 945 563,en P 174 951 568,en P 175 962 575,en P 176 968 582,en P 177 975 589,en P 178 982 596,en P 179 988 601,en P 180 1009 608] 62) #[]
def zu6:=vO #[(iv 1),(iv 0),20,(iv 5),(iv 0),25,(iv 7),(iv 0),30,(iv 16),(iv 0),35,(iv 23),(iv 0),42,(iv 34),(iv 0),49,(iv 36),(iv 0),56,(iv 38),(iv 0),63,(iv 40),(iv 0),70,(iv 43),(iv 0),77,(iv 45),(iv 0),91,(iv 58),(iv 0),131,(iv 71),(iv 0),171,(iv 94),(iv 0),211,(iv 108),(iv 0),251,(iv 127),(iv 0),291,(iv 129),(iv 0),304,(iv 131),(iv 0),316,(iv 133),(iv 0),328,(iv 136),(iv 0),340,(iv 145),(iv 0),351,(iv 147),(iv 0),358,(iv 149),(iv 0),365,(iv 151),(iv 0),372,(iv 156),(iv 0),379,(iv 170),(iv 0),384,(iv 172),(iv 0),391,(iv 207),(iv 0),433,(iv 216),(iv 0),440,(iv 222),(iv 0),447,(iv 231),(iv 0),454,(iv 239),(iv 0),461,(iv 273),(iv 0),531,(iv 277),(iv 0),538,(iv 291),(iv 0),545,(iv 295),(iv 0),550,(iv 304),(iv 0),557,(iv 315),(iv 0),562,(iv 318),(iv 0),567,(iv 330),(iv 0),574,(iv 338),(iv 0),581,(iv 340),(iv 0),588,(iv 350),(iv 0),595,(iv 352),(iv 0),600,(iv 357),(iv 0),607]
def zkJ:=tO #[]
def zu5:=vO #[]
def zkI:=tO #[(sv 170 928),(sv 181 929),(sv 182 930),(sv 166 931),(sv 183 932),(sv 163 933),(sv 184 934),(sv 185 935),(sv 186 936)]
def zkH:=tO #[]
def zu4:=gO 172 172 (S 51)
def zkG:=cO 172 172 925 926 927 304 2 3 552 553 554 555 556 937 938
def zkF:=uO 172 172 (S 51) 141 888 557
def zu3:=tO #[]
def zu2:=vO #[]
def zu1:=gO 173 173 (S 52)
def zu0:=Obj.mk k1 .none (Data.fields #[(sv 173 940),(sv 173 941),(sv 0 942),(iv 315),(iv 2),(iv 0),(iv 0),(iv 3),559,(.bool true),(iv 181),560,.none,.none,.none,561,(iv 943),(iv 315),(sv 0 944)]) #[]
def zuZ:=uO 173 173 (S 52) 141 888 562
def zkE:=tO #[]
def zuY:=vO #[]
def zuX:=gO 174 174 (S 53)
def zkD:=Obj.mk k1 .none (Data.fields #[(sv 174 946),(sv 174 947),(sv 0 948),(iv 318),(iv 3),(iv 0),(iv 0),(iv 3),564,(.bool true),(iv 181),565,.none,.none,.none,566,(iv 949),(iv 318),(sv 0 950)]) #[]
def zkC:=uO 174 174 (S 53) 141 888 567
def zkB:=tO #[]
def zuW:=vO #[]
def zkA:=tO #[(sv 164 955),(sv 170 956),(sv 187 957),(sv 188 958),(sv 189 959)]
def zkz:=tO #[]
def zuV:=gO 175 175 (S 54)
def zky:=cO 175 175 952 953 954 330 1 3 569 570 571 572 573 960 961
def zkx:=uO 175 175 (S 54) 141 888 574
def zkw:=tO #[]
def zuU:=vO #[]
def zkv:=tO #[]
def zku:=tO #[]
def zuT:=gO 176 176 (S 55)
def zkt:=cO 176 176 963 964 965 338 0 3 576 577 578 579 580 966 967
def zks:=uO 176 176 (S 55) 141 888 581
def zkr:=tO #[]
def zuS:=vO #[]
def zkq:=tO #[(sv 190 972)]
def zkp:=tO #[]
def zuR:=gO 177 177 (S 56)
def zko:=cO 177 177 969 970 971 340 1 3 583 584 585 586 587 973 974
def zkn:=uO 177 177 (S 56) 141 888 588
def zkm:=tO #[]
def zuQ:=vO #[]
def zkl:=tO #[(sv 191 979)]
def zkk:=tO #[]
def zuP:=gO 178 178 (S 57)
def zkj:=cO 178 178 976 977 978 350 1 3 590 591 592 593 594 980 981
def zki:=uO 178 178 (S 57) 141 888 595
def zkh:=tO #[]
def zuO:=vO #[]
def zuN:=gO 179 179 (S 58)
def zkg:=Obj.mk k1 .none (Data.fields #[(sv 179 983),(sv 179 984),(sv 0 985),(iv 352),(iv 2),(iv 0),(iv 0),(iv 3),597,(.bool true),(iv 181),598,.none,.none,.none,599,(iv 986),(iv 352),(sv 0 987)]) #[]
def zkf:=uO 179 179 (S 58) 141 888 600
def zke:=tO #[]
def zuM:=vO #[]
def zkd:=tO #[(sv 162 992),(sv 170 993),(sv 181 994),(sv 192 995),(sv 193 996),(sv 191 997),(sv 194 998),(sv 195 999),(sv 196 1000),(sv 197 1001),(sv 198 1002),(sv 199 1003),(sv 190 1004),(sv 200 1005),(sv 201 1006)]
def zkc:=tO #[]
def zuL:=gO 180 180 (S 59)
def zkb:=cO 180 180 989 990 991 357 1 3 602 603 604 605 606 1007 1008
def zka:=uO 180 180 (S 59) 141 888 607
def ziQ:=N o14 (N o30 (N o62 zbT (N Ur (N zm0 (N zkr .nil .nil) .nil) zdw)) zbS) (N o46 (N o81 zbR (N Uj (N zhw (N zuN .nil .nil) .nil) zbQ)) (N Xv (N UC (N zhL (N zkD .nil .nil) .nil) zds) zbP))
def ziP:=N o18 (N o34 (N o66 zbJ (N Um (N (zhE P) (N zuR .nil .nil) .nil) zbI)) (N XD (N zgF (N zhP (N zkH .nil .nil) .nil) zdi) zbH)) (N o50 (N o85 zbG (N Ug (N zmT (N zuM .nil .nil) .nil) zbF)) (N Xq (N Uz (N zm8 (N zkA .nil .nil) .nil) zdf) zbE))
def ziO:=N o0 (N o10 (N o26 (N o58 zbO (N zgx (N zhG (N zku .nil .nil) .nil) zdp)) zbN) (N o42 (N o74 zbM (N zgp (N zmU (N zkj .nil .nil) .nil) zbL)) (N Wg (N UF (N (zhN P) (N zuZ .nil .nil) .nil) zdl) zbK))) (ziP P)
def ziN:=N o16 (N o32 (N o64 zby (N Up (N zmY (N zkq .nil .nil) .nil) zbx)) (N o99 (N zgH (N znl (N zu5 .nil .nil) .nil) zc6) zbw)) (N o48 (N o83 zbv (N zgm (N zhu (N zkf .nil .nil) .nil) zbu)) (N Xs (N UB (N (zna P) (N zkB .nil .nil) .nil) zc3) zbt))
def ziM:=N o20 (N o36 (N o68 zbn (N zgu (N zmX (N zkn .nil .nil) .nil) zbm)) (N XC (N UJ (N (zni P) (N zkG .nil .nil) .nil) zcT) zbl)) (N o52 (N o87 zbk (N zgl (N zhr (N zkc .nil .nil) .nil) zbj)) (N Wd (N Uy (N zm6 (N zuV .nil .nil) .nil) zcQ) zbi))
def ziL:=N o2 (N o12 (N o28 (N o60 zbs (N Us (N (zm2 P) (N zkt .nil .nil) .nil) zc0)) zbr) (N o44 (N o76 zbq (N Uk (N zhy (N zkh .nil .nil) .nil) zbp)) (N Xw (N zgB (N znd (N zuY .nil .nil) .nil) zcW) zbo))) (ziM P)
def ziK:=N (boot_o_5 P) (N (boot_o_9 P) (N o8 (N o24 (N o56 zbD (N Uv (N zm5 (N zuU .nil .nil) .nil) zdd)) zbC) (N o40 (N VR zbB (N zgr (N zhB (N zkk .nil .nil) .nil) zbA)) (N Xz (N zgC (N zne (N zu1 .nil .nil) .nil) zc9) zbz))) (ziN P)) (ziL P)
def ziJ:=N o15 (N o31 (N o63 (zbb P) (N Uq (N zmZ (N zuS .nil .nil) .nil) zba)) (N o98 (N (zgI P) (N zhQ (N zkJ .nil .nil) .nil) zcH) za9)) (N o47 (N (o82 P) za8 (N Ui (N zhv (N zkg .nil .nil) .nil) za7)) (N Xu (N zgA (N znb (N zkC .nil .nil) .nil) zcE) (za6 P)))
def ziI:=N o19 (N o35 (N o67 za0 (N zgv (N zhD (N zko .nil .nil) .nil) zaZ)) (N Wi (N zgE (N znj (N zu4 .nil .nil) .nil) zcu) zaY)) (N o51 (N o86 zaX (N Uf (N zhs (N zkd .nil .nil) .nil) zaW)) (N We (N zgz (N zm7 (N zkz .nil .nil) .nil) zcr) zaV))
def ziH:=N zu6 (N o11 (N o27 (N o59 (za5 P) (N Ut (N zm3 (N zuT .nil .nil) .nil) zcB)) za4) (N o43 (N o75 za3 (N zgo (N zhz (N zki .nil .nil) .nil) za2)) (N Xx (N UE (N zhM (N zkE .nil .nil) .nil) zcx) za1))) ziI
def ziG:=N o17 (N o33 (N (o65 P) zaP (N (Uo P) (N zhF (N zkp .nil .nil) .nil) (zaO P))) (N XE (N zgG (N znk (N zkI .nil .nil) .nil) zch) zaN)) (N o49 (N o84 (zaM P) (N Uh (N zht (N zke .nil .nil) .nil) zaL)) (N (Xr P) (N UA (N zm9 (N zuW .nil .nil) .nil) zce) zaK))
def ziF:=N o21 (N o37 (N o69 zaE (N Ul (N zmW (N zkm .nil .nil) .nil) zaD)) (N XB (N zgD (N znh (N zkF .nil .nil) .nil) zb4) zaC)) (N o53 (N o88 zaB (N Ue (N zmS (N zuL .nil .nil) .nil) zaA)) (N Xp (N Ux (N zhK (N zky .nil .nil) .nil) zb1) zaz))
def ziE:=N o3 (N o13 (N o29 (N o61 zaJ (N zgw (N zm1 (N zks .nil .nil) .nil) zcb)) (zaI P)) (N o45 (N o80 zaH (N zgn (N zhx (N zuO .nil .nil) .nil) zaG)) (N Wf (N UD (N znc (N zuX .nil .nil) .nil) zb7) zaF))) ziF
def ziD:=N (boot_o_6 P) (N (boot_o_10 P) (N o9 (N o25 (N o57 zaU (N Uu (N zm4 (N zkv .nil .nil) .nil) zco)) (zaT P)) (N o41 (N o73 zaS (N zgq (N zhA (N zuP .nil .nil) .nil) zaR)) (N Xy (N UG (N zhO (N zu0 .nil .nil) .nil) zck) (zaQ P)))) (ziG P)) (ziE P)
def ziC:=N (boot_o_2 P) (N (boot_o_4 P) (N (boot_o_8 P) (N o7 (N o23 (N o55 (zbh P) (N Uw (N zhI (N zkw .nil .nil) .nil) zcO)) (N o90 (zbg P) (N zgk (N zhp (N zka .nil .nil) .nil) zbf))) (N o39 (N (o71 P) zbe (N (zgs P) (N zmV (N zkl .nil .nil) .nil) zbd)) (N XA (N UH (N znf (N zu2 .nil .nil) .nil) zcK) zbc))) (ziJ P)) (ziH P)) (ziD P)
def ziB:=N (boot_o_0 P) (N (boot_o_1 P) (N (zkK P) (N (boot_o_7 P) (N o6 (N o22 (N o54 zbZ (N zgy (N (zhJ P) (N zkx .nil .nil) .nil) zdD)) (N o89 zbY (N Ud (N zhq (N zkb .nil .nil) .nil) zbX))) (N o38 (N o70 zbW (N zgt (N zhC (N zuQ .nil .nil) .nil) zbV)) (N Wh (N UI (N zng (N zu3 .nil .nil) .nil) zdz) zbU))) ziQ) (ziO P)) (ziK P)) (ziC P)
def zuF (w:World) (os:OsState):SharedT:=⟨(ziB w.params),609,(Life.mk [] [] [] 0 [] [] false #[] [] 0 false false false 0 [2000,10,10] false 0 true [] [] 0 false),⟨[]⟩,(Drawn.mk 0 0 0 0),1010,os⟩
def L10 (w:World) (os:OsState):Option (Flow×SharedT×Code×Pos):=segRunT treeTable pw w 11 an 1 278 (zuG w os) (piecesOf zfq env cE (Pos.mk 295 0 303 21) B)
def R10 (w:World) (os:OsState):Option (Flow×SharedT×Code×Pos):=some (.next,zuF w os,cE,(Pos.mk 357 0 385 124))
theorem q10:tt (Hd.L10,Hd.R10)=true:=by k_qdec
theorem r10:∀ w,Fast.tw8817224096938630680 w=Hd.R10 w:=fun w=>by kernel_rfl
theorem e10 (w:World) (os:OsState):Hd.L10 w os=Hd.R10 w os:=(congrFun (congrFun Fast.te8817224096938630680 w) os).trans (congrFun (r10 w) os)
def h50:List Obj:=zkg::zkf::zke::zuM::zkd::zkc::zuL::zkb::zka::[]
def h49:List Obj:=zko::zkn::zkm::zuQ::zkl::zkk::zuP::zkj::zki::zkh::zuO::zuN::h50
def h48:List Obj:=zkw::zuU::zkv::zku::zuT::zkt::zks::zkr::zuS::zkq::zkp::zuR::h49
def h47:List Obj:=zkE::zuY::zuX::zkD::zkC::zkB::zuW::zkA::zkz::zuV::zky::zkx::h48
def h46:List Obj:=zkJ::zu5::zkI::zkH::zu4::zkG::zkF::zu3::zu2::zu1::zu0::zuZ::h47
def h45:List Obj:=zkS::zva::zkR::zkQ::zu9::zkP::zkO::zkN::zu8::zu7::zkM::zkL::h46
def h44:List Obj:=zk1::zk0::zvd::zkZ::zkY::zkX::zvc::zkW::zkV::zvb::zkU::zkT::h45
def h43:List Obj:=zvh::zk9::zk8::zk7::zk6 P::zk5::zk4::zk3::zvg::zvf::zk2::zve::h44
def h42:List Obj:=zli::zlh::zvk::zlg::zlf::zvj::zle::zld::zlc::zvi::zlb::zla::h43 P
def h41:List Obj:=zvo::zlq::zlp::zvn::zlo::zln::zlm::zvm::zll::zlk::zvl::zlj::h42 P
def h40:List Obj:=zlz::zvr::zly::zlx::zlw::zvq::zlv::zlu::zvp::zlt::zls::zlr::h41 P
def h39:List Obj:=zlI::zlH::zlG::zvu::zlF::zlE::zvt::zlD::zlC::zlB::zvs::zlA::h40 P
def h38:List Obj:=zvD::zvC::zvB P::zvA::zvz::zvy::zvx::zlL::zvw::zlK::zlJ::zvv::h39 P
def h37:List Obj:=zlU::zlT::zvG::zlS::zlR::zlQ::zvF::zlP::zlO::zvE::zlN::zlM::h38 P
def h36:List Obj:=zvK::zl2::zl1::zl0::zvJ::zlZ::zlY::zvI::zlX::zlW::zlV::zvH::h37 P
def h35:List Obj:=zmb::zma::zl9 P::zl8::zl7::zl6::zvN::zvM::zl5::zvL::zl4::zl3::h36 P
def h34:List Obj:=zvR::zmj::zmi::zvQ::zmh::zmg::zmf::zvP::zme::zmd::zvO::zmc::h35 P
def h33:List Obj:=zms::zvU::zmr::zmq::zmp::zvT::zmo::zmn::zvS::zmm::zml::zmk::h34 P
def h32:List Obj:=zmw::zmv::zv2::zv1::zv0 P::zvZ::zvY::zvX::zvW::zmu::zvV::zmt::h33 P
def h31:List Obj:=zmE::zmD::zmC::zv6::zmB::zmA::zv5::zmz::zmy::zmx::zv4::zv3::h32 P
def h30:List Obj:=zmM::zwa::zmL::zmK::zv9::zmJ::zmI::zmH::zv8::zmG::zmF::zv7::h31 P
def h29:List Obj:=zhs::zhr::zmS::zhq::zhp::zmR::zwc::zmQ::zmP::zwb::zmO::zmN::h30 P
def h28:List Obj:=zmV::zhB::zhA::zmU::zhz::zhy::zhx::zhw::zhv::zhu::zht::zmT::h29 P
def h27:List Obj:=zm3::zm2 P::zm1::zm0::zmZ::zmY::zhF::zhE P::zhD::zmX::zmW::zhC::h28 P
def h26:List Obj:=znb::zna P::zm9::zm8::zm7::zm6::zhK::zhJ P::zhI::zm5::zm4::zhG::h27 P
def h25:List Obj:=znj::zni P::znh::zng::znf::zne::zhO::zhN P::zhM::znd::znc::zhL::h26 P
def h24:List Obj:=znq P::znp::zno::znn::znm::zhS::zhR P::zhH::zhQ::znl::znk::zhP::h25 P
def h23:List Obj:=zh0::zhZ::znu::zhY::zhX::zhW::zhV P::zhU::znt::zns::zhT::znr::h24 P
def h22:List Obj:=zny::zh8::zh7::zh6::znx::zh5::zh4::znw::zh3::zh2::zh1::znv::h23 P
def h21:List Obj:=zih::zf3::zig::zif::zie::znA::zid::zic::zib::znz::zia::zh9::h22 P
def h20:List Obj:=zf8::zf7::zf6 P::zf5::zio::zin::zf4::zim::zil P::zik::zij::zii::h21 P
def h19:List Obj:=zit::zgg::zgf::zis::zge::zgd::zgc::zir::zgb::zga::ziq::zf9::h20 P
def h18:List Obj:=Ui::zgm::Uh::Ug::Uf::zgl::Ue::Ud::zgk::zgj::zgi::zgh::h19 P
def h17:List Obj:=zgv::zgu::Ul::zgt::zgs P::zgr::zgq::zgp::zgo::Uk::zgn::Uj::h18 P
def h16:List Obj:=Uw::Uv::Uu::zgx::Ut::Us::zgw::Ur::Uq::Up::Uo P::Um::h17 P
def h15:List Obj:=UE::zgB::UD::UC::zgA::UB::UA::Uz::zgz::Uy::Ux::zgy::h16 P
def h14:List Obj:=zgI P::zgH::zgG::zgF::zgE::UJ::zgD::UI::UH::zgC::UG::UF::h15 P
def h13:List Obj:=UR::UQ::zgL::UP::UO::UN::UM P::UL::zgK::zgJ::UK::VS::h14 P
def h12:List Obj:=zgP::UZ::UY::UX::zgO::UW::UV::zgN::UU::UT::US::zgM::h13 P
def h11:List Obj:=zgT::U7::zgS::U6::U5::zgR::U4::U3::U2::zgQ::U1::U0::h12 P
def h10:List Obj:=Xu::Xs::Xr P::Xq::We::Wd::Xp::zgY::zgX P::zgW::zgV::zgU::h11 P
def h9:List Obj:=Wi::XC::XB::Wh::XA::Xz::Xy::Wg::Xx::Xw::Wf::Xv::h10 P
def h8:List Obj:=o90::o91::o92::o93::o94::o95::o96::o97::o98::o99::XE::XD::h9 P
def h7:List Obj:=o75::o76::o80::o81::o82 P::o83::o84::o85::o86::o87::o88::o89::h8 P
def h6:List Obj:=o63::o64::o65 P::o66::o67::o68::o69::o70::o71 P::VR::o73::o74::h7 P
def h5:List Obj:=o51::o52::o53::o54::o55::o56::o57::o58::o59::o60::o61::o62::h6 P
def h4:List Obj:=o39::o40::o41::o42::o43::o44::o45::o46::o47::o48::o49::o50::h5 P
def h3:List Obj:=o27::o28::o29::o30::o31::o32::o33::o34::o35::o36::o37::o38::h4 P
def h2:List Obj:=o15::o16::o17::o18::o19::o20::o21::o22::o23::o24::o25::o26::h3 P
def h1:List Obj:=zu6::o2::o3::o6::o7::o8::o9::o10::o11::o12::o13::o14::h2 P
def h0:List Obj:=boot_o_0 P::boot_o_1 P::boot_o_2 P::zkK P::boot_o_4 P::boot_o_5 P::boot_o_6 P::boot_o_7 P::boot_o_8 P::boot_o_9 P::boot_o_10 P::o0::h1 P
def H1:Heap:=⟨⟨h0 P⟩,(Life.mk [] [] [] 0 [] [] false #[] [] 0 false false false 0 [2000,10,10] false 0 true [] [] 0 false)⟩
def sf (w:World) (os:OsState):Shared:=⟨H1 w.params,⟨[]⟩,(Drawn.mk 0 0 0 0),1010,os⟩
def Lf (w:World) (os:OsState):Option Shared:=topRun treeTable pw w 11 an 2 (zuF w os).abs ⟨doneF .next,cE,(Pos.mk 357 0 385 124),B⟩
def Rf (w:World) (os:OsState):Option Shared:=some (sf w os)
theorem qf:tt (Hd.Lf,Hd.Rf)=true:=by k_qdec
theorem rf:∀ w,Fast.tw2640074843757178226 w=Hd.Rf w:=fun w=>by kernel_rfl
theorem ef (w:World) (os:OsState):Hd.Lf w os=Hd.Rf w os:=(congrFun (congrFun Fast.te2640074843757178226 w) os).trans (congrFun (rf w) os)
theorem cut:bE=zuo++(zun++(zum++(zul++(zuk++(zuj++(zui++(zuh++(zug++(zuf++(zfq++([]))))))))))):=by kernel_rfl
theorem run (w:World) (os:OsState):topRun treeTable pw w 11 an (12+(1+(475+(340+(340+(346+(342+(541+(427+(515+(490+(578+(278+2))))))))))))) (s0 w os) (topStub pw)=some (sf w os):=by
 refine go_top (ea w os) (piece_block (q:=qE) (env:=env) (b:=bE) (segRun_of (eb w os)) ?_)
 rw[show restOf bE env cE (Pos.mk 0 0 0 0) [topFrame qE]=restOf _ env cE _ [topFrame qE] from congrArg (fun l=>restOf l env cE (Pos.mk 0 0 0 0) [topFrame qE]) cut]
 refine piece_app (segRun_of (e0 w os)) ?_
 refine piece_app (segRun_of (e1 w os)) ?_
 refine piece_app (segRun_of (e2 w os)) ?_
 refine piece_app (segRun_of (e3 w os)) ?_
 refine piece_app (segRun_of (e4 w os)) ?_
 refine piece_app (segRun_of (e5 w os)) ?_
 refine piece_app (segRun_of (e6 w os)) ?_
 refine piece_app (segRun_of (e7 w os)) ?_
 refine piece_app (segRun_of (e8 w os)) ?_
 refine piece_app (segRun_of (e9 w os)) ?_
 refine piece_app (segRun_of (e10 w os)) ?_
 exact ef w os
noncomputable def M:Nat:=12+(1+(475+(340+(340+(346+(342+(541+(427+(515+(490+(578+(278+2))))))))))))
noncomputable abbrev rW:RowW:=(PySem.Challenge.rw_beatless_k21_plain_runs_told_again.row).toRowW
def Q:Program:={ pw with main:={ pw.main with body:=[S 0,S 2,S 3,S 4,S 5,S 6,S 7,S 8,S 9,S 11,S 12,S 13,S 14,S 15,S 16,S 18,S 19,S 20,S 21,S 23,S 25,S 26,S 27,S 28,S 29,S 30,S 31,S 32,S 33,S 34,S 35,S 36,S 37,S 39,S 40,S 41,S 42,S 43,S 44,S 45,S 47,S 48,S 49,S 50,S 51,S 52,S 53,S 54,S 55,S 56,S 57,S 58,S 59] } }
def Xt (s:Shared):Bool:=xlAt Q [] s&&recOk (RowW.records rW) s
def K:Frag:=(nat_lit 2,boot_o_2 P)::(nat_lit 3,zkK P)::(nat_lit 15,o6)::(nat_lit 17,o8)::(nat_lit 18,o9)::(nat_lit 20,o11)::(nat_lit 21,o12)::(nat_lit 22,o13)::(nat_lit 25,o16)::(nat_lit 26,o17)::(nat_lit 27,o18)::(nat_lit 30,o21)::(nat_lit 31,o22)::(nat_lit 32,o23)::(nat_lit 35,o26)::(nat_lit 36,o27)::(nat_lit 37,o28)::(nat_lit 39,o30)::(nat_lit 40,o31)::(nat_lit 42,o33)::(nat_lit 43,o34)::(nat_lit 44,o35)::(nat_lit 46,o37)::(nat_lit 47,o38)::(nat_lit 49,o40)::(nat_lit 50,o41)::(nat_lit 51,o42)::(nat_lit 53,o44)::(nat_lit 54,o45)::(nat_lit 56,o47)::(nat_lit 57,o48)::(nat_lit 58,o49)::(nat_lit 60,o51)::(nat_lit 61,o52)::(nat_lit 63,o54)::(nat_lit 64,o55)::(nat_lit 65,o56)::(nat_lit 67,o58)::(nat_lit 68,o59)::(nat_lit 70,o61)::(nat_lit 71,o62)::(nat_lit 79,o70)::(nat_lit 80,o71 P)::(nat_lit 81,VR)::(nat_lit 82,o73)::(nat_lit 83,o74)::(nat_lit 86,o80)::(nat_lit 93,o87)::(nat_lit 95,o89)::(nat_lit 96,o90)::(nat_lit 98,o92)::(nat_lit 99,o93)::(nat_lit 100,o94)::(nat_lit 102,o96)::(nat_lit 103,o97)::(nat_lit 105,o99)::(nat_lit 106,XE)::(nat_lit 107,XD)::(nat_lit 109,XC)::(nat_lit 110,XB)::(nat_lit 112,XA)::(nat_lit 113,Xz)::(nat_lit 114,Xy)::(nat_lit 116,Xx)::(nat_lit 117,Xw)::(nat_lit 119,Xv)::(nat_lit 120,Xu)::(nat_lit 121,Xs)::(nat_lit 122,Xr P)::(nat_lit 123,Xq)::(nat_lit 126,Xp)::(nat_lit 133,U7)::(nat_lit 135,U6)::(nat_lit 136,U5)::(nat_lit 138,U4)::(nat_lit 139,U3)::(nat_lit 140,U2)::(nat_lit 142,U1)::(nat_lit 143,U0)::(nat_lit 145,UZ)::(nat_lit 146,UY)::(nat_lit 147,UX)::(nat_lit 149,UW)::(nat_lit 150,UV)::(nat_lit 152,UU)::(nat_lit 153,UT)::(nat_lit 154,US)::(nat_lit 156,UR)::(nat_lit 157,UQ)::(nat_lit 159,UP)::(nat_lit 160,UO)::(nat_lit 161,UN)::(nat_lit 162,UM P)::(nat_lit 163,UL)::(nat_lit 166,UK)::(nat_lit 173,UJ)::(nat_lit 175,UI)::(nat_lit 176,UH)::(nat_lit 178,UG)::(nat_lit 179,UF)::(nat_lit 180,UE)::(nat_lit 182,UD)::(nat_lit 183,UC)::(nat_lit 185,UB)::(nat_lit 186,UA)::(nat_lit 187,Uz)::(nat_lit 189,Uy)::(nat_lit 190,Ux)::(nat_lit 192,Uw)::(nat_lit 193,Uv)::(nat_lit 194,Uu)::(nat_lit 196,Ut)::(nat_lit 197,Us)::(nat_lit 199,Ur)::(nat_lit 200,Uq)::(nat_lit 201,Up)::(nat_lit 202,Uo P)::(nat_lit 203,Um)::(nat_lit 206,Ul)::(nat_lit 213,Uk)::(nat_lit 215,Uj)::(nat_lit 216,Ui)::(nat_lit 218,Uh)::(nat_lit 219,Ug)::(nat_lit 220,Uf)::(nat_lit 222,Ue)::(nat_lit 223,Ud)::(nat_lit 225,zgj)::(nat_lit 226,zgi)::(nat_lit 227,zgh)::(nat_lit 229,zgg)::(nat_lit 230,zgf)::(nat_lit 232,zge)::(nat_lit 233,zgd)::(nat_lit 234,zgc)::(nat_lit 236,zgb)::(nat_lit 237,zga)::(nat_lit 239,zf9)::(nat_lit 240,zf8)::(nat_lit 241,zf7)::(nat_lit 242,zf6 P)::(nat_lit 243,zf5)::(nat_lit 246,zf4)::(nat_lit 253,zf3)::(nat_lit 255,zif)::(nat_lit 256,zie)::(nat_lit 258,zid)::(nat_lit 259,zic)::(nat_lit 260,zib)::(nat_lit 262,zia)::(nat_lit 263,zh9)::(nat_lit 265,zh8)::(nat_lit 266,zh7)::(nat_lit 267,zh6)::(nat_lit 269,zh5)::(nat_lit 270,zh4)::(nat_lit 272,zh3)::(nat_lit 273,zh2)::(nat_lit 274,zh1)::(nat_lit 276,zh0)::(nat_lit 277,zhZ)::(nat_lit 279,zhY)::(nat_lit 280,zhX)::(nat_lit 281,zhW)::(nat_lit 282,zhV P)::(nat_lit 283,zhU)::(nat_lit 286,zhT)::(nat_lit 293,zhS)::(nat_lit 294,zhR P)::(nat_lit 295,zhH)::(nat_lit 296,zhQ)::(nat_lit 299,zhP)::(nat_lit 306,zhO)::(nat_lit 307,zhN P)::(nat_lit 308,zhM)::(nat_lit 311,zhL)::(nat_lit 318,zhK)::(nat_lit 319,zhJ P)::(nat_lit 320,zhI)::(nat_lit 323,zhG)::(nat_lit 330,zhF)::(nat_lit 331,zhE P)::(nat_lit 332,zhD)::(nat_lit 335,zhC)::(nat_lit 337,zhB)::(nat_lit 338,zhA)::(nat_lit 340,zhz)::(nat_lit 341,zhy)::(nat_lit 342,zhx)::(nat_lit 343,zhw)::(nat_lit 344,zhv)::(nat_lit 345,zhu)::(nat_lit 346,zht)::(nat_lit 348,zhs)::(nat_lit 349,zhr)::(nat_lit 351,zhq)::(nat_lit 352,zhp)::(nat_lit 353,zmR)::(nat_lit 355,zmQ)::(nat_lit 356,zmP)::(nat_lit 358,zmO)::(nat_lit 359,zmN)::(nat_lit 360,zmM)::(nat_lit 362,zmL)::(nat_lit 363,zmK)::(nat_lit 365,zmJ)::(nat_lit 366,zmI)::(nat_lit 367,zmH)::(nat_lit 369,zmG)::(nat_lit 370,zmF)::(nat_lit 372,zmE)::(nat_lit 373,zmD)::(nat_lit 374,zmC)::(nat_lit 376,zmB)::(nat_lit 377,zmA)::(nat_lit 379,zmz)::(nat_lit 380,zmy)::(nat_lit 381,zmx)::(nat_lit 384,zmw)::(nat_lit 385,zmv)::(nat_lit 393,zmu)::(nat_lit 395,zmt)::(nat_lit 396,zms)::(nat_lit 398,zmr)::(nat_lit 399,zmq)::(nat_lit 400,zmp)::(nat_lit 402,zmo)::(nat_lit 403,zmn)::(nat_lit 405,zmm)::(nat_lit 406,zml)::(nat_lit 407,zmk)::(nat_lit 409,zmj)::(nat_lit 410,zmi)::(nat_lit 412,zmh)::(nat_lit 413,zmg)::(nat_lit 414,zmf)::(nat_lit 416,zme)::(nat_lit 417,zmd)::(nat_lit 419,zmc)::(nat_lit 420,zmb)::(nat_lit 421,zma)::(nat_lit 422,zl9 P)::(nat_lit 423,zl8)::(nat_lit 424,zl7)::(nat_lit 425,zl6)::(nat_lit 428,zl5)::(nat_lit 430,zl4)::(nat_lit 431,zl3)::(nat_lit 433,zl2)::(nat_lit 434,zl1)::(nat_lit 435,zl0)::(nat_lit 437,zlZ)::(nat_lit 438,zlY)::(nat_lit 440,zlX)::(nat_lit 441,zlW)::(nat_lit 442,zlV)::(nat_lit 444,zlU)::(nat_lit 445,zlT)::(nat_lit 447,zlS)::(nat_lit 448,zlR)::(nat_lit 449,zlQ)::(nat_lit 451,zlP)::(nat_lit 452,zlO)::(nat_lit 454,zlN)::(nat_lit 455,zlM)::(nat_lit 463,zlL)::(nat_lit 465,zlK)::(nat_lit 466,zlJ)::(nat_lit 468,zlI)::(nat_lit 469,zlH)::(nat_lit 470,zlG)::(nat_lit 472,zlF)::(nat_lit 473,zlE)::(nat_lit 475,zlD)::(nat_lit 476,zlC)::(nat_lit 477,zlB)::(nat_lit 479,zlA)::(nat_lit 480,zlz)::(nat_lit 482,zly)::(nat_lit 483,zlx)::(nat_lit 484,zlw)::(nat_lit 486,zlv)::(nat_lit 487,zlu)::(nat_lit 489,zlt)::(nat_lit 490,zls)::(nat_lit 491,zlr)::(nat_lit 493,zlq)::(nat_lit 494,zlp)::(nat_lit 496,zlo)::(nat_lit 497,zln)::(nat_lit 498,zlm)::(nat_lit 500,zll)::(nat_lit 501,zlk)::(nat_lit 503,zlj)::(nat_lit 504,zli)::(nat_lit 505,zlh)::(nat_lit 507,zlg)::(nat_lit 508,zlf)::(nat_lit 510,zle)::(nat_lit 511,zld)::(nat_lit 512,zlc)::(nat_lit 514,zlb)::(nat_lit 515,zla)::(nat_lit 517,zk9)::(nat_lit 518,zk8)::(nat_lit 519,zk7)::(nat_lit 520,zk6 P)::(nat_lit 521,zk5)::(nat_lit 522,zk4)::(nat_lit 523,zk3)::(nat_lit 526,zk2)::(nat_lit 528,zk1)::(nat_lit 529,zk0)::(nat_lit 531,zkZ)::(nat_lit 532,zkY)::(nat_lit 533,zkX)::(nat_lit 535,zkW)::(nat_lit 536,zkV)::(nat_lit 538,zkU)::(nat_lit 539,zkT)::(nat_lit 540,zkS)::(nat_lit 542,zkR)::(nat_lit 543,zkQ)::(nat_lit 545,zkP)::(nat_lit 546,zkO)::(nat_lit 547,zkN)::(nat_lit 550,zkM)::(nat_lit 551,zkL)::(nat_lit 552,zkJ)::(nat_lit 554,zkI)::(nat_lit 555,zkH)::(nat_lit 557,zkG)::(nat_lit 558,zkF)::(nat_lit 564,zkE)::(nat_lit 567,zkD)::(nat_lit 568,zkC)::(nat_lit 569,zkB)::(nat_lit 571,zkA)::(nat_lit 572,zkz)::(nat_lit 574,zky)::(nat_lit 575,zkx)::(nat_lit 576,zkw)::(nat_lit 578,zkv)::(nat_lit 579,zku)::(nat_lit 581,zkt)::(nat_lit 582,zks)::(nat_lit 583,zkr)::(nat_lit 585,zkq)::(nat_lit 586,zkp)::(nat_lit 588,zko)::(nat_lit 589,zkn)::(nat_lit 590,zkm)::(nat_lit 592,zkl)::(nat_lit 593,zkk)::(nat_lit 595,zkj)::(nat_lit 596,zki)::(nat_lit 597,zkh)::(nat_lit 600,zkg)::(nat_lit 601,zkf)::(nat_lit 602,zke)::(nat_lit 604,zkd)::(nat_lit 605,zkc)::(nat_lit 607,zkb)::(nat_lit 608,zka)::[]
noncomputable def as:List Addr:=[2,3,15,17,18,20,21,22,25,26,27,30,31,32,35,36,37,39,40,42,43,44,46,47,49,50,51,53,54,56,57,58,60,61,63,64,65,67,68,70,71,79,80,81,82,83,86,93,95,96,98,99,100,102,103,105,106,107,109,110,112,113,114,116,117,119,120,121,122,123,126,133,135,136,138,139,140,142,143,145,146,147,149,150,152,153,154,156,157,159,160,161,162,163,166,173,175,176,178,179,180,182,183,185,186,187,189,190,192,193,194,196,197,199,200,201,202,203,206,213,215,216,218,219,220,222,223,225,226,227,229,230,232,233,234,236,237,239,240,241,242,243,246,253,255,256,258,259,260,262,263,265,266,267,269,270,272,273,274,276,277,279,280,281,282,283,286,293,294,295,296,299,306,307,308,311,318,319,320,323,330,331,332,335,337,338,340,341,342,343,344,345,346,348,349,351,352,353,355,356,358,359,360,362,363,365,366,367,369,370,372,373,374,376,377,379,380,381,384,385,393,395,396,398,399,400,402,403,405,406,407,409,410,412,413,414,416,417,419,420,421,422,423,424,425,428,430,431,433,434,435,437,438,440,441,442,444,445,447,448,449,451,452,454,455,463,465,466,468,469,470,472,473,475,476,477,479,480,482,483,484,486,487,489,490,491,493,494,496,497,498,500,501,503,504,505,507,508,510,511,512,514,515,517,518,519,520,521,522,523,526,528,529,531,532,533,535,536,538,539,540,542,543,545,546,547,550,551,552,554,555,557,558,564,567,568,569,571,572,574,575,576,578,579,581,582,583,585,586,588,589,590,592,593,595,596,597,600,601,602,604,605,607,608]
theorem asK (P:Params):as=(K P).map (·.1):=by kernel_rfl
def Ly (w:World) (os:OsState):List (Option Obj):=as.map (sf w os).heap.get?
def Ry (w:World) (_:OsState):List (Option Obj):=(K w.params).map fun p=>some p.2
theorem qy:tt (Hd.Ly,Hd.Ry)=true:=by k_qdec
theorem ry:∀ w,Fast.tw691215026958702249 w=Hd.Ry w:=fun w=>by kernel_rfl
theorem ey (w:World) (os:OsState):Hd.Ly w os=Hd.Ry w os:=(congrFun (congrFun Fast.te691215026958702249 w) os).trans (congrFun (ry w) os)
abbrev hk:Hook:=kHook K as asK
noncomputable abbrev zwe:List Str:=importedModules pw.main.body
def A (w:World) (os:OsState):=openSeen Q [] zwe Xt true (sf w os)
def G (_:World) (_:OsState):=openGood Q []
def A0 (w:World) (os:OsState):=(A w os).1
def G0 (w:World) (os:OsState):=(G w os).1
theorem qA0:tt (Hd.A0,Hd.G0)=true:=by k_qdec
theorem rA0:∀ w,Fast.tw6131166808449026830 w=Hd.G0 w:=fun w=>by kernel_rfl
theorem eA0 (w:World) (os:OsState):Hd.A0 w os=Hd.G0 w os:=(congrFun (congrFun Fast.te6131166808449026830 w) os).trans (congrFun (rA0 w) os)
def A1 (w:World) (os:OsState):=(A w os).2.1
def G1 (w:World) (os:OsState):=(G w os).2.1
theorem qA1:tt (Hd.A1,Hd.G1)=true:=by k_qdec
theorem rA1:∀ w,Fast.tw7581016493306269660 w=Hd.G1 w:=fun w=>by kernel_rfl
theorem eA1 (w:World) (os:OsState):Hd.A1 w os=Hd.G1 w os:=(congrFun (congrFun Fast.te7581016493306269660 w) os).trans (congrFun (rA1 w) os)
def A2 (w:World) (os:OsState):=(A w os).2.2.1
def G2 (w:World) (os:OsState):=(G w os).2.2.1
theorem qA2:tt (Hd.A2,Hd.G2)=true:=by k_qdec
theorem rA2:∀ w,Fast.tw2900191123710467766 w=Hd.G2 w:=fun w=>by kernel_rfl
theorem eA2 (w:World) (os:OsState):Hd.A2 w os=Hd.G2 w os:=(congrFun (congrFun Fast.te2900191123710467766 w) os).trans (congrFun (rA2 w) os)
def A3 (w:World) (os:OsState):=(A w os).2.2.2.1
def G3 (w:World) (os:OsState):=(G w os).2.2.2.1
theorem qA3:tt (Hd.A3,Hd.G3)=true:=by k_qdec
theorem rA3:∀ w,Fast.tw447134267514248570 w=Hd.G3 w:=fun w=>by kernel_rfl
theorem eA3 (w:World) (os:OsState):Hd.A3 w os=Hd.G3 w os:=(congrFun (congrFun Fast.te447134267514248570 w) os).trans (congrFun (rA3 w) os)
def A4 (w:World) (os:OsState):=(A w os).2.2.2.2.1
def G4 (w:World) (os:OsState):=(G w os).2.2.2.2.1
theorem qA4:tt (Hd.A4,Hd.G4)=true:=by k_qdec
theorem rA4:∀ w,Fast.tw14409291123802741499 w=Hd.G4 w:=fun w=>by kernel_rfl
theorem eA4 (w:World) (os:OsState):Hd.A4 w os=Hd.G4 w os:=(congrFun (congrFun Fast.te14409291123802741499 w) os).trans (congrFun (rA4 w) os)
def A5 (w:World) (os:OsState):=(A w os).2.2.2.2.2.1
def G5 (w:World) (os:OsState):=(G w os).2.2.2.2.2.1
theorem qA5:tt (Hd.A5,Hd.G5)=true:=by k_qdec
theorem rA5:∀ w,Fast.tw7163156141784225904 w=Hd.G5 w:=fun w=>by kernel_rfl
theorem eA5 (w:World) (os:OsState):Hd.A5 w os=Hd.G5 w os:=(congrFun (congrFun Fast.te7163156141784225904 w) os).trans (congrFun (rA5 w) os)
def A6 (w:World) (os:OsState):=(A w os).2.2.2.2.2.2.1
def G6 (w:World) (os:OsState):=(G w os).2.2.2.2.2.2.1
theorem qA6:tt (Hd.A6,Hd.G6)=true:=by k_qdec
theorem rA6:∀ w,Fast.tw148487786646926683 w=Hd.G6 w:=fun w=>by kernel_rfl
theorem eA6 (w:World) (os:OsState):Hd.A6 w os=Hd.G6 w os:=(congrFun (congrFun Fast.te148487786646926683 w) os).trans (congrFun (rA6 w) os)
def A7 (w:World) (os:OsState):=(A w os).2.2.2.2.2.2.2.1
def G7 (w:World) (os:OsState):=(G w os).2.2.2.2.2.2.2.1
theorem qA7:tt (Hd.A7,Hd.G7)=true:=by k_qdec
theorem rA7:∀ w,Fast.tw17782257788342479682 w=Hd.G7 w:=fun w=>by kernel_rfl
theorem eA7 (w:World) (os:OsState):Hd.A7 w os=Hd.G7 w os:=(congrFun (congrFun Fast.te17782257788342479682 w) os).trans (congrFun (rA7 w) os)
def A8 (w:World) (os:OsState):=(A w os).2.2.2.2.2.2.2.2
def G8 (w:World) (os:OsState):=(G w os).2.2.2.2.2.2.2.2
theorem qA8:tt (Hd.A8,Hd.G8)=true:=by k_qdec
theorem rA8:∀ w,Fast.tw8885869309975874061 w=Hd.G8 w:=fun w=>by kernel_rfl
theorem eA8 (w:World) (os:OsState):Hd.A8 w os=Hd.G8 w os:=(congrFun (congrFun Fast.te8885869309975874061 w) os).trans (congrFun (rA8 w) os)
def Ls (w:World) (os:OsState):Bool:=staticsOk zwe (boot_heap w.params) (H1 w.params)&&namesBound pw (H1 w.params)&&gensDone (sf w os)&&laidKept (boot_heap w.params) (H1 w.params)
noncomputable def Rs (_:World) (_:OsState):Bool:=true
def Lz (w:World) (_:OsState):=((boot_heap w.params).isNs mainGlobals&&(⟨[]⟩:Array GenState).size == 0,(boot_heap w.params).objs.size,(boot_heap w.params).nsMap mainGlobals "__annotations__")
noncomputable def Rz (_:World) (_:OsState):Bool×Nat×Option Value:=(true,11,an)
theorem qs:tt Hd.Ls=true:=by k_qdec
theorem rs:∀ w,Fast.tw4959303863618478765 w=Hd.Rs w:=fun w=>by kernel_rfl
theorem es (w:World) (os:OsState):Hd.Ls w os=Hd.Rs w os:=(congrFun (congrFun Fast.te4959303863618478765 w) os).trans (congrFun (rs w) os)
theorem qz:tt Hd.Lz=true:=by k_qdec
theorem rz:∀ w,Fast.tw17831390912981975158 w=Hd.Rz w:=fun w=>by kernel_rfl
theorem ez (w:World) (os:OsState):Hd.Lz w os=Hd.Rz w os:=(congrFun (congrFun Fast.te17831390912981975158 w) os).trans (congrFun (rz w) os)
theorem op:opening pw=plainProg pw.main.scope.names:=by kernel_rfl
theorem fe (s:Shared):fenceModules? pw s=some s:=by kernel_rfl
theorem left:LeftO pw Q [] Xt hk.obs hk.val 9448 :=
 LeftO.of_pieces (M:=M) (m₀:=11) (ann:=an) (H₀:=boot_heap) (H₁:=H1) (boot_open op (by kernel_rfl) fe) (fun w=>ez w (start pw).1.os) run (by kernel_rfl) (fun w=>funext fun os=>looks_pair (es w os) (looks_pair
  (Prod.ext (eA0 w os) (Prod.ext (eA1 w os) (Prod.ext (eA2 w os) (Prod.ext (eA3 w os) (Prod.ext (eA4 w os) (Prod.ext (eA5 w os) (Prod.ext (eA6 w os) (Prod.ext (eA7 w os) (eA8 w os)))))))))
  (ey w os)))
theorem both {a b:Bool}(z:(a&&b)=true):a=true∧b=true:=Bool.and_eq_true_iff.mp z
end Hd
end
namespace K04
open PySem L2
abbrev fS (n q:Str) (s:Stmt) (k d p:Value) (a:Option Addr) (c t:Value):FuncData:=PySem.W.fnOf n q (defArgs s) (defBody s) (defScope s) .none k d p a c t
open PySem.W (nsIn findIn isFn codeIn keepIn plainGet hasDictIn plainOver makesIn mroIn specialIn takesIn kitOne mg_of mg_none_of excIn)
theorem txt_mk {w:World}{K:PySem.W.Frag}{h:Heap}{mg:Str→Option Value}(X:K.In h) (G:h.Ns mainGlobals mg)
  {f_qa:Addr}{od0 an0:Option Addr}{sl0:Array (Option Value)}{oc0 kV0 dc0 pm0 cd0 ct0:Value}{f_qb:Addr}{od1 an1:Option Addr}{sl1:Array (Option Value)}{oc1 kV1 dc1 pm1 cd1 ct1:Value}{f_qc:Addr}{od2 an2:Option Addr}{sl2:Array (Option Value)}{oc2 kV2 dc2 pm2 cd2 ct2:Value}{f_qd:Addr}{od3 an3:Option Addr}{sl3:Array (Option Value)}{oc3 kV3 dc3 pm3 cd3 ct3:Value}{f_qe:Addr}{od4 an4:Option Addr}{sl4:Array (Option Value)}{oc4 kV4 dc4 pm4 cd4 ct4:Value}{f_qf:Addr}{od5 an5:Option Addr}{sl5:Array (Option Value)}{oc5 kV5 dc5 pm5 cd5 ct5:Value}{f_qg:Addr}{od6 an6:Option Addr}{sl6:Array (Option Value)}{oc6 kV6 dc6 pm6 cd6 ct6:Value}{f_qh:Addr}{od7 an7:Option Addr}{sl7:Array (Option Value)}{oc7 kV7 dc7 pm7 cd7 ct7:Value}{f_qi:Addr}{od8 an8:Option Addr}{sl8:Array (Option Value)}{oc8 kV8 dc8 pm8 cd8 ct8:Value}{f_qj:Addr}{od9 an9:Option Addr}{sl9:Array (Option Value)}{oc9 kV9 dc9 pm9 cd9 ct9:Value}{f_qk:Addr}{od10 an10:Option Addr}{sl10:Array (Option Value)}{oc10 kV10 dc10 pm10 cd10 ct10:Value}{f_ql:Addr}{od11 an11:Option Addr}{sl11:Array (Option Value)}{oc11 kV11 dc11 pm11 cd11 ct11:Value}{f_qm:Addr}{od12 an12:Option Addr}{sl12:Array (Option Value)}{oc12 kV12 dc12 pm12 cd12 ct12:Value}{f_qn:Addr}{od13 an13:Option Addr}{sl13:Array (Option Value)}{oc13 kV13 dc13 pm13 cd13 ct13:Value}{f_qo:Addr}{od14 an14:Option Addr}{sl14:Array (Option Value)}{oc14 kV14 dc14 pm14 cd14 ct14:Value}{f_qp:Addr}{od15 an15:Option Addr}{sl15:Array (Option Value)}{oc15 kV15 dc15 pm15 cd15 ct15:Value}{f_qq:Addr}{od16 an16:Option Addr}{sl16:Array (Option Value)}{oc16 kV16 dc16 pm16 cd16 ct16:Value}{f_qr:Addr}{od17 an17:Option Addr}{sl17:Array (Option Value)}{oc17 kV17 dc17 pm17 cd17 ct17:Value}{f_qs:Addr}{od18 an18:Option Addr}{sl18:Array (Option Value)}{oc18 kV18 dc18 pm18 cd18 ct18:Value}{f_qt:Addr}{od19 an19:Option Addr}{sl19:Array (Option Value)}{oc19 kV19 dc19 pm19 cd19 ct19:Value}{f_qu:Addr}{od20 an20:Option Addr}{sl20:Array (Option Value)}{oc20 kV20 dc20 pm20 cd20 ct20:Value}{f_qv:Addr}{od21 an21:Option Addr}{sl21:Array (Option Value)}{oc21 kV21 dc21 pm21 cd21 ct21:Value}{f_qw:Addr}{od22 an22:Option Addr}{sl22:Array (Option Value)}{oc22 kV22 dc22 pm22 cd22 ct22:Value}{f_qx:Addr}{od23 an23:Option Addr}{sl23:Array (Option Value)}{oc23 kV23 dc23 pm23 cd23 ct23:Value}{f_qy:Addr}{od24 an24:Option Addr}{sl24:Array (Option Value)}{oc24 kV24 dc24 pm24 cd24 ct24:Value}{f_qz:Addr}{od25 an25:Option Addr}{sl25:Array (Option Value)}{oc25 kV25 dc25 pm25 cd25 ct25:Value}{f_qA:Addr}{od26 an26:Option Addr}{sl26:Array (Option Value)}{oc26 kV26 dc26 pm26 cd26 ct26:Value}{f_qB:Addr}{od27 an27:Option Addr}{sl27:Array (Option Value)}{oc27 kV27 dc27 pm27 cd27 ct27:Value}{f_qC:Addr}{od28 an28:Option Addr}{sl28:Array (Option Value)}{oc28 kV28 dc28 pm28 cd28 ct28:Value}{f_qD:Addr}{od29 an29:Option Addr}{sl29:Array (Option Value)}{oc29 kV29 dc29 pm29 cd29 ct29:Value}{f_qE:Addr}{od30 an30:Option Addr}{sl30:Array (Option Value)}{oc30 kV30 dc30 pm30 cd30 ct30:Value}{f_qF:Addr}{od31 an31:Option Addr}{sl31:Array (Option Value)}{oc31 kV31 dc31 pm31 cd31 ct31:Value}{f_qG:Addr}{od32 an32:Option Addr}{sl32:Array (Option Value)}{oc32 kV32 dc32 pm32 cd32 ct32:Value}{f_qH:Addr}{od33 an33:Option Addr}{sl33:Array (Option Value)}{oc33 kV33 dc33 pm33 cd33 ct33:Value}{f_qI:Addr}{od34 an34:Option Addr}{sl34:Array (Option Value)}{oc34 kV34 dc34 pm34 cd34 ct34:Value}{f_qJ:Addr}{od35 an35:Option Addr}{sl35:Array (Option Value)}{oc35 kV35 dc35 pm35 cd35 ct35:Value}{f_qK:Addr}{od36 an36:Option Addr}{sl36:Array (Option Value)}{oc36 kV36 dc36 pm36 cd36 ct36:Value}{f_qL:Addr}{od37 an37:Option Addr}{sl37:Array (Option Value)}{oc37 kV37 dc37 pm37 cd37 ct37:Value}{f_qM:Addr}{od38 an38:Option Addr}{sl38:Array (Option Value)}{oc38 kV38 dc38 pm38 cd38 ct38:Value}{f_qN:Addr}{od39 an39:Option Addr}{sl39:Array (Option Value)}{oc39 kV39 dc39 pm39 cd39 ct39:Value}{f_qO:Addr}{od40 an40:Option Addr}{sl40:Array (Option Value)}{oc40 kV40 dc40 pm40 cd40 ct40:Value}{f_qP:Addr}{od41 an41:Option Addr}{sl41:Array (Option Value)}{oc41 kV41 dc41 pm41 cd41 ct41:Value}{f_qQ:Addr}{od42 an42:Option Addr}{sl42:Array (Option Value)}{oc42 kV42 dc42 pm42 cd42 ct42:Value}{f_qR:Addr}{od43 an43:Option Addr}{sl43:Array (Option Value)}{oc43 kV43 dc43 pm43 cd43 ct43:Value}{f_qS:Addr}{od44 an44:Option Addr}{sl44:Array (Option Value)}{oc44 kV44 dc44 pm44 cd44 ct44:Value}{f_qT:Addr}{od45 an45:Option Addr}{sl45:Array (Option Value)}{oc45 kV45 dc45 pm45 cd45 ct45:Value}{f_qU:Addr}{od46 an46:Option Addr}{sl46:Array (Option Value)}{oc46 kV46 dc46 pm46 cd46 ct46:Value}{f_qV:Addr}{od47 an47:Option Addr}{sl47:Array (Option Value)}{oc47 kV47 dc47 pm47 cd47 ct47:Value}{f_qW:Addr}{od48 an48:Option Addr}{sl48:Array (Option Value)}{oc48 kV48 dc48 pm48 cd48 ct48:Value}{f_qX:Addr}{od49 an49:Option Addr}{sl49:Array (Option Value)}{oc49 kV49 dc49 pm49 cd49 ct49:Value}{f_qY:Addr}{od50 an50:Option Addr}{sl50:Array (Option Value)}{oc50 kV50 dc50 pm50 cd50 ct50:Value}{f_qZ:Addr}{od51 an51:Option Addr}{sl51:Array (Option Value)}{oc51 kV51 dc51 pm51 cd51 ct51:Value}{f_qa0:Addr}{od52 an52:Option Addr}{sl52:Array (Option Value)}{oc52 kV52 dc52 pm52 cd52 ct52:Value}{f_qa1:Addr}{od53 an53:Option Addr}{sl53:Array (Option Value)}{oc53 kV53 dc53 pm53 cd53 ct53:Value}{f_qa2:Addr}{od54 an54:Option Addr}{sl54:Array (Option Value)}{oc54 kV54 dc54 pm54 cd54 ct54:Value}{c_Num:Addr}{c_Name:Addr}{c_Two:Addr}{c_Mod:Addr}{c_Less:Addr}{c_Program:Addr}{c_Web:Addr}{t_START_NAMES:Addr}{od_START_NAMES:Option Addr}{n_START_NAMES:Nat}{sl_START_NAMES:Array (Option Value)}{u_START_NAMES0 u_START_NAMES1:Tok}{t_SEND_NAMES:Addr}{od_SEND_NAMES:Option Addr}{n_SEND_NAMES:Nat}{sl_SEND_NAMES:Array (Option Value)}{u_SEND_NAMES0 u_SEND_NAMES1 u_SEND_NAMES2 u_SEND_NAMES3 u_SEND_NAMES4:Tok}{t_RENEW_NAMES:Addr}{od_RENEW_NAMES:Option Addr}{n_RENEW_NAMES:Nat}{sl_RENEW_NAMES:Array (Option Value)}{u_RENEW_NAMES0 u_RENEW_NAMES1 u_RENEW_NAMES2 u_RENEW_NAMES3 u_RENEW_NAMES4 u_RENEW_NAMES5 u_RENEW_NAMES6 u_RENEW_NAMES7:Tok}{t_TWO_WORDS:Addr}{od_TWO_WORDS:Option Addr}{n_TWO_WORDS:Nat}{sl_TWO_WORDS:Array (Option Value)}{u_TWO_WORDS0 u_TWO_WORDS1 u_TWO_WORDS2 u_TWO_WORDS3:Tok}{t_MOST_WORDS:Tok}{t_MOST_DEEP:Tok}{t_MOST_HANDS:Tok}{t_LAST_HAND:Tok}
  (z_len:nsIn K mainGlobals "len" = some none)
  (z_int:nsIn K mainGlobals "int" = some none)
  (z_min:nsIn K mainGlobals "min" = some none)
  (z_max:nsIn K mainGlobals "max" = some none)
  (z_range:nsIn K mainGlobals "range" = some none)
  (z_isinstance:nsIn K mainGlobals "isinstance" = some none)
  (z_list:nsIn K mainGlobals "list" = some none)
  (z_dict:nsIn K mainGlobals "dict" = some none)
  (z_abs:nsIn K mainGlobals "abs" = some none)
  (z_sorted:nsIn K mainGlobals "sorted" = some none)
  (z_str:nsIn K mainGlobals "str" = some none)
  (z_sum:nsIn K mainGlobals "sum" = some none)
  (z_bool:nsIn K mainGlobals "bool" = some none)
  (z_tuple:nsIn K mainGlobals "tuple" = some none)
  (z_ValueError:nsIn K mainGlobals "ValueError" = some none)
  (A_Num:nsIn K mainGlobals "Num" = some (some (.ref c_Num)))
  (A_Name:nsIn K mainGlobals "Name" = some (some (.ref c_Name)))
  (A_Two:nsIn K mainGlobals "Two" = some (some (.ref c_Two)))
  (A_Mod:nsIn K mainGlobals "Mod" = some (some (.ref c_Mod)))
  (A_Less:nsIn K mainGlobals "Less" = some (some (.ref c_Less)))
  (A_Program:nsIn K mainGlobals "Program" = some (some (.ref c_Program)))
  (A_Web:nsIn K mainGlobals "Web" = some (some (.ref c_Web)))
  (a_0:nsIn K mainGlobals "first_worths" = some (some (.ref f_qa)))
  (l_0:K.lookup f_qa=some ⟨oc0,od0,.func (fS "first_worths" "first_worths" Z1 kV0 dc0 pm0 an0 cd0 ct0),sl0⟩)
  (cc_0:codeIn K cd0 "first_worths" = true)
  (kk_0:keepIn K (.ref f_qa)=true)
  (a_1:nsIn K mainGlobals "heard_in" = some (some (.ref f_qb)))
  (l_1:K.lookup f_qb=some ⟨oc1,od1,.func (fS "heard_in" "heard_in" Z0 kV1 dc1 pm1 an1 cd1 ct1),sl1⟩)
  (cc_1:codeIn K cd1 "heard_in" = true)
  (kk_1:keepIn K (.ref f_qb)=true)
  (a_2:nsIn K mainGlobals "worths_behind" = some (some (.ref f_qc)))
  (l_2:K.lookup f_qc=some ⟨oc2,od2,.func (fS "worths_behind" "worths_behind" ZZ kV2 dc2 pm2 an2 cd2 ct2),sl2⟩)
  (cc_2:codeIn K cd2 "worths_behind" = true)
  (kk_2:keepIn K (.ref f_qc)=true)
  (a_3:nsIn K mainGlobals "run_pieces" = some (some (.ref f_qd)))
  (l_3:K.lookup f_qd=some ⟨oc3,od3,.func (fS "run_pieces" "run_pieces" ZY kV3 dc3 pm3 an3 cd3 ct3),sl3⟩)
  (cc_3:codeIn K cd3 "run_pieces" = true)
  (kk_3:keepIn K (.ref f_qd)=true)
  (a_4:nsIn K mainGlobals "worths_by_pieces" = some (some (.ref f_qe)))
  (l_4:K.lookup f_qe=some ⟨oc4,od4,.func (fS "worths_by_pieces" "worths_by_pieces" ZX kV4 dc4 pm4 an4 cd4 ct4),sl4⟩)
  (cc_4:codeIn K cd4 "worths_by_pieces" = true)
  (kk_4:keepIn K (.ref f_qe)=true)
  (a_5:nsIn K mainGlobals "heard_by_pieces" = some (some (.ref f_qf)))
  (l_5:K.lookup f_qf=some ⟨oc5,od5,.func (fS "heard_by_pieces" "heard_by_pieces" ZW kV5 dc5 pm5 an5 cd5 ct5),sl5⟩)
  (cc_5:codeIn K cd5 "heard_by_pieces" = true)
  (kk_5:keepIn K (.ref f_qf)=true)
  (a_6:nsIn K mainGlobals "plain_worths" = some (some (.ref f_qg)))
  (l_6:K.lookup f_qg=some ⟨oc6,od6,.func (fS "plain_worths" "plain_worths" ZV kV6 dc6 pm6 an6 cd6 ct6),sl6⟩)
  (cc_6:codeIn K cd6 "plain_worths" = true)
  (kk_6:keepIn K (.ref f_qg)=true)
  (a_7:nsIn K mainGlobals "plain_heard" = some (some (.ref f_qh)))
  (l_7:K.lookup f_qh=some ⟨oc7,od7,.func (fS "plain_heard" "plain_heard" ZU kV7 dc7 pm7 an7 cd7 ct7),sl7⟩)
  (cc_7:codeIn K cd7 "plain_heard" = true)
  (kk_7:keepIn K (.ref f_qh)=true)
  (a_8:nsIn K mainGlobals "is_whole" = some (some (.ref f_qi)))
  (l_8:K.lookup f_qi=some ⟨oc8,od8,.func (fS "is_whole" "is_whole" ZT kV8 dc8 pm8 an8 cd8 ct8),sl8⟩)
  (cc_8:codeIn K cd8 "is_whole" = true)
  (kk_8:keepIn K (.ref f_qi)=true)
  (a_9:nsIn K mainGlobals "is_short_number" = some (some (.ref f_qj)))
  (l_9:K.lookup f_qj=some ⟨oc9,od9,.func (fS "is_short_number" "is_short_number" ZS kV9 dc9 pm9 an9 cd9 ct9),sl9⟩)
  (cc_9:codeIn K cd9 "is_short_number" = true)
  (kk_9:keepIn K (.ref f_qj)=true)
  (a_10:nsIn K mainGlobals "is_word_of" = some (some (.ref f_qk)))
  (l_10:K.lookup f_qk=some ⟨oc10,od10,.func (fS "is_word_of" "is_word_of" ZR kV10 dc10 pm10 an10 cd10 ct10),sl10⟩)
  (cc_10:codeIn K cd10 "is_word_of" = true)
  (kk_10:keepIn K (.ref f_qk)=true)
  (a_11:nsIn K mainGlobals "is_divisor" = some (some (.ref f_ql)))
  (l_11:K.lookup f_ql=some ⟨oc11,od11,.func (fS "is_divisor" "is_divisor" ZQ kV11 dc11 pm11 an11 cd11 ct11),sl11⟩)
  (cc_11:codeIn K cd11 "is_divisor" = true)
  (kk_11:keepIn K (.ref f_ql)=true)
  (a_12:nsIn K mainGlobals "are_sound" = some (some (.ref f_qm)))
  (l_12:K.lookup f_qm=some ⟨oc12,od12,.func (fS "are_sound" "are_sound" ZP kV12 dc12 pm12 an12 cd12 ct12),sl12⟩)
  (cc_12:codeIn K cd12 "are_sound" = true)
  (kk_12:keepIn K (.ref f_qm)=true)
  (a_13:nsIn K mainGlobals "is_sound" = some (some (.ref f_qn)))
  (l_13:K.lookup f_qn=some ⟨oc13,od13,.func (fS "is_sound" "is_sound" ZO kV13 dc13 pm13 an13 cd13 ct13),sl13⟩)
  (cc_13:codeIn K cd13 "is_sound" = true)
  (kk_13:keepIn K (.ref f_qn)=true)
  (a_14:nsIn K mainGlobals "count_words" = some (some (.ref f_qo)))
  (l_14:K.lookup f_qo=some ⟨oc14,od14,.func (fS "count_words" "count_words" uR kV14 dc14 pm14 an14 cd14 ct14),sl14⟩)
  (cc_14:codeIn K cd14 "count_words" = true)
  (kk_14:keepIn K (.ref f_qo)=true)
  (a_15:nsIn K mainGlobals "are_hands" = some (some (.ref f_qp)))
  (l_15:K.lookup f_qp=some ⟨oc15,od15,.func (fS "are_hands" "are_hands" ZN kV15 dc15 pm15 an15 cd15 ct15),sl15⟩)
  (cc_15:codeIn K cd15 "are_hands" = true)
  (kk_15:keepIn K (.ref f_qp)=true)
  (a_16:nsIn K mainGlobals "is_line" = some (some (.ref f_qq)))
  (l_16:K.lookup f_qq=some ⟨oc16,od16,.func (fS "is_line" "is_line" ZM kV16 dc16 pm16 an16 cd16 ct16),sl16⟩)
  (cc_16:codeIn K cd16 "is_line" = true)
  (kk_16:keepIn K (.ref f_qq)=true)
  (a_17:nsIn K mainGlobals "are_lines" = some (some (.ref f_qr)))
  (l_17:K.lookup f_qr=some ⟨oc17,od17,.func (fS "are_lines" "are_lines" ZL kV17 dc17 pm17 an17 cd17 ct17),sl17⟩)
  (cc_17:codeIn K cd17 "are_lines" = true)
  (kk_17:keepIn K (.ref f_qr)=true)
  (a_18:nsIn K mainGlobals "near_by_hand" = some (some (.ref f_qs)))
  (l_18:K.lookup f_qs=some ⟨oc18,od18,.func (fS "near_by_hand" "near_by_hand" ZK kV18 dc18 pm18 an18 cd18 ct18),sl18⟩)
  (cc_18:codeIn K cd18 "near_by_hand" = true)
  (kk_18:keepIn K (.ref f_qs)=true)
  (a_19:nsIn K mainGlobals "_law_cell_at" = some (some (.ref f_qt)))
  (l_19:K.lookup f_qt=some ⟨oc19,od19,.func (fS "_law_cell_at" "_law_cell_at" ZJ kV19 dc19 pm19 an19 cd19 ct19),sl19⟩)
  (cc_19:codeIn K cd19 "_law_cell_at" = true)
  (kk_19:keepIn K (.ref f_qt)=true)
  (a_20:nsIn K mainGlobals "_law_draws" = some (some (.ref f_qu)))
  (l_20:K.lookup f_qu=some ⟨oc20,od20,.func (fS "_law_draws" "_law_draws" ZI kV20 dc20 pm20 an20 cd20 ct20),sl20⟩)
  (cc_20:codeIn K cd20 "_law_draws" = true)
  (kk_20:keepIn K (.ref f_qu)=true)
  (a_21:nsIn K mainGlobals "_law_take" = some (some (.ref f_qv)))
  (l_21:K.lookup f_qv=some ⟨oc21,od21,.func (fS "_law_take" "_law_take" uQ kV21 dc21 pm21 an21 cd21 ct21),sl21⟩)
  (cc_21:codeIn K cd21 "_law_take" = true)
  (kk_21:keepIn K (.ref f_qv)=true)
  (a_22:nsIn K mainGlobals "_law_hands" = some (some (.ref f_qw)))
  (l_22:K.lookup f_qw=some ⟨oc22,od22,.func (fS "_law_hands" "_law_hands" ZH kV22 dc22 pm22 an22 cd22 ct22),sl22⟩)
  (cc_22:codeIn K cd22 "_law_hands" = true)
  (kk_22:keepIn K (.ref f_qw)=true)
  (a_23:nsIn K mainGlobals "_law_lines" = some (some (.ref f_qx)))
  (l_23:K.lookup f_qx=some ⟨oc23,od23,.func (fS "_law_lines" "_law_lines" ZG kV23 dc23 pm23 an23 cd23 ct23),sl23⟩)
  (cc_23:codeIn K cd23 "_law_lines" = true)
  (kk_23:keepIn K (.ref f_qx)=true)
  (a_24:nsIn K mainGlobals "_law_expr" = some (some (.ref f_qy)))
  (l_24:K.lookup f_qy=some ⟨oc24,od24,.func (fS "_law_expr" "_law_expr" ZF kV24 dc24 pm24 an24 cd24 ct24),sl24⟩)
  (cc_24:codeIn K cd24 "_law_expr" = true)
  (kk_24:keepIn K (.ref f_qy)=true)
  (a_25:nsIn K mainGlobals "_law_program" = some (some (.ref f_qz)))
  (l_25:K.lookup f_qz=some ⟨oc25,od25,.func (fS "_law_program" "_law_program" ZE kV25 dc25 pm25 an25 cd25 ct25),sl25⟩)
  (cc_25:codeIn K cd25 "_law_program" = true)
  (kk_25:keepIn K (.ref f_qz)=true)
  (a_26:nsIn K mainGlobals "_law_heard_names" = some (some (.ref f_qA)))
  (l_26:K.lookup f_qA=some ⟨oc26,od26,.func (fS "_law_heard_names" "_law_heard_names" Yn kV26 dc26 pm26 an26 cd26 ct26),sl26⟩)
  (cc_26:codeIn K cd26 "_law_heard_names" = true)
  (kk_26:keepIn K (.ref f_qA)=true)
  (a_27:nsIn K mainGlobals "_law_made" = some (some (.ref f_qB)))
  (l_27:K.lookup f_qB=some ⟨oc27,od27,.func (fS "_law_made" "_law_made" Ym kV27 dc27 pm27 an27 cd27 ct27),sl27⟩)
  (cc_27:codeIn K cd27 "_law_made" = true)
  (kk_27:keepIn K (.ref f_qB)=true)
  (a_28:nsIn K mainGlobals "_law_program_made" = some (some (.ref f_qC)))
  (l_28:K.lookup f_qC=some ⟨oc28,od28,.func (fS "_law_program_made" "_law_program_made" Yl kV28 dc28 pm28 an28 cd28 ct28),sl28⟩)
  (cc_28:codeIn K cd28 "_law_program_made" = true)
  (kk_28:keepIn K (.ref f_qC)=true)
  (a_29:nsIn K mainGlobals "_law_copied" = some (some (.ref f_qD)))
  (l_29:K.lookup f_qD=some ⟨oc29,od29,.func (fS "_law_copied" "_law_copied" Yk kV29 dc29 pm29 an29 cd29 ct29),sl29⟩)
  (cc_29:codeIn K cd29 "_law_copied" = true)
  (kk_29:keepIn K (.ref f_qD)=true)
  (a_30:nsIn K mainGlobals "law" = some (some (.ref f_qE)))
  (l_30:K.lookup f_qE=some ⟨oc30,od30,.func (fS "law" "law" uU kV30 dc30 pm30 an30 cd30 ct30),sl30⟩)
  (cc_30:codeIn K cd30 "law" = true)
  (kk_30:keepIn K (.ref f_qE)=true)
  (a_31:findIn K (.ref c_Num) "__init__" = some (some (.ref f_qF)))
  (i_31:isFn K (.ref f_qF)=true)
  (l_31:K.lookup f_qF=some ⟨oc31,od31,.func (fS "__init__" "Num.__init__" Yj kV31 dc31 pm31 an31 cd31 ct31),sl31⟩)
  (cc_31:codeIn K cd31 "Num.__init__" = true)
  (kk_31:keepIn K (.ref f_qF)=true)
  (a_32:findIn K (.ref c_Num) "reckon" = some (some (.ref f_qG)))
  (i_32:isFn K (.ref f_qG)=true)
  (l_32:K.lookup f_qG=some ⟨oc32,od32,.func (fS "reckon" "Num.reckon" Yi kV32 dc32 pm32 an32 cd32 ct32),sl32⟩)
  (cc_32:codeIn K cd32 "Num.reckon" = true)
  (kk_32:keepIn K (.ref f_qG)=true)
  (a_33:findIn K (.ref c_Num) "words" = some (some (.ref f_qH)))
  (i_33:isFn K (.ref f_qH)=true)
  (l_33:K.lookup f_qH=some ⟨oc33,od33,.func (fS "words" "Num.words" Yh kV33 dc33 pm33 an33 cd33 ct33),sl33⟩)
  (cc_33:codeIn K cd33 "Num.words" = true)
  (kk_33:keepIn K (.ref f_qH)=true)
  (a_34:findIn K (.ref c_Name) "__init__" = some (some (.ref f_qI)))
  (i_34:isFn K (.ref f_qI)=true)
  (l_34:K.lookup f_qI=some ⟨oc34,od34,.func (fS "__init__" "Name.__init__" Yg kV34 dc34 pm34 an34 cd34 ct34),sl34⟩)
  (cc_34:codeIn K cd34 "Name.__init__" = true)
  (kk_34:keepIn K (.ref f_qI)=true)
  (a_35:findIn K (.ref c_Name) "reckon" = some (some (.ref f_qJ)))
  (i_35:isFn K (.ref f_qJ)=true)
  (l_35:K.lookup f_qJ=some ⟨oc35,od35,.func (fS "reckon" "Name.reckon" Yf kV35 dc35 pm35 an35 cd35 ct35),sl35⟩)
  (cc_35:codeIn K cd35 "Name.reckon" = true)
  (kk_35:keepIn K (.ref f_qJ)=true)
  (a_36:findIn K (.ref c_Name) "words" = some (some (.ref f_qK)))
  (i_36:isFn K (.ref f_qK)=true)
  (l_36:K.lookup f_qK=some ⟨oc36,od36,.func (fS "words" "Name.words" Ye kV36 dc36 pm36 an36 cd36 ct36),sl36⟩)
  (cc_36:codeIn K cd36 "Name.words" = true)
  (kk_36:keepIn K (.ref f_qK)=true)
  (a_37:findIn K (.ref c_Two) "__init__" = some (some (.ref f_qL)))
  (i_37:isFn K (.ref f_qL)=true)
  (l_37:K.lookup f_qL=some ⟨oc37,od37,.func (fS "__init__" "Two.__init__" Yd kV37 dc37 pm37 an37 cd37 ct37),sl37⟩)
  (cc_37:codeIn K cd37 "Two.__init__" = true)
  (kk_37:keepIn K (.ref f_qL)=true)
  (a_38:findIn K (.ref c_Two) "reckon" = some (some (.ref f_qM)))
  (i_38:isFn K (.ref f_qM)=true)
  (l_38:K.lookup f_qM=some ⟨oc38,od38,.func (fS "reckon" "Two.reckon" Yc kV38 dc38 pm38 an38 cd38 ct38),sl38⟩)
  (cc_38:codeIn K cd38 "Two.reckon" = true)
  (kk_38:keepIn K (.ref f_qM)=true)
  (a_39:findIn K (.ref c_Two) "words" = some (some (.ref f_qN)))
  (i_39:isFn K (.ref f_qN)=true)
  (l_39:K.lookup f_qN=some ⟨oc39,od39,.func (fS "words" "Two.words" Yb kV39 dc39 pm39 an39 cd39 ct39),sl39⟩)
  (cc_39:codeIn K cd39 "Two.words" = true)
  (kk_39:keepIn K (.ref f_qN)=true)
  (a_40:findIn K (.ref c_Mod) "__init__" = some (some (.ref f_qO)))
  (i_40:isFn K (.ref f_qO)=true)
  (l_40:K.lookup f_qO=some ⟨oc40,od40,.func (fS "__init__" "Mod.__init__" Ya kV40 dc40 pm40 an40 cd40 ct40),sl40⟩)
  (cc_40:codeIn K cd40 "Mod.__init__" = true)
  (kk_40:keepIn K (.ref f_qO)=true)
  (a_41:findIn K (.ref c_Mod) "reckon" = some (some (.ref f_qP)))
  (i_41:isFn K (.ref f_qP)=true)
  (l_41:K.lookup f_qP=some ⟨oc41,od41,.func (fS "reckon" "Mod.reckon" Z9 kV41 dc41 pm41 an41 cd41 ct41),sl41⟩)
  (cc_41:codeIn K cd41 "Mod.reckon" = true)
  (kk_41:keepIn K (.ref f_qP)=true)
  (a_42:findIn K (.ref c_Mod) "words" = some (some (.ref f_qQ)))
  (i_42:isFn K (.ref f_qQ)=true)
  (l_42:K.lookup f_qQ=some ⟨oc42,od42,.func (fS "words" "Mod.words" Z8 kV42 dc42 pm42 an42 cd42 ct42),sl42⟩)
  (cc_42:codeIn K cd42 "Mod.words" = true)
  (kk_42:keepIn K (.ref f_qQ)=true)
  (a_43:findIn K (.ref c_Less) "__init__" = some (some (.ref f_qR)))
  (i_43:isFn K (.ref f_qR)=true)
  (l_43:K.lookup f_qR=some ⟨oc43,od43,.func (fS "__init__" "Less.__init__" Z7 kV43 dc43 pm43 an43 cd43 ct43),sl43⟩)
  (cc_43:codeIn K cd43 "Less.__init__" = true)
  (kk_43:keepIn K (.ref f_qR)=true)
  (a_44:findIn K (.ref c_Less) "reckon" = some (some (.ref f_qS)))
  (i_44:isFn K (.ref f_qS)=true)
  (l_44:K.lookup f_qS=some ⟨oc44,od44,.func (fS "reckon" "Less.reckon" Z6 kV44 dc44 pm44 an44 cd44 ct44),sl44⟩)
  (cc_44:codeIn K cd44 "Less.reckon" = true)
  (kk_44:keepIn K (.ref f_qS)=true)
  (a_45:findIn K (.ref c_Less) "words" = some (some (.ref f_qT)))
  (i_45:isFn K (.ref f_qT)=true)
  (l_45:K.lookup f_qT=some ⟨oc45,od45,.func (fS "words" "Less.words" Z5 kV45 dc45 pm45 an45 cd45 ct45),sl45⟩)
  (cc_45:codeIn K cd45 "Less.words" = true)
  (kk_45:keepIn K (.ref f_qT)=true)
  (a_46:findIn K (.ref c_Program) "__init__" = some (some (.ref f_qU)))
  (i_46:isFn K (.ref f_qU)=true)
  (l_46:K.lookup f_qU=some ⟨oc46,od46,.func (fS "__init__" "Program.__init__" Z4 kV46 dc46 pm46 an46 cd46 ct46),sl46⟩)
  (cc_46:codeIn K cd46 "Program.__init__" = true)
  (kk_46:keepIn K (.ref f_qU)=true)
  (a_47:findIn K (.ref c_Program) "first_worth" = some (some (.ref f_qV)))
  (i_47:isFn K (.ref f_qV)=true)
  (l_47:K.lookup f_qV=some ⟨oc47,od47,.func (fS "first_worth" "Program.first_worth" uT kV47 dc47 pm47 an47 cd47 ct47),sl47⟩)
  (cc_47:codeIn K cd47 "Program.first_worth" = true)
  (kk_47:keepIn K (.ref f_qV)=true)
  (a_48:findIn K (.ref c_Program) "word_to" = some (some (.ref f_qW)))
  (i_48:isFn K (.ref f_qW)=true)
  (l_48:K.lookup f_qW=some ⟨oc48,od48,.func (fS "word_to" "Program.word_to" vL kV48 dc48 pm48 an48 cd48 ct48),sl48⟩)
  (cc_48:codeIn K cd48 "Program.word_to" = true)
  (kk_48:keepIn K (.ref f_qW)=true)
  (a_49:findIn K (.ref c_Program) "next_worth" = some (some (.ref f_qX)))
  (i_49:isFn K (.ref f_qX)=true)
  (l_49:K.lookup f_qX=some ⟨oc49,od49,.func (fS "next_worth" "Program.next_worth" uS kV49 dc49 pm49 an49 cd49 ct49),sl49⟩)
  (cc_49:codeIn K cd49 "Program.next_worth" = true)
  (kk_49:keepIn K (.ref f_qX)=true)
  (a_50:findIn K (.ref c_Web) "__init__" = some (some (.ref f_qY)))
  (i_50:isFn K (.ref f_qY)=true)
  (l_50:K.lookup f_qY=some ⟨oc50,od50,.func (fS "__init__" "Web.__init__" Z3 kV50 dc50 pm50 an50 cd50 ct50),sl50⟩)
  (cc_50:codeIn K cd50 "Web.__init__" = true)
  (kk_50:keepIn K (.ref f_qY)=true)
  (a_51:findIn K (.ref c_Web) "hands" = some (some (.ref f_qZ)))
  (i_51:isFn K (.ref f_qZ)=true)
  (l_51:K.lookup f_qZ=some ⟨oc51,od51,.func (fS "hands" "Web.hands" Z2 kV51 dc51 pm51 an51 cd51 ct51),sl51⟩)
  (cc_51:codeIn K cd51 "Web.hands" = true)
  (kk_51:keepIn K (.ref f_qZ)=true)
  (a_52:findIn K (.ref c_Web) "lines" = some (some (.ref f_qa0)))
  (i_52:isFn K (.ref f_qa0)=true)
  (l_52:K.lookup f_qa0=some ⟨oc52,od52,.func (fS "lines" "Web.lines" uq kV52 dc52 pm52 an52 cd52 ct52),sl52⟩)
  (cc_52:codeIn K cd52 "Web.lines" = true)
  (kk_52:keepIn K (.ref f_qa0)=true)
  (a_53:findIn K (.ref c_Web) "has_hand" = some (some (.ref f_qa1)))
  (i_53:isFn K (.ref f_qa1)=true)
  (l_53:K.lookup f_qa1=some ⟨oc53,od53,.func (fS "has_hand" "Web.has_hand" w8 kV53 dc53 pm53 an53 cd53 ct53),sl53⟩)
  (cc_53:codeIn K cd53 "Web.has_hand" = true)
  (kk_53:keepIn K (.ref f_qa1)=true)
  (a_54:findIn K (.ref c_Web) "neighbours" = some (some (.ref f_qa2)))
  (i_54:isFn K (.ref f_qa2)=true)
  (l_54:K.lookup f_qa2=some ⟨oc54,od54,.func (fS "neighbours" "Web.neighbours" w6 kV54 dc54 pm54 an54 cd54 ct54),sl54⟩)
  (cc_54:codeIn K cd54 "Web.neighbours" = true)
  (kk_54:keepIn K (.ref f_qa2)=true)
  (pg_Num:plainGet K c_Num Str.empty=true)
  (hd_Num:hasDictIn K c_Num=true)
  (po_Num:plainOver K c_Num=true)
  (sa_Num:findIn K (.ref c_Num) "__setattr__" = some (some (.builtin "object.__setattr__")))
  (mk_Num:makesIn K c_Num=true)
  (kc_Num:keepIn K (.ref c_Num)=true)
  (ha_Num:findIn K (.ref c_Num) "__class__" = some (some (.builtin "object.__class__")))
  (hm_Num:mroIn K c_Num (.type "object")=some true)
  (na_Num_value:findIn K (.ref c_Num) "value" = some none)
  (pg_Name:plainGet K c_Name Str.empty=true)
  (hd_Name:hasDictIn K c_Name=true)
  (po_Name:plainOver K c_Name=true)
  (sa_Name:findIn K (.ref c_Name) "__setattr__" = some (some (.builtin "object.__setattr__")))
  (mk_Name:makesIn K c_Name=true)
  (kc_Name:keepIn K (.ref c_Name)=true)
  (ha_Name:findIn K (.ref c_Name) "__class__" = some (some (.builtin "object.__class__")))
  (hm_Name:mroIn K c_Name (.type "object")=some true)
  (na_Name_word:findIn K (.ref c_Name) "word" = some none)
  (pg_Two:plainGet K c_Two Str.empty=true)
  (hd_Two:hasDictIn K c_Two=true)
  (po_Two:plainOver K c_Two=true)
  (sa_Two:findIn K (.ref c_Two) "__setattr__" = some (some (.builtin "object.__setattr__")))
  (mk_Two:makesIn K c_Two=true)
  (kc_Two:keepIn K (.ref c_Two)=true)
  (ha_Two:findIn K (.ref c_Two) "__class__" = some (some (.builtin "object.__class__")))
  (hm_Two:mroIn K c_Two (.type "object")=some true)
  (na_Two_word:findIn K (.ref c_Two) "word" = some none)
  (na_Two_one:findIn K (.ref c_Two) "one" = some none)
  (na_Two_other:findIn K (.ref c_Two) "other" = some none)
  (pg_Mod:plainGet K c_Mod Str.empty=true)
  (hd_Mod:hasDictIn K c_Mod=true)
  (po_Mod:plainOver K c_Mod=true)
  (sa_Mod:findIn K (.ref c_Mod) "__setattr__" = some (some (.builtin "object.__setattr__")))
  (mk_Mod:makesIn K c_Mod=true)
  (kc_Mod:keepIn K (.ref c_Mod)=true)
  (ha_Mod:findIn K (.ref c_Mod) "__class__" = some (some (.builtin "object.__class__")))
  (hm_Mod:mroIn K c_Mod (.type "object")=some true)
  (na_Mod_inner:findIn K (.ref c_Mod) "inner" = some none)
  (na_Mod_number:findIn K (.ref c_Mod) "number" = some none)
  (pg_Less:plainGet K c_Less Str.empty=true)
  (hd_Less:hasDictIn K c_Less=true)
  (po_Less:plainOver K c_Less=true)
  (sa_Less:findIn K (.ref c_Less) "__setattr__" = some (some (.builtin "object.__setattr__")))
  (mk_Less:makesIn K c_Less=true)
  (kc_Less:keepIn K (.ref c_Less)=true)
  (ha_Less:findIn K (.ref c_Less) "__class__" = some (some (.builtin "object.__class__")))
  (hm_Less:mroIn K c_Less (.type "object")=some true)
  (na_Less_one:findIn K (.ref c_Less) "one" = some none)
  (na_Less_other:findIn K (.ref c_Less) "other" = some none)
  (na_Less_third:findIn K (.ref c_Less) "third" = some none)
  (na_Less_fourth:findIn K (.ref c_Less) "fourth" = some none)
  (pg_Program:plainGet K c_Program Str.empty=true)
  (hd_Program:hasDictIn K c_Program=true)
  (po_Program:plainOver K c_Program=true)
  (sa_Program:findIn K (.ref c_Program) "__setattr__" = some (some (.builtin "object.__setattr__")))
  (mk_Program:makesIn K c_Program=true)
  (kc_Program:keepIn K (.ref c_Program)=true)
  (ha_Program:findIn K (.ref c_Program) "__class__" = some (some (.builtin "object.__class__")))
  (hm_Program:mroIn K c_Program (.type "object")=some true)
  (na_Program_start:findIn K (.ref c_Program) "start" = some none)
  (na_Program_send:findIn K (.ref c_Program) "send" = some none)
  (na_Program_when:findIn K (.ref c_Program) "when" = some none)
  (na_Program_renew:findIn K (.ref c_Program) "renew" = some none)
  (pg_Web:plainGet K c_Web Str.empty=true)
  (hd_Web:hasDictIn K c_Web=true)
  (po_Web:plainOver K c_Web=true)
  (sa_Web:findIn K (.ref c_Web) "__setattr__" = some (some (.builtin "object.__setattr__")))
  (mk_Web:makesIn K c_Web=true)
  (kc_Web:keepIn K (.ref c_Web)=true)
  (ha_Web:findIn K (.ref c_Web) "__class__" = some (some (.builtin "object.__class__")))
  (hm_Web:mroIn K c_Web (.type "object")=some true)
  (na_Web_own_hands:findIn K (.ref c_Web) "own_hands" = some none)
  (na_Web_own_lines:findIn K (.ref c_Web) "own_lines" = some none)
  (na_Web_near:findIn K (.ref c_Web) "near" = some none)
  (hn:specialIn K (.builtin "object.__class__") "__get__" = some (some (.builtin "getset_descriptor.__get__")))
  (htk:takesIn K (.builtin "object.__class__")=some true)
  (k_Num_Num:kitOne K (.ref c_Num) (.ref c_Num)=some true)
  (k_Name_Num:kitOne K (.ref c_Name) (.ref c_Num)=some false)
  (k_Name_Name:kitOne K (.ref c_Name) (.ref c_Name)=some true)
  (k_Two_Num:kitOne K (.ref c_Two) (.ref c_Num)=some false)
  (k_Two_Name:kitOne K (.ref c_Two) (.ref c_Name)=some false)
  (k_Two_Two:kitOne K (.ref c_Two) (.ref c_Two)=some true)
  (k_Mod_Num:kitOne K (.ref c_Mod) (.ref c_Num)=some false)
  (k_Mod_Name:kitOne K (.ref c_Mod) (.ref c_Name)=some false)
  (k_Mod_Two:kitOne K (.ref c_Mod) (.ref c_Two)=some false)
  (k_Mod_Mod:kitOne K (.ref c_Mod) (.ref c_Mod)=some true)
  (k_Less_Num:kitOne K (.ref c_Less) (.ref c_Num)=some false)
  (k_Less_Name:kitOne K (.ref c_Less) (.ref c_Name)=some false)
  (k_Less_Two:kitOne K (.ref c_Less) (.ref c_Two)=some false)
  (k_Less_Mod:kitOne K (.ref c_Less) (.ref c_Mod)=some false)
  (k_Less_Less:kitOne K (.ref c_Less) (.ref c_Less)=some true)
  (k_tint_tint:kitOne K (.type "int") (.type "int")=some true)
  (k_tint_tbool:kitOne K (.type "int") (.type "bool")=some false)
  (k_tstr_tstr:kitOne K (.type "str") (.type "str")=some true)
  (k_ttuple_ttuple:kitOne K (.type "tuple") (.type "tuple")=some true)
  (k_tint_ttuple:kitOne K (.type "int") (.type "tuple")=some false)
  (k_tstr_ttuple:kitOne K (.type "str") (.type "tuple")=some false)
  (k_tint_tstr:kitOne K (.type "int") (.type "str")=some false)
  (k_tstr_tint:kitOne K (.type "str") (.type "int")=some false)
  (k_tstr_tbool:kitOne K (.type "str") (.type "bool")=some false)
  (k_Program_Program:kitOne K (.ref c_Program) (.ref c_Program)=some true)
  (k_tNoneType_tbool:kitOne K (.type "NoneType") (.type "bool")=some false)
  (k_tlist_tlist:kitOne K (.type "list") (.type "list")=some true)
  (G_START_NAMES:nsIn K mainGlobals "START_NAMES" = some (some (.ref t_START_NAMES)))
  (L_START_NAMES:K.lookup t_START_NAMES=some ⟨.type "tuple",od_START_NAMES,.seq #[.str "me" u_START_NAMES0,.str "lines" u_START_NAMES1] n_START_NAMES,sl_START_NAMES⟩)
  (G_SEND_NAMES:nsIn K mainGlobals "SEND_NAMES" = some (some (.ref t_SEND_NAMES)))
  (L_SEND_NAMES:K.lookup t_SEND_NAMES=some ⟨.type "tuple",od_SEND_NAMES,.seq #[.str "worth" u_SEND_NAMES0,.str "me" u_SEND_NAMES1,.str "round" u_SEND_NAMES2,.str "lines" u_SEND_NAMES3,.str "to" u_SEND_NAMES4] n_SEND_NAMES,sl_SEND_NAMES⟩)
  (G_RENEW_NAMES:nsIn K mainGlobals "RENEW_NAMES" = some (some (.ref t_RENEW_NAMES)))
  (L_RENEW_NAMES:K.lookup t_RENEW_NAMES=some ⟨.type "tuple",od_RENEW_NAMES,.seq #[.str "worth" u_RENEW_NAMES0,.str "me" u_RENEW_NAMES1,.str "round" u_RENEW_NAMES2,.str "lines" u_RENEW_NAMES3,.str "sum" u_RENEW_NAMES4,.str "least" u_RENEW_NAMES5,.str "most" u_RENEW_NAMES6,.str "count" u_RENEW_NAMES7] n_RENEW_NAMES,sl_RENEW_NAMES⟩)
  (G_TWO_WORDS:nsIn K mainGlobals "TWO_WORDS" = some (some (.ref t_TWO_WORDS)))
  (L_TWO_WORDS:K.lookup t_TWO_WORDS=some ⟨.type "tuple",od_TWO_WORDS,.seq #[.str "add" u_TWO_WORDS0,.str "sub" u_TWO_WORDS1,.str "min" u_TWO_WORDS2,.str "max" u_TWO_WORDS3] n_TWO_WORDS,sl_TWO_WORDS⟩)
  (G_MOST_WORDS:nsIn K mainGlobals "MOST_WORDS" = some (some (.int 60 t_MOST_WORDS)))
  (G_MOST_DEEP:nsIn K mainGlobals "MOST_DEEP" = some (some (.int 8 t_MOST_DEEP)))
  (G_MOST_HANDS:nsIn K mainGlobals "MOST_HANDS" = some (some (.int 12 t_MOST_HANDS)))
  (G_LAST_HAND:nsIn K mainGlobals "LAST_HAND" = some (some (.int 99 t_LAST_HAND))) :
  ∃ a:Ad,Txt w K mg a:=by
 have F0:=zo (st:=Z1) l_0 cc_0 kk_0
 have F1:=zo (st:=Z0) l_1 cc_1 kk_1
 have F2:=zo (st:=ZZ) l_2 cc_2 kk_2
 have F3:=zo (st:=ZY) l_3 cc_3 kk_3
 have F4:=zo (st:=ZX) l_4 cc_4 kk_4
 have F5:=zo (st:=ZW) l_5 cc_5 kk_5
 have F6:=zo (st:=ZV) l_6 cc_6 kk_6
 have F7:=zo (st:=ZU) l_7 cc_7 kk_7
 have F8:=zo (st:=ZT) l_8 cc_8 kk_8
 have F9:=zo (st:=ZS) l_9 cc_9 kk_9
 have F10:=zo (st:=ZR) l_10 cc_10 kk_10
 have F11:=zo (st:=ZQ) l_11 cc_11 kk_11
 have F12:=zo (st:=ZP) l_12 cc_12 kk_12
 have F13:=zo (st:=ZO) l_13 cc_13 kk_13
 have F14:=zo (st:=uR) l_14 cc_14 kk_14
 have F15:=zo (st:=ZN) l_15 cc_15 kk_15
 have F16:=zo (st:=ZM) l_16 cc_16 kk_16
 have F17:=zo (st:=ZL) l_17 cc_17 kk_17
 have F18:=zo (st:=ZK) l_18 cc_18 kk_18
 have F19:=zo (st:=ZJ) l_19 cc_19 kk_19
 have F20:=zo (st:=ZI) l_20 cc_20 kk_20
 have F21:=zo (st:=uQ) l_21 cc_21 kk_21
 have F22:=zo (st:=ZH) l_22 cc_22 kk_22
 have F23:=zo (st:=ZG) l_23 cc_23 kk_23
 have F24:=zo (st:=ZF) l_24 cc_24 kk_24
 have F25:=zo (st:=ZE) l_25 cc_25 kk_25
 have F26:=zo (st:=Yn) l_26 cc_26 kk_26
 have F27:=zo (st:=Ym) l_27 cc_27 kk_27
 have F28:=zo (st:=Yl) l_28 cc_28 kk_28
 have F29:=zo (st:=Yk) l_29 cc_29 kk_29
 have F30:=zo (st:=uU) l_30 cc_30 kk_30
 have F31:=zo (st:=Yj) l_31 cc_31 kk_31
 have F32:=zo (st:=Yi) l_32 cc_32 kk_32
 have F33:=zo (st:=Yh) l_33 cc_33 kk_33
 have F34:=zo (st:=Yg) l_34 cc_34 kk_34
 have F35:=zo (st:=Yf) l_35 cc_35 kk_35
 have F36:=zo (st:=Ye) l_36 cc_36 kk_36
 have F37:=zo (st:=Yd) l_37 cc_37 kk_37
 have F38:=zo (st:=Yc) l_38 cc_38 kk_38
 have F39:=zo (st:=Yb) l_39 cc_39 kk_39
 have F40:=zo (st:=Ya) l_40 cc_40 kk_40
 have F41:=zo (st:=Z9) l_41 cc_41 kk_41
 have F42:=zo (st:=Z8) l_42 cc_42 kk_42
 have F43:=zo (st:=Z7) l_43 cc_43 kk_43
 have F44:=zo (st:=Z6) l_44 cc_44 kk_44
 have F45:=zo (st:=Z5) l_45 cc_45 kk_45
 have F46:=zo (st:=Z4) l_46 cc_46 kk_46
 have F47:=zo (st:=uT) l_47 cc_47 kk_47
 have F48:=zo (st:=vL) l_48 cc_48 kk_48
 have F49:=zo (st:=uS) l_49 cc_49 kk_49
 have F50:=zo (st:=Z3) l_50 cc_50 kk_50
 have F51:=zo (st:=Z2) l_51 cc_51 kk_51
 have F52:=zo (st:=uq) l_52 cc_52 kk_52
 have F53:=zo (st:=w8) l_53 cc_53 kk_53
 have F54:=zo (st:=w6) l_54 cc_54 kk_54
 refine⟨⟨f_qa,fS "first_worths" "first_worths" Z1 kV0 dc0 pm0 an0 cd0 ct0,f_qb,fS "heard_in" "heard_in" Z0 kV1 dc1 pm1 an1 cd1 ct1,f_qc,fS "worths_behind" "worths_behind" ZZ kV2 dc2 pm2 an2 cd2 ct2,f_qd,fS "run_pieces" "run_pieces" ZY kV3 dc3 pm3 an3 cd3 ct3,f_qe,fS "worths_by_pieces" "worths_by_pieces" ZX kV4 dc4 pm4 an4 cd4 ct4,f_qf,fS "heard_by_pieces" "heard_by_pieces" ZW kV5 dc5 pm5 an5 cd5 ct5,f_qg,fS "plain_worths" "plain_worths" ZV kV6 dc6 pm6 an6 cd6 ct6,f_qh,fS "plain_heard" "plain_heard" ZU kV7 dc7 pm7 an7 cd7 ct7,f_qi,fS "is_whole" "is_whole" ZT kV8 dc8 pm8 an8 cd8 ct8,f_qj,fS "is_short_number" "is_short_number" ZS kV9 dc9 pm9 an9 cd9 ct9,f_qk,fS "is_word_of" "is_word_of" ZR kV10 dc10 pm10 an10 cd10 ct10,f_ql,fS "is_divisor" "is_divisor" ZQ kV11 dc11 pm11 an11 cd11 ct11,f_qm,fS "are_sound" "are_sound" ZP kV12 dc12 pm12 an12 cd12 ct12,f_qn,fS "is_sound" "is_sound" ZO kV13 dc13 pm13 an13 cd13 ct13,f_qo,fS "count_words" "count_words" uR kV14 dc14 pm14 an14 cd14 ct14,f_qp,fS "are_hands" "are_hands" ZN kV15 dc15 pm15 an15 cd15 ct15,f_qq,fS "is_line" "is_line" ZM kV16 dc16 pm16 an16 cd16 ct16,f_qr,fS "are_lines" "are_lines" ZL kV17 dc17 pm17 an17 cd17 ct17,f_qs,fS "near_by_hand" "near_by_hand" ZK kV18 dc18 pm18 an18 cd18 ct18,f_qt,fS "_law_cell_at" "_law_cell_at" ZJ kV19 dc19 pm19 an19 cd19 ct19,f_qu,fS "_law_draws" "_law_draws" ZI kV20 dc20 pm20 an20 cd20 ct20,f_qv,fS "_law_take" "_law_take" uQ kV21 dc21 pm21 an21 cd21 ct21,f_qw,fS "_law_hands" "_law_hands" ZH kV22 dc22 pm22 an22 cd22 ct22,f_qx,fS "_law_lines" "_law_lines" ZG kV23 dc23 pm23 an23 cd23 ct23,f_qy,fS "_law_expr" "_law_expr" ZF kV24 dc24 pm24 an24 cd24 ct24,f_qz,fS "_law_program" "_law_program" ZE kV25 dc25 pm25 an25 cd25 ct25,f_qA,fS "_law_heard_names" "_law_heard_names" Yn kV26 dc26 pm26 an26 cd26 ct26,f_qB,fS "_law_made" "_law_made" Ym kV27 dc27 pm27 an27 cd27 ct27,f_qC,fS "_law_program_made" "_law_program_made" Yl kV28 dc28 pm28 an28 cd28 ct28,f_qD,fS "_law_copied" "_law_copied" Yk kV29 dc29 pm29 an29 cd29 ct29,f_qE,fS "law" "law" uU kV30 dc30 pm30 an30 cd30 ct30,f_qF,fS "__init__" "Num.__init__" Yj kV31 dc31 pm31 an31 cd31 ct31,f_qG,fS "reckon" "Num.reckon" Yi kV32 dc32 pm32 an32 cd32 ct32,f_qH,fS "words" "Num.words" Yh kV33 dc33 pm33 an33 cd33 ct33,f_qI,fS "__init__" "Name.__init__" Yg kV34 dc34 pm34 an34 cd34 ct34,f_qJ,fS "reckon" "Name.reckon" Yf kV35 dc35 pm35 an35 cd35 ct35,f_qK,fS "words" "Name.words" Ye kV36 dc36 pm36 an36 cd36 ct36,f_qL,fS "__init__" "Two.__init__" Yd kV37 dc37 pm37 an37 cd37 ct37,f_qM,fS "reckon" "Two.reckon" Yc kV38 dc38 pm38 an38 cd38 ct38,f_qN,fS "words" "Two.words" Yb kV39 dc39 pm39 an39 cd39 ct39,f_qO,fS "__init__" "Mod.__init__" Ya kV40 dc40 pm40 an40 cd40 ct40,f_qP,fS "reckon" "Mod.reckon" Z9 kV41 dc41 pm41 an41 cd41 ct41,f_qQ,fS "words" "Mod.words" Z8 kV42 dc42 pm42 an42 cd42 ct42,f_qR,fS "__init__" "Less.__init__" Z7 kV43 dc43 pm43 an43 cd43 ct43,f_qS,fS "reckon" "Less.reckon" Z6 kV44 dc44 pm44 an44 cd44 ct44,f_qT,fS "words" "Less.words" Z5 kV45 dc45 pm45 an45 cd45 ct45,f_qU,fS "__init__" "Program.__init__" Z4 kV46 dc46 pm46 an46 cd46 ct46,f_qV,fS "first_worth" "Program.first_worth" uT kV47 dc47 pm47 an47 cd47 ct47,f_qW,fS "word_to" "Program.word_to" vL kV48 dc48 pm48 an48 cd48 ct48,f_qX,fS "next_worth" "Program.next_worth" uS kV49 dc49 pm49 an49 cd49 ct49,f_qY,fS "__init__" "Web.__init__" Z3 kV50 dc50 pm50 an50 cd50 ct50,f_qZ,fS "hands" "Web.hands" Z2 kV51 dc51 pm51 an51 cd51 ct51,f_qa0,fS "lines" "Web.lines" uq kV52 dc52 pm52 an52 cd52 ct52,f_qa1,fS "has_hand" "Web.has_hand" w8 kV53 dc53 pm53 an53 cd53 ct53,f_qa2,fS "neighbours" "Web.neighbours" w6 kV54 dc54 pm54 an54 cd54 ct54,c_Num,c_Name,c_Two,c_Mod,c_Less,c_Program,c_Web,t_START_NAMES,t_SEND_NAMES,t_RENEW_NAMES,t_TWO_WORDS,t_MOST_WORDS,t_MOST_DEEP,t_MOST_HANDS,t_LAST_HAND⟩,?_⟩
 exact⟨mg_none_of X G z_len,
  mg_none_of X G z_int,
  mg_none_of X G z_min,
  mg_none_of X G z_max,
  mg_none_of X G z_range,
  mg_none_of X G z_isinstance,
  mg_none_of X G z_list,
  mg_none_of X G z_dict,
  mg_none_of X G z_abs,
  mg_none_of X G z_sorted,
  mg_none_of X G z_str,
  mg_none_of X G z_sum,
  mg_none_of X G z_bool,
  mg_none_of X G z_tuple,
  mg_none_of X G z_ValueError,
  F0,
  F0.binds (ps:=["web", "program"]) fun _ _ _ _ _ _ us hl=>match us,hl with | [_,_],_=>rfl,
  mg_of X G a_0,
  F1,
  F1.binds (ps:=["web", "program", "worths", "turn"]) fun _ _ _ _ _ _ us hl=>match us,hl with | [_,_,_,_],_=>rfl,
  mg_of X G a_1,
  F2,
  F2.binds (ps:=["web", "program", "worths", "turn", "heard"]) fun _ _ _ _ _ _ us hl=>match us,hl with | [_,_,_,_,_],_=>rfl,
  mg_of X G a_2,
  F3,
  F3.binds (ps:=["pieces", "program"]) fun _ _ _ _ _ _ us hl=>match us,hl with | [_,_],_=>rfl,
  mg_of X G a_3,
  F4,
  F4.binds (ps:=["pieces", "program"]) fun _ _ _ _ _ _ us hl=>match us,hl with | [_,_],_=>rfl,
  mg_of X G a_4,
  F5,
  F5.binds (ps:=["pieces", "program"]) fun _ _ _ _ _ _ us hl=>match us,hl with | [_,_],_=>rfl,
  mg_of X G a_5,
  F6,
  F6.binds (ps:=["web", "program", "rounds"]) fun _ _ _ _ _ _ us hl=>match us,hl with | [_,_,_],_=>rfl,
  mg_of X G a_6,
  F7,
  F7.binds (ps:=["web", "program", "rounds"]) fun _ _ _ _ _ _ us hl=>match us,hl with | [_,_,_],_=>rfl,
  mg_of X G a_7,
  F8,
  F8.binds (ps:=["value"]) fun _ _ _ _ _ _ us hl=>match us,hl with | [_],_=>rfl,
  mg_of X G a_8,
  F9,
  F9.binds (ps:=["value"]) fun _ _ _ _ _ _ us hl=>match us,hl with | [_],_=>rfl,
  mg_of X G a_9,
  F10,
  F10.binds (ps:=["word", "words"]) fun _ _ _ _ _ _ us hl=>match us,hl with | [_,_],_=>rfl,
  mg_of X G a_10,
  F11,
  F11.binds (ps:=["number"]) fun _ _ _ _ _ _ us hl=>match us,hl with | [_],_=>rfl,
  mg_of X G a_11,
  F12,
  F12.binds (ps:=["parts", "names", "deep"]) fun _ _ _ _ _ _ us hl=>match us,hl with | [_,_,_],_=>rfl,
  mg_of X G a_12,
  F13,
  F13.binds (ps:=["expr", "names", "deep"]) fun _ _ _ _ _ _ us hl=>match us,hl with | [_,_,_],_=>rfl,
  mg_of X G a_13,
  F14,
  F14.binds (ps:=["exprs"]) fun _ _ _ _ _ _ us hl=>match us,hl with | [_],_=>rfl,
  mg_of X G a_14,
  F15,
  F15.binds (ps:=["hands"]) fun _ _ _ _ _ _ us hl=>match us,hl with | [_],_=>rfl,
  mg_of X G a_15,
  F16,
  F16.binds (ps:=["line", "hands"]) fun _ _ _ _ _ _ us hl=>match us,hl with | [_,_],_=>rfl,
  mg_of X G a_16,
  F17,
  F17.binds (ps:=["lines", "hands"]) fun _ _ _ _ _ _ us hl=>match us,hl with | [_,_],_=>rfl,
  mg_of X G a_17,
  F18,
  F18.binds (ps:=["hands", "lines"]) fun _ _ _ _ _ _ us hl=>match us,hl with | [_,_],_=>rfl,
  mg_of X G a_18,
  F19,
  F19.binds (ps:=["_law_script", "_law_k"]) fun _ _ _ _ _ _ us hl=>match us,hl with | [_,_],_=>rfl,
  mg_of X G a_19,
  F20,
  F20.binds (ps:=["_law_cell", "_law_many"]) fun _ _ _ _ _ _ us hl=>match us,hl with | [_,_],_=>rfl,
  mg_of X G a_20,
  F21,
  F21.binds (ps:=["_law_xs", "_law_size"]) fun _ _ _ _ _ _ us hl=>match us,hl with | [_,_],_=>rfl,
  mg_of X G a_21,
  F22,
  F22.binds (ps:=["_law_xs", "_law_most"]) fun _ _ _ _ _ _ us hl=>match us,hl with | [_,_],_=>rfl,
  mg_of X G a_22,
  F23,
  F23.binds (ps:=["_law_xs", "_law_hands_here"]) fun _ _ _ _ _ _ us hl=>match us,hl with | [_,_],_=>rfl,
  mg_of X G a_23,
  F24,
  F24.binds (ps:=["_law_xs", "_law_names", "_law_deep"]) fun _ _ _ _ _ _ us hl=>match us,hl with | [_,_,_],_=>rfl,
  mg_of X G a_24,
  F25,
  F25.binds (ps:=["_law_cell"]) fun _ _ _ _ _ _ us hl=>match us,hl with | [_],_=>rfl,
  mg_of X G a_25,
  F26,
  F26.binds (ps:=[]) fun _ _ _ _ _ _ us hl=>match us,hl with | [],_=>rfl,
  mg_of X G a_26,
  F27,
  F27.binds (ps:=["_law_told"]) fun _ _ _ _ _ _ us hl=>match us,hl with | [_],_=>rfl,
  mg_of X G a_27,
  F28,
  F28.binds (ps:=["_law_program_here"]) fun _ _ _ _ _ _ us hl=>match us,hl with | [_],_=>rfl,
  mg_of X G a_28,
  F29,
  F29.binds (ps:=["_law_worths", "_law_heard"]) fun _ _ _ _ _ _ us hl=>match us,hl with | [_,_],_=>rfl,
  mg_of X G a_29,
  F30,
  F30.binds (ps:=["_law_script"]) fun _ _ _ _ _ _ us hl=>match us,hl with | [_],_=>rfl,
  fun s v=>.of_eq rfl,
  mg_of X G a_30,
  F31,
  F31.binds (ps:=["self", "value"]) fun _ _ _ _ _ _ us hl=>match us,hl with | [_,_],_=>rfl,
  F32,
  F32.binds (ps:=["self", "worths"]) fun _ _ _ _ _ _ us hl=>match us,hl with | [_,_],_=>rfl,
  ⟨a_32,i_32,kk_32⟩,
  F33,
  F33.binds (ps:=["self"]) fun _ _ _ _ _ _ us hl=>match us,hl with | [_],_=>rfl,
  ⟨a_33,i_33,kk_33⟩,
  F34,
  F34.binds (ps:=["self", "word"]) fun _ _ _ _ _ _ us hl=>match us,hl with | [_,_],_=>rfl,
  F35,
  F35.binds (ps:=["self", "worths"]) fun _ _ _ _ _ _ us hl=>match us,hl with | [_,_],_=>rfl,
  ⟨a_35,i_35,kk_35⟩,
  F36,
  F36.binds (ps:=["self"]) fun _ _ _ _ _ _ us hl=>match us,hl with | [_],_=>rfl,
  ⟨a_36,i_36,kk_36⟩,
  F37,
  F37.binds (ps:=["self", "word", "one", "other"]) fun _ _ _ _ _ _ us hl=>match us,hl with | [_,_,_,_],_=>rfl,
  F38,
  F38.binds (ps:=["self", "worths"]) fun _ _ _ _ _ _ us hl=>match us,hl with | [_,_],_=>rfl,
  ⟨a_38,i_38,kk_38⟩,
  F39,
  F39.binds (ps:=["self"]) fun _ _ _ _ _ _ us hl=>match us,hl with | [_],_=>rfl,
  ⟨a_39,i_39,kk_39⟩,
  F40,
  F40.binds (ps:=["self", "inner", "number"]) fun _ _ _ _ _ _ us hl=>match us,hl with | [_,_,_],_=>rfl,
  F41,
  F41.binds (ps:=["self", "worths"]) fun _ _ _ _ _ _ us hl=>match us,hl with | [_,_],_=>rfl,
  ⟨a_41,i_41,kk_41⟩,
  F42,
  F42.binds (ps:=["self"]) fun _ _ _ _ _ _ us hl=>match us,hl with | [_],_=>rfl,
  ⟨a_42,i_42,kk_42⟩,
  F43,
  F43.binds (ps:=["self", "one", "other", "third", "fourth"]) fun _ _ _ _ _ _ us hl=>match us,hl with | [_,_,_,_,_],_=>rfl,
  F44,
  F44.binds (ps:=["self", "worths"]) fun _ _ _ _ _ _ us hl=>match us,hl with | [_,_],_=>rfl,
  ⟨a_44,i_44,kk_44⟩,
  F45,
  F45.binds (ps:=["self"]) fun _ _ _ _ _ _ us hl=>match us,hl with | [_],_=>rfl,
  ⟨a_45,i_45,kk_45⟩,
  F46,
  F46.binds (ps:=["self", "start", "send", "when", "renew"]) fun _ _ _ _ _ _ us hl=>match us,hl with | [_,_,_,_,_],_=>rfl,
  F47,
  F47.binds (ps:=["self", "hand", "lines"]) fun _ _ _ _ _ _ us hl=>match us,hl with | [_,_,_],_=>rfl,
  ⟨a_47,i_47,kk_47⟩,
  F48,
  F48.binds (ps:=["self", "worth", "hand", "turn", "lines", "other"]) fun _ _ _ _ _ _ us hl=>match us,hl with | [_,_,_,_,_,_],_=>rfl,
  ⟨a_48,i_48,kk_48⟩,
  F49,
  F49.binds (ps:=["self", "worth", "hand", "turn", "lines", "heard"]) fun _ _ _ _ _ _ us hl=>match us,hl with | [_,_,_,_,_,_],_=>rfl,
  ⟨a_49,i_49,kk_49⟩,
  F50,
  F50.binds (ps:=["self", "hands", "lines"]) fun _ _ _ _ _ _ us hl=>match us,hl with | [_,_,_],_=>rfl,
  F51,
  F51.binds (ps:=["self"]) fun _ _ _ _ _ _ us hl=>match us,hl with | [_],_=>rfl,
  ⟨a_51,i_51,kk_51⟩,
  F52,
  F52.binds (ps:=["self"]) fun _ _ _ _ _ _ us hl=>match us,hl with | [_],_=>rfl,
  ⟨a_52,i_52,kk_52⟩,
  F53,
  F53.binds (ps:=["self", "hand"]) fun _ _ _ _ _ _ us hl=>match us,hl with | [_,_],_=>rfl,
  ⟨a_53,i_53,kk_53⟩,
  F54,
  F54.binds (ps:=["self", "hand"]) fun _ _ _ _ _ _ us hl=>match us,hl with | [_,_],_=>rfl,
  ⟨a_54,i_54,kk_54⟩,
  mg_of X G A_Num,
  ⟨pg_Num,hd_Num,po_Num,sa_Num⟩,
  ⟨mk_Num,a_31,i_31,kc_Num⟩,
  fun H p dx fs e=>.ins e ⟨pg_Num,hd_Num,po_Num,sa_Num⟩ ha_Num hn htk hm_Num,
  na_Num_value,
  mg_of X G A_Name,
  ⟨pg_Name,hd_Name,po_Name,sa_Name⟩,
  ⟨mk_Name,a_34,i_34,kc_Name⟩,
  fun H p dx fs e=>.ins e ⟨pg_Name,hd_Name,po_Name,sa_Name⟩ ha_Name hn htk hm_Name,
  na_Name_word,
  mg_of X G A_Two,
  ⟨pg_Two,hd_Two,po_Two,sa_Two⟩,
  ⟨mk_Two,a_37,i_37,kc_Two⟩,
  fun H p dx fs e=>.ins e ⟨pg_Two,hd_Two,po_Two,sa_Two⟩ ha_Two hn htk hm_Two,
  na_Two_word,
  na_Two_one,
  na_Two_other,
  mg_of X G A_Mod,
  ⟨pg_Mod,hd_Mod,po_Mod,sa_Mod⟩,
  ⟨mk_Mod,a_40,i_40,kc_Mod⟩,
  fun H p dx fs e=>.ins e ⟨pg_Mod,hd_Mod,po_Mod,sa_Mod⟩ ha_Mod hn htk hm_Mod,
  na_Mod_inner,
  na_Mod_number,
  mg_of X G A_Less,
  ⟨pg_Less,hd_Less,po_Less,sa_Less⟩,
  ⟨mk_Less,a_43,i_43,kc_Less⟩,
  fun H p dx fs e=>.ins e ⟨pg_Less,hd_Less,po_Less,sa_Less⟩ ha_Less hn htk hm_Less,
  na_Less_one,
  na_Less_other,
  na_Less_third,
  na_Less_fourth,
  mg_of X G A_Program,
  ⟨pg_Program,hd_Program,po_Program,sa_Program⟩,
  ⟨mk_Program,a_46,i_46,kc_Program⟩,
  fun H p dx fs e=>.ins e ⟨pg_Program,hd_Program,po_Program,sa_Program⟩ ha_Program hn htk hm_Program,
  na_Program_start,
  na_Program_send,
  na_Program_when,
  na_Program_renew,
  mg_of X G A_Web,
  ⟨pg_Web,hd_Web,po_Web,sa_Web⟩,
  ⟨mk_Web,a_50,i_50,kc_Web⟩,
  fun H p dx fs e=>.ins e ⟨pg_Web,hd_Web,po_Web,sa_Web⟩ ha_Web hn htk hm_Web,
  na_Web_own_hands,
  na_Web_own_lines,
  na_Web_near,
  k_Num_Num,
  k_Name_Num,
  k_Name_Name,
  k_Two_Num,
  k_Two_Name,
  k_Two_Two,
  k_Mod_Num,
  k_Mod_Name,
  k_Mod_Two,
  k_Mod_Mod,
  k_Less_Num,
  k_Less_Name,
  k_Less_Two,
  k_Less_Mod,
  k_Less_Less,
  k_tint_tint,
  k_tint_tbool,
  k_tstr_tstr,
  k_ttuple_ttuple,
  k_tint_ttuple,
  k_tstr_ttuple,
  k_tint_tstr,
  k_tstr_tint,
  k_tstr_tbool,
  k_Program_Program,
  k_tNoneType_tbool,
  k_tlist_tlist,
  mg_of X G G_START_NAMES,
  fun H=>.inr ⟨_,_,_,L_START_NAMES,rfl,rfl,by show 2≤sizeLine;decide,by exact .cons ⟨_,rfl⟩ (.cons ⟨_,rfl⟩ (.nil))⟩,
  mg_of X G G_SEND_NAMES,
  fun H=>.inr ⟨_,_,_,L_SEND_NAMES,rfl,rfl,by show 5≤sizeLine;decide,by exact .cons ⟨_,rfl⟩ (.cons ⟨_,rfl⟩ (.cons ⟨_,rfl⟩ (.cons ⟨_,rfl⟩ (.cons ⟨_,rfl⟩ (.nil)))))⟩,
  mg_of X G G_RENEW_NAMES,
  fun H=>.inr ⟨_,_,_,L_RENEW_NAMES,rfl,rfl,by show 8≤sizeLine;decide,by exact .cons ⟨_,rfl⟩ (.cons ⟨_,rfl⟩ (.cons ⟨_,rfl⟩ (.cons ⟨_,rfl⟩ (.cons ⟨_,rfl⟩ (.cons ⟨_,rfl⟩ (.cons ⟨_,rfl⟩ (.cons ⟨_,rfl⟩ (.nil))))))))⟩,
  mg_of X G G_TWO_WORDS,
  fun H=>.inr ⟨_,_,_,L_TWO_WORDS,rfl,rfl,by show 4≤sizeLine;decide,by exact .cons ⟨_,rfl⟩ (.cons ⟨_,rfl⟩ (.cons ⟨_,rfl⟩ (.cons ⟨_,rfl⟩ (.nil))))⟩,
  mg_of X G G_MOST_WORDS,
  mg_of X G G_MOST_DEEP,
  mg_of X G G_MOST_HANDS,
  mg_of X G G_LAST_HAND⟩
end K04
open PySem PySem.W PyProof.Rows
set_option maxRecDepth 100000 in
set_option maxHeartbeats 0 in
theorem PySem.Challenge.cw_beatless_k21_plain_runs_told_again_holds : PySem.Challenge.rw_beatless_k21_plain_runs_told_again.Holds := by
 w_on;o_law
 refine holds_open (XP:=XL Hd.Q []) (YP:=(kHook Hd.K Hd.as Hd.asK).says) Hd.left Hd.hk.of Hd.hk.keeps
  (fun s z=>xl_of s (Hd.both z).1) XL.keeps (by rfl) (by rfl) (by rfl)
  (fun s z=>recFacts_of (Hd.both z).2) (by rfl) (by assumption) (by decide +kernel)
  ⟨rfl,rfl,rfl,rfl,rfl,by decide +kernel⟩ ?hw ?hc
 case hw=>w_witness2
 k_fill
 refine L2.walk_ofK (l:=PySem.Challenge.rw_beatless_k21_plain_runs_told_again) (n:=63) (k:=26) (x := "_law_script") (CX:=L2.CX0) (sp:=K04.spLaw) rfl (by decide) rfl ⟨rfl,by decide,by decide⟩ (fun w h Y=>PySem.W.kIn_of Y) ?F ?S ?C
 case F =>
  intro w mg fa h KX G hmg
  have T:∃ a,K04.Txt w (L2.KOf KX) mg a:=by
   dsimp only[L2.KOf]
   refine' K04.txt_mk KX G ?z_len ?z_int ?z_min ?z_max ?z_range ?z_isinstance ?z_list ?z_dict ?z_abs ?z_sorted ?z_str ?z_sum ?z_bool ?z_tuple ?z_ValueError ?A_Num ?A_Name ?A_Two ?A_Mod ?A_Less ?A_Program ?A_Web ?a_0 ?l_0 ?cc_0 ?kk_0 ?a_1 ?l_1 ?cc_1 ?kk_1 ?a_2 ?l_2 ?cc_2 ?kk_2 ?a_3 ?l_3 ?cc_3 ?kk_3 ?a_4 ?l_4 ?cc_4 ?kk_4 ?a_5 ?l_5 ?cc_5 ?kk_5 ?a_6 ?l_6 ?cc_6 ?kk_6 ?a_7 ?l_7 ?cc_7 ?kk_7 ?a_8 ?l_8 ?cc_8 ?kk_8 ?a_9 ?l_9 ?cc_9 ?kk_9 ?a_10 ?l_10 ?cc_10 ?kk_10 ?a_11 ?l_11 ?cc_11 ?kk_11 ?a_12 ?l_12 ?cc_12 ?kk_12 ?a_13 ?l_13 ?cc_13 ?kk_13 ?a_14 ?l_14 ?cc_14 ?kk_14 ?a_15 ?l_15 ?cc_15 ?kk_15 ?a_16 ?l_16 ?cc_16 ?kk_16 ?a_17 ?l_17 ?cc_17 ?kk_17 ?a_18 ?l_18 ?cc_18 ?kk_18 ?a_19 ?l_19 ?cc_19 ?kk_19 ?a_20 ?l_20 ?cc_20 ?kk_20 ?a_21 ?l_21 ?cc_21 ?kk_21 ?a_22 ?l_22 ?cc_22 ?kk_22 ?a_23 ?l_23 ?cc_23 ?kk_23 ?a_24 ?l_24 ?cc_24 ?kk_24 ?a_25 ?l_25 ?cc_25 ?kk_25 ?a_26 ?l_26 ?cc_26 ?kk_26 ?a_27 ?l_27 ?cc_27 ?kk_27 ?a_28 ?l_28 ?cc_28 ?kk_28 ?a_29 ?l_29 ?cc_29 ?kk_29 ?a_30 ?l_30 ?cc_30 ?kk_30 ?a_31 ?i_31 ?l_31 ?cc_31 ?kk_31 ?a_32 ?i_32 ?l_32 ?cc_32 ?kk_32 ?a_33 ?i_33 ?l_33 ?cc_33 ?kk_33 ?a_34 ?i_34 ?l_34 ?cc_34 ?kk_34 ?a_35 ?i_35 ?l_35 ?cc_35 ?kk_35 ?a_36 ?i_36 ?l_36 ?cc_36 ?kk_36 ?a_37 ?i_37 ?l_37 ?cc_37 ?kk_37 ?a_38 ?i_38 ?l_38 ?cc_38 ?kk_38 ?a_39 ?i_39 ?l_39 ?cc_39 ?kk_39 ?a_40 ?i_40 ?l_40 ?cc_40 ?kk_40 ?a_41 ?i_41 ?l_41 ?cc_41 ?kk_41 ?a_42 ?i_42 ?l_42 ?cc_42 ?kk_42 ?a_43 ?i_43 ?l_43 ?cc_43 ?kk_43 ?a_44 ?i_44 ?l_44 ?cc_44 ?kk_44 ?a_45 ?i_45 ?l_45 ?cc_45 ?kk_45 ?a_46 ?i_46 ?l_46 ?cc_46 ?kk_46 ?a_47 ?i_47 ?l_47 ?cc_47 ?kk_47 ?a_48 ?i_48 ?l_48 ?cc_48 ?kk_48 ?a_49 ?i_49 ?l_49 ?cc_49 ?kk_49 ?a_50 ?i_50 ?l_50 ?cc_50 ?kk_50 ?a_51 ?i_51 ?l_51 ?cc_51 ?kk_51 ?a_52 ?i_52 ?l_52 ?cc_52 ?kk_52 ?a_53 ?i_53 ?l_53 ?cc_53 ?kk_53 ?a_54 ?i_54 ?l_54 ?cc_54 ?kk_54 ?pg_Num ?hd_Num ?po_Num ?sa_Num ?mk_Num ?kc_Num ?ha_Num ?hm_Num ?na_Num_value ?pg_Name ?hd_Name ?po_Name ?sa_Name ?mk_Name ?kc_Name ?ha_Name ?hm_Name ?na_Name_word ?pg_Two ?hd_Two ?po_Two ?sa_Two ?mk_Two ?kc_Two ?ha_Two ?hm_Two ?na_Two_word ?na_Two_one ?na_Two_other ?pg_Mod ?hd_Mod ?po_Mod ?sa_Mod ?mk_Mod ?kc_Mod ?ha_Mod ?hm_Mod ?na_Mod_inner ?na_Mod_number ?pg_Less ?hd_Less ?po_Less ?sa_Less ?mk_Less ?kc_Less ?ha_Less ?hm_Less ?na_Less_one ?na_Less_other ?na_Less_third ?na_Less_fourth ?pg_Program ?hd_Program ?po_Program ?sa_Program ?mk_Program ?kc_Program ?ha_Program ?hm_Program ?na_Program_start ?na_Program_send ?na_Program_when ?na_Program_renew ?pg_Web ?hd_Web ?po_Web ?sa_Web ?mk_Web ?kc_Web ?ha_Web ?hm_Web ?na_Web_own_hands ?na_Web_own_lines ?na_Web_near ?hn ?htk ?k_Num_Num ?k_Name_Num ?k_Name_Name ?k_Two_Num ?k_Two_Name ?k_Two_Two ?k_Mod_Num ?k_Mod_Name ?k_Mod_Two ?k_Mod_Mod ?k_Less_Num ?k_Less_Name ?k_Less_Two ?k_Less_Mod ?k_Less_Less ?k_tint_tint ?k_tint_tbool ?k_tstr_tstr ?k_ttuple_ttuple ?k_tint_ttuple ?k_tstr_ttuple ?k_tint_tstr ?k_tstr_tint ?k_tstr_tbool ?k_Program_Program ?k_tNoneType_tbool ?k_tlist_tlist ?G_START_NAMES ?L_START_NAMES ?G_SEND_NAMES ?L_SEND_NAMES ?G_RENEW_NAMES ?L_RENEW_NAMES ?G_TWO_WORDS ?L_TWO_WORDS ?G_MOST_WORDS ?G_MOST_DEEP ?G_MOST_HANDS ?G_LAST_HAND
   (case z_len=>k_is)
   (case z_int=>k_is)
   (case z_min=>k_is)
   (case z_max=>k_is)
   (case z_range=>k_is)
   (case z_isinstance=>k_is)
   (case z_list=>k_is)
   (case z_dict=>k_is)
   (case z_abs=>k_is)
   (case z_sorted=>k_is)
   (case z_str=>k_is)
   (case z_sum=>k_is)
   (case z_bool=>k_is)
   (case z_tuple=>k_is)
   (case z_ValueError=>k_is)
   (case A_Num=>k_is)
   (case A_Name=>k_is)
   (case A_Two=>k_is)
   (case A_Mod=>k_is)
   (case A_Less=>k_is)
   (case A_Program=>k_is)
   (case A_Web=>k_is)
   (case a_0=>k_is)
   (case l_0=>k_is)
   (case cc_0=>k_is)
   (case kk_0=>k_is)
   (case a_1=>k_is)
   (case l_1=>k_is)
   (case cc_1=>k_is)
   (case kk_1=>k_is)
   (case a_2=>k_is)
   (case l_2=>k_is)
   (case cc_2=>k_is)
   (case kk_2=>k_is)
   (case a_3=>k_is)
   (case l_3=>k_is)
   (case cc_3=>k_is)
   (case kk_3=>k_is)
   (case a_4=>k_is)
   (case l_4=>k_is)
   (case cc_4=>k_is)
   (case kk_4=>k_is)
   (case a_5=>k_is)
   (case l_5=>k_is)
   (case cc_5=>k_is)
   (case kk_5=>k_is)
   (case a_6=>k_is)
   (case l_6=>k_is)
   (case cc_6=>k_is)
   (case kk_6=>k_is)
   (case a_7=>k_is)
   (case l_7=>k_is)
   (case cc_7=>k_is)
   (case kk_7=>k_is)
   (case a_8=>k_is)
   (case l_8=>k_is)
   (case cc_8=>k_is)
   (case kk_8=>k_is)
   (case a_9=>k_is)
   (case l_9=>k_is)
   (case cc_9=>k_is)
   (case kk_9=>k_is)
   (case a_10=>k_is)
   (case l_10=>k_is)
   (case cc_10=>k_is)
   (case kk_10=>k_is)
   (case a_11=>k_is)
   (case l_11=>k_is)
   (case cc_11=>k_is)
   (case kk_11=>k_is)
   (case a_12=>k_is)
   (case l_12=>k_is)
   (case cc_12=>k_is)
   (case kk_12=>k_is)
   (case a_13=>k_is)
   (case l_13=>k_is)
   (case cc_13=>k_is)
   (case kk_13=>k_is)
   (case a_14=>k_is)
   (case l_14=>k_is)
   (case cc_14=>k_is)
   (case kk_14=>k_is)
   (case a_15=>k_is)
   (case l_15=>k_is)
   (case cc_15=>k_is)
   (case kk_15=>k_is)
   (case a_16=>k_is)
   (case l_16=>k_is)
   (case cc_16=>k_is)
   (case kk_16=>k_is)
   (case a_17=>k_is)
   (case l_17=>k_is)
   (case cc_17=>k_is)
   (case kk_17=>k_is)
   (case a_18=>k_is)
   (case l_18=>k_is)
   (case cc_18=>k_is)
   (case kk_18=>k_is)
   (case a_19=>k_is)
   (case l_19=>k_is)
   (case cc_19=>k_is)
   (case kk_19=>k_is)
   (case a_20=>k_is)
   (case l_20=>k_is)
   (case cc_20=>k_is)
   (case kk_20=>k_is)
   (case a_21=>k_is)
   (case l_21=>k_is)
   (case cc_21=>k_is)
   (case kk_21=>k_is)
   (case a_22=>k_is)
   (case l_22=>k_is)
   (case cc_22=>k_is)
   (case kk_22=>k_is)
   (case a_23=>k_is)
   (case l_23=>k_is)
   (case cc_23=>k_is)
   (case kk_23=>k_is)
   (case a_24=>k_is)
   (case l_24=>k_is)
   (case cc_24=>k_is)
   (case kk_24=>k_is)
   (case a_25=>k_is)
   (case l_25=>k_is)
   (case cc_25=>k_is)
   (case kk_25=>k_is)
   (case a_26=>k_is)
   (case l_26=>k_is)
   (case cc_26=>k_is)
   (case kk_26=>k_is)
   (case a_27=>k_is)
   (case l_27=>k_is)
   (case cc_27=>k_is)
   (case kk_27=>k_is)
   (case a_28=>k_is)
   (case l_28=>k_is)
   (case cc_28=>k_is)
   (case kk_28=>k_is)
   (case a_29=>k_is)
   (case l_29=>k_is)
   (case cc_29=>k_is)
   (case kk_29=>k_is)
   (case a_30=>k_is)
   (case l_30=>k_is)
   (case cc_30=>k_is)
   (case kk_30=>k_is)
   (case a_31=>k_is)
   (case i_31=>k_is)
   (case l_31=>k_is)
   (case cc_31=>k_is)
   (case kk_31=>k_is)
   (case a_32=>k_is)
   (case i_32=>k_is)
   (case l_32=>k_is)
   (case cc_32=>k_is)
   (case kk_32=>k_is)
   (case a_33=>k_is)
   (case i_33=>k_is)
   (case l_33=>k_is)
   (case cc_33=>k_is)
   (case kk_33=>k_is)
   (case a_34=>k_is)
   (case i_34=>k_is)
   (case l_34=>k_is)
   (case cc_34=>k_is)
   (case kk_34=>k_is)
   (case a_35=>k_is)
   (case i_35=>k_is)
   (case l_35=>k_is)
   (case cc_35=>k_is)
   (case kk_35=>k_is)
   (case a_36=>k_is)
   (case i_36=>k_is)
   (case l_36=>k_is)
   (case cc_36=>k_is)
   (case kk_36=>k_is)
   (case a_37=>k_is)
   (case i_37=>k_is)
   (case l_37=>k_is)
   (case cc_37=>k_is)
   (case kk_37=>k_is)
   (case a_38=>k_is)
   (case i_38=>k_is)
   (case l_38=>k_is)
   (case cc_38=>k_is)
   (case kk_38=>k_is)
   (case a_39=>k_is)
   (case i_39=>k_is)
   (case l_39=>k_is)
   (case cc_39=>k_is)
   (case kk_39=>k_is)
   (case a_40=>k_is)
   (case i_40=>k_is)
   (case l_40=>k_is)
   (case cc_40=>k_is)
   (case kk_40=>k_is)
   (case a_41=>k_is)
   (case i_41=>k_is)
   (case l_41=>k_is)
   (case cc_41=>k_is)
   (case kk_41=>k_is)
   (case a_42=>k_is)
   (case i_42=>k_is)
   (case l_42=>k_is)
   (case cc_42=>k_is)
   (case kk_42=>k_is)
   (case a_43=>k_is)
   (case i_43=>k_is)
   (case l_43=>k_is)
   (case cc_43=>k_is)
   (case kk_43=>k_is)
   (case a_44=>k_is)
   (case i_44=>k_is)
   (case l_44=>k_is)
   (case cc_44=>k_is)
   (case kk_44=>k_is)
   (case a_45=>k_is)
   (case i_45=>k_is)
   (case l_45=>k_is)
   (case cc_45=>k_is)
   (case kk_45=>k_is)
   (case a_46=>k_is)
   (case i_46=>k_is)
   (case l_46=>k_is)
   (case cc_46=>k_is)
   (case kk_46=>k_is)
   (case a_47=>k_is)
   (case i_47=>k_is)
   (case l_47=>k_is)
   (case cc_47=>k_is)
   (case kk_47=>k_is)
   (case a_48=>k_is)
   (case i_48=>k_is)
   (case l_48=>k_is)
   (case cc_48=>k_is)
   (case kk_48=>k_is)
   (case a_49=>k_is)
   (case i_49=>k_is)
   (case l_49=>k_is)
   (case cc_49=>k_is)
   (case kk_49=>k_is)
   (case a_50=>k_is)
   (case i_50=>k_is)
   (case l_50=>k_is)
   (case cc_50=>k_is)
   (case kk_50=>k_is)
   (case a_51=>k_is)
   (case i_51=>k_is)
   (case l_51=>k_is)
   (case cc_51=>k_is)
   (case kk_51=>k_is)
   (case a_52=>k_is)
   (case i_52=>k_is)
   (case l_52=>k_is)
   (case cc_52=>k_is)
   (case kk_52=>k_is)
   (case a_53=>k_is)
   (case i_53=>k_is)
   (case l_53=>k_is)
   (case cc_53=>k_is)
   (case kk_53=>k_is)
   (case a_54=>k_is)
   (case i_54=>k_is)
   (case l_54=>k_is)
   (case cc_54=>k_is)
   (case kk_54=>k_is)
   (case pg_Num=>k_is)
   (case hd_Num=>k_is)
   (case po_Num=>k_is)
   (case sa_Num=>k_is)
   (case mk_Num=>k_is)
   (case kc_Num=>k_is)
   (case ha_Num=>k_is)
   (case hm_Num=>k_is)
   (case na_Num_value=>k_is)
   (case pg_Name=>k_is)
   (case hd_Name=>k_is)
   (case po_Name=>k_is)
   (case sa_Name=>k_is)
   (case mk_Name=>k_is)
   (case kc_Name=>k_is)
   (case ha_Name=>k_is)
   (case hm_Name=>k_is)
   (case na_Name_word=>k_is)
   (case pg_Two=>k_is)
   (case hd_Two=>k_is)
   (case po_Two=>k_is)
   (case sa_Two=>k_is)
   (case mk_Two=>k_is)
   (case kc_Two=>k_is)
   (case ha_Two=>k_is)
   (case hm_Two=>k_is)
   (case na_Two_word=>k_is)
   (case na_Two_one=>k_is)
   (case na_Two_other=>k_is)
   (case pg_Mod=>k_is)
   (case hd_Mod=>k_is)
   (case po_Mod=>k_is)
   (case sa_Mod=>k_is)
   (case mk_Mod=>k_is)
   (case kc_Mod=>k_is)
   (case ha_Mod=>k_is)
   (case hm_Mod=>k_is)
   (case na_Mod_inner=>k_is)
   (case na_Mod_number=>k_is)
   (case pg_Less=>k_is)
   (case hd_Less=>k_is)
   (case po_Less=>k_is)
   (case sa_Less=>k_is)
   (case mk_Less=>k_is)
   (case kc_Less=>k_is)
   (case ha_Less=>k_is)
   (case hm_Less=>k_is)
   (case na_Less_one=>k_is)
   (case na_Less_other=>k_is)
   (case na_Less_third=>k_is)
   (case na_Less_fourth=>k_is)
   (case pg_Program=>k_is)
   (case hd_Program=>k_is)
   (case po_Program=>k_is)
   (case sa_Program=>k_is)
   (case mk_Program=>k_is)
   (case kc_Program=>k_is)
   (case ha_Program=>k_is)
   (case hm_Program=>k_is)
   (case na_Program_start=>k_is)
   (case na_Program_send=>k_is)
   (case na_Program_when=>k_is)
   (case na_Program_renew=>k_is)
   (case pg_Web=>k_is)
   (case hd_Web=>k_is)
   (case po_Web=>k_is)
   (case sa_Web=>k_is)
   (case mk_Web=>k_is)
   (case kc_Web=>k_is)
   (case ha_Web=>k_is)
   (case hm_Web=>k_is)
   (case na_Web_own_hands=>k_is)
   (case na_Web_own_lines=>k_is)
   (case na_Web_near=>k_is)
   (case hn=>k_is)
   (case htk=>k_is)
   (case k_Num_Num=>kit_is)
   (case k_Name_Num=>kit_is)
   (case k_Name_Name=>kit_is)
   (case k_Two_Num=>kit_is)
   (case k_Two_Name=>kit_is)
   (case k_Two_Two=>kit_is)
   (case k_Mod_Num=>kit_is)
   (case k_Mod_Name=>kit_is)
   (case k_Mod_Two=>kit_is)
   (case k_Mod_Mod=>kit_is)
   (case k_Less_Num=>kit_is)
   (case k_Less_Name=>kit_is)
   (case k_Less_Two=>kit_is)
   (case k_Less_Mod=>kit_is)
   (case k_Less_Less=>kit_is)
   (case k_tint_tint=>kit_is)
   (case k_tint_tbool=>kit_is)
   (case k_tstr_tstr=>kit_is)
   (case k_ttuple_ttuple=>kit_is)
   (case k_tint_ttuple=>kit_is)
   (case k_tstr_ttuple=>kit_is)
   (case k_tint_tstr=>kit_is)
   (case k_tstr_tint=>kit_is)
   (case k_tstr_tbool=>kit_is)
   (case k_Program_Program=>kit_is)
   (case k_tNoneType_tbool=>kit_is)
   (case k_tlist_tlist=>kit_is)
   (case G_START_NAMES=>k_is)
   (case L_START_NAMES=>k_is)
   (case G_SEND_NAMES=>k_is)
   (case L_SEND_NAMES=>k_is)
   (case G_RENEW_NAMES=>k_is)
   (case L_RENEW_NAMES=>k_is)
   (case G_TWO_WORDS=>k_is)
   (case L_TWO_WORDS=>k_is)
   (case G_MOST_WORDS=>k_is)
   (case G_MOST_DEEP=>k_is)
   (case G_MOST_HANDS=>k_is)
   (case G_LAST_HAND=>k_is)
  obtain⟨a,T⟩:=T
  have e0:=hmg.symm.trans T.g_qE
  cases e0
  exact⟨_,T.b0_qE,fun base kb nb=>K04.ok_law T⟩
 case S=>exact fun K H a ns hl hO hS=>K04.sp_law_of hl hO hS
 case C=>exact fun _ _ _ _ z=>z